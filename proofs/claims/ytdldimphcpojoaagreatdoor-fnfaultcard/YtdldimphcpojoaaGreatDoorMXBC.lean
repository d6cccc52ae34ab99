/-
  HO, HP, HQ, HR0. Own work.
-/
import Derived.Test.YtdldimphcpojoaaGreatDoorMXBB
import Derived.Test.YtdldimphcpojoaaGreatDoorMXAS
namespace Go.Proofs.YtdldimphcpojoaaGreatDoor
open Go.RowKit
set_option linter.unusedVariables false
def Fe (T:List Af) (lo hi:Nat):List Af:=(T.take hi).drop lo
theorem DQ {T:List Af}{lo hi:Nat}(h:hi≤T.length):(Fe T lo hi).length=hi - lo:=by simp[Fe];omega
theorem AB {T:List Af}{lo hi:Nat}{t:Af}{r:List Af}(a:hi≤T.length)(h:Fe T lo hi=t ::r):∃ b:lo < T.length,T[lo]=t∧Fe T (lo+1) hi=r∧lo < hi:=by
 have hl:=DQ (lo:=lo) a;rw[h,List.length_cons] at hl;have h1:lo < T.length:=by omega
 have e:Fe T lo hi=T[lo] ::Fe T (lo+1) hi:=by
  rw[Fe,List.drop_eq_getElem_cons (by simp;omega)];simp[Fe]
 rw[e] at h;injection h with h2 h3;exact ⟨h1,h2,h3,by omega⟩
theorem E6 {T:List Af}{lo hi:Nat}{l r:List Af}(a:hi≤T.length)(h:Fe T lo hi=l ++r)(b:lo≤hi):Fe T lo (lo+l.length)=l∧Fe T (lo+l.length) hi=r∧lo+l.length≤hi:=by
 have hl:=DQ (lo:=lo) a;rw[h,List.length_append] at hl;refine ⟨?_, ?_,by omega⟩
 ·have h2:(Fe T lo hi).take l.length=l:=by rw[h];simp
  rw[Fe,List.drop_take,List.take_take,Nat.min_eq_left (by omega)] at h2;rw[Fe,List.drop_take,show lo+l.length - lo=l.length by omega];exact h2
 ·have:(Fe T lo hi).drop l.length=r:=by rw[h];simp
  rw[← this];simp only[Fe];rw[List.drop_drop]
theorem KT {T:List Af}{lo hi:Nat}(a:hi≤T.length)(b:lo≤hi):T.drop lo=Fe T lo hi ++T.drop hi:=by
 have e:T=T.take hi ++T.drop hi:=(List.take_append_drop hi T).symm
 conv=>lhs;rw[e]
 rw[List.drop_append_of_le_length (by simp;omega)];rfl
theorem Vl {k:Nat}{t:Af}{op:Int}(h:CF k t=some op):∃ (s:List UInt8) (p:Nat),t.text=Ax s∧Fa[p]? =some s∧(∀ j,j < p→Fa[j]? ≠some s)∧op=11+(p:Int):=by
 obtain ⟨s,h1,h2⟩:=Fj h;have ht:t.text=Ax s:=by simp[see] at h2;exact h2.2
 have a:∃ p:Nat,Fa[p]? =some s∧(∀ j,j < p→Fa[j]? ≠some s)∧op=11+(p:Int):=by
  match k,h1 with
  | 0,h | 3,h=>cases h
  | 1,h=>revert h;simp only[Cy,List.mem_cons,List.mem_nil_iff,Prod.mk.injEq,or_false];rintro ⟨rfl,rfl⟩;exact ⟨15,by decide,by decide,rfl⟩
  | 2,h=>revert h;simp only[Cy,List.mem_cons,List.mem_nil_iff,Prod.mk.injEq,or_false];rintro ⟨rfl,rfl⟩;exact ⟨14,by decide,by decide,rfl⟩
  | 4,h=>
   revert h;simp only[Cy,List.mem_cons,List.mem_nil_iff,Prod.mk.injEq,or_false];rintro (⟨rfl,rfl⟩ | ⟨rfl,rfl⟩ | ⟨rfl,rfl⟩ | ⟨rfl,rfl⟩ | ⟨rfl,rfl⟩ | ⟨rfl,rfl⟩)
   ·exact ⟨8,by decide,by decide,rfl⟩
   ·exact ⟨9,by decide,by decide,rfl⟩
   ·exact ⟨10,by decide,by decide,rfl⟩
   ·exact ⟨11,by decide,by decide,rfl⟩
   ·exact ⟨12,by decide,by decide,rfl⟩
   ·exact ⟨13,by decide,by decide,rfl⟩
  | 5,h=>
   revert h;simp only[Cy,List.mem_cons,List.mem_nil_iff,Prod.mk.injEq,or_false];rintro (⟨rfl,rfl⟩ | ⟨rfl,rfl⟩ | ⟨rfl,rfl⟩ | ⟨rfl,rfl⟩)
   ·exact ⟨0,by decide,by decide,rfl⟩
   ·exact ⟨1,by decide,by decide,rfl⟩
   ·exact ⟨5,by decide,by decide,rfl⟩
   ·exact ⟨7,by decide,by decide,rfl⟩
  | 6,h=>
   revert h;simp only[Cy,List.mem_cons,List.mem_nil_iff,Prod.mk.injEq,or_false];rintro (⟨rfl,rfl⟩ | ⟨rfl,rfl⟩ | ⟨rfl,rfl⟩ | ⟨rfl,rfl⟩)
   ·exact ⟨2,by decide,by decide,rfl⟩
   ·exact ⟨3,by decide,by decide,rfl⟩
   ·exact ⟨4,by decide,by decide,rfl⟩
   ·exact ⟨6,by decide,by decide,rfl⟩
  | k+7,h=>cases h
 obtain ⟨p,e1,e2,e3⟩:=a;exact ⟨s,p,ht,e1,e2,e3⟩
def KU (B nb ga c:Nat) (T:List Af) (lo hi:Nat) (p:Pt):Prop:=
 ∀ (N:List Nd) (P:List Int) (nd pl:Value) (nv kv:List Value) (w:World),Ja w nb ga c T→EZ w B nb (.slice (some ⟨ga,0,none⟩) T.length c) N P nd pl nv kv→N.length+p.ex.cnt≤65535→P.length+p.ex.cnt≤65535→Calls Tryz.prog 30 #[.pointer (some ⟨nb,0,none⟩),.int .i64 (lo:Int),.int .i64 (hi:Int)] w (NB B nb (.slice (some ⟨ga,0,none⟩) T.length c) N (BI p.ex N.length) P (CX p.ex) nd pl nv kv w)
set_option maxRecDepth 100000
set_option maxHeartbeats 6400000
theorem Vm (w:World)(b:List Int)(a:Array Value)(n:Nat)(c:a.toList=AN b)(h:a.size=n)(hm:n≤maxLen):(w.alloc (.cells a 3)).ownsRow w.heap.size 3 1 (.slice (some ⟨w.heap.size,0,none⟩) n n) n (AN b):=by
 refine ⟨by rw[← c];simp[h],.inr ⟨w.heap.size,n,a,rfl,NLN,heap_alloc_new w _,NLN,hm,by omega, ?_⟩⟩;rw[Nat.mul_one,List.take_of_length_le (by simp;omega),c]
theorem Fl {w:World}{B b f c:Nat}{T:List Af}{N:List Nd}{P:List Int}{nd m:Value}{o p:List Value}(v:Ja w b f c T)(x:f < B)(hC:EZ w B b (.slice (some ⟨f,0,none⟩) T.length c) N P nd m o p)(y:N.length+1≤65535)(z:P.length+1≤65535)
  (a:List Int)(d:Array Value)(n:Nat)(s:d.toList=AN a)(h:d.size=n)(hm:n≤maxLen)(op:Int)(i:Nat)(hi:i < T.length):
  Calls Tryz.prog 58 #[.pointer (some ⟨b,0,none⟩),.agg #[.int .i64 op,.int .i64 0,.string ⟨#[]⟩,.slice none 0 0,.slice (some ⟨w.heap.size,0,none⟩) n n],.int .i64 (i:Int)] (w.alloc (.cells d 3)) fun r w'=>r= .returned (.int .i64 (N.length:Int))∧∃ g k,EZ w' B b (.slice (some ⟨f,0,none⟩) T.length c) (N ++ [⟨op,0,⟨#[]⟩, [],a⟩]) (P ++ [(T[i].at_:Int)]) g k (o ++ [.slice none 0 0]) (p ++ [.slice (some ⟨w.heap.size,0,none⟩) n n])∧Nk B b nd m w g k w':=by
 have l:=(Below.refl w.heap.size w).alloc NLN (.cells d 3);have A:a.length=n:=by
  have:=congrArg List.length s;simp[AN] at this;omega
 have t:B≤w.heap.size:=by have:=hC.row.lt;have:=hC.low;omega
 subst A;refine (Jb (v.below l) x (hC.below l) y z ⟨op,0,⟨#[]⟩, [],a⟩ none 0 (some ⟨w.heap.size,0,none⟩) a.length w.heap.size t (World.ownsRow_nil _ _ _ _) (Vm w a d a.length s h hm) (fun j u q hq e=>by cases e) (fun j u q hq e=>?_) (fun q hq e=>?_) i hi).mono ?_
 ·have h1:w.heap.size=q:=by simpa[Value.ownBlock] using e
  have:=(hC.nodes.lts.2.2 j u q hq).2;omega
 ·have h1:w.heap.size=q:=by simpa[Value.ownBlock] using hq
  have:=(hC.places.lt q e).2;omega
 ·rintro r w' ⟨h1,g,k,C,E⟩;exact ⟨h1,g,k,C,(Nk.of_all l t).trans E⟩
theorem Vn {B Y Z c:Nat}{T:List Af}(aa:Z < B)(hl:T.length≤4000){lo hi:Nat}(m:hi≤T.length)(b1:lo≤hi){t u v:Af}{a b d:List Af}{h g f:Pt}(hs:Fe T lo hi=t ::(a ++u ::(b ++v ::d)))(ht:see Du t=true)(hu:see BQ u=true)(aM:see AI v=true)(aN:G 0 a h)(aO:G 0 b g)(bt:G 0 d f)
  (ab:∀ ac O p,O≤T.length→ac≤O→O - ac < hi - lo→G 0 (Fe T ac O) p→KU B Y Z c T ac O p):KU B Y Z c T lo hi (.ite t.at_ h g f):=by
 intro N P nd ad ae af w Q hC ax aP;obtain ⟨ag,e1,ay,b2⟩:=AB m hs;obtain ⟨aQ,aR,bu⟩:=E6 m ay (by omega);obtain ⟨b3,bv,az,b4⟩:=AB m aR;obtain ⟨g1,g2,g3⟩:=E6 m az (by omega);obtain ⟨g4,g5,g6,g7⟩:=AB m g2;have aS:BW BQ (T.drop (lo+1)) 1 0 ((lo+1 :Nat):Int)=((lo+1+a.length:Nat):Int):=by
  rw[KT m (by omega),ay,List.append_assoc,aN.mat (.inl rfl) _ _ _ _ (by omega) (by omega),List.cons_append,Se hu (by decide)];omega
 have aT:BW AI (T.drop (lo+1+a.length+1)) 1 0 ((lo+1+a.length+1 :Nat):Int)=((lo+1+a.length+1+b.length:Nat):Int):=by
  rw[KT m (by omega),az,List.append_assoc,aO.mat (.inr rfl) _ _ _ _ (by omega) (by omega),List.cons_append,Se aM (by decide)];omega
 have aU:=Ab (Ga Q lo ag Du (Ax Du) rfl);rw[e1,ht] at aU;have ah:=Ab (fun (w':World) (aA:Below w.heap.size w w')=>KR (Q.below aA) hl (lo+1) (by omega) BQ (Ax BQ) rfl);have R:=Ab (fun (w':World) (aA:Below w.heap.size w w')=>KR (Q.below aA) hl (lo+1+a.length+1) (by omega) AI (Ax AI) rfl);rw[aS] at ah;rw[aT] at R;have ai:=Ab (ab (lo+1) (lo+1+a.length) h (by omega) (by omega) (by omega) (by rw[aQ];exact aN));have S:=Ab (ab (lo+1+a.length+1) (lo+1+a.length+1+b.length) g (by omega) (by omega) (by omega) (by rw[g1];exact aO));have U:=Ab (ab (lo+1+a.length+1+b.length+1) hi f (by omega) (by omega) (by omega) (by rw[g6];exact bt));have aj:=Ab Q;have bw:=Ab (And.intro ag e1);have b5:N.length+(h.ex.cnt+g.ex.cnt+f.ex.cnt+1)≤65535:=ax;have b6:P.length+(h.ex.cnt+g.ex.cnt+f.ex.cnt+1)≤65535:=aP;have bx:lo+1+a.length≤4000:=by omega
 have aV:lo+1+a.length+1+b.length+1≤4001:=by omega
 obtain ⟨aB,aW⟩:∃ aB,aB=lo+1+a.length:=⟨_,rfl⟩
 rw[← aW] at ah R ai S U bx aV;obtain ⟨aX,aY⟩:∃ aX,aX=aB+1+b.length:=⟨_,rfl⟩
 rw[← aY] at R S U aV;unfold KU at ai S U;simp only[Int.natCast_add,Int.natCast_one] at ah R ai S U;have b7:=ax;clear ax aP hs ay aQ aR bu bv az g1 g2 g3 g5 g6 aS aT aW aY ht hu aM ab Q e1;have b8:=Below.refl w.heap.size w;go_enter Tryz.func30,Tryz.ntmps30
 go_wp2_with fail
 refine (Aa aU).mono ?_;rintro r b9 ⟨rfl,V⟩;have bz:=hC.below V;dsimp only;go_wp2_with fail
 refine (Aa ah _ V).mono ?_;rintro r ca ⟨rfl,aZ⟩;have ak:=V.trans (aZ.mono V.size);dsimp only;go_wp2_with fail
 refine (Aa R _ ak).mono ?_;rintro r a0 ⟨rfl,a4⟩;have al:=ak.trans (a4.mono ak.size);have a5:=hC.below al;have a6:=(Aa aj).below al;have a7:Nk B Y nd ad w nd ad a0:=Nk.of_all al (by have:=hC.row.lt;have:=hC.low;omega);clear V aZ a4 ak bz;dsimp only;go_wp2_with fail
 refine (Aa ai N P nd ad ae af a0 a6 a5 (by omega) (by omega)).mono ?_;rintro r bA ⟨rfl,bB,bC,aC,aD,ao,a8,a9⟩;have ap:=a7.trans a8;have ba:=(Aa aj).of ao ap.low aa;obtain ⟨a1,A⟩:∃ a1:Int,a1=((N.length+(BI h.ex N.length).length - 1 :Nat):Int):=⟨_,rfl⟩
 obtain ⟨k,n⟩:∃ M,M=N ++BI h.ex N.length:=⟨_,rfl⟩
 obtain ⟨W,o⟩:∃ M,M=P ++CX h.ex:=⟨_,rfl⟩
 obtain ⟨bb,C⟩:∃ M,M=ae ++aC:=⟨_,rfl⟩
 obtain ⟨bc,E⟩:∃ M,M=af ++aD:=⟨_,rfl⟩
 rw[← n,← o,← C,← E] at ao;rw[← A];have i:k.length=N.length+h.ex.cnt:=by rw[n,List.length_append,Am]
 have j:W.length=P.length+h.ex.cnt:=by rw[o,List.length_append,AU]
 have bD:k.length+(g.ex.cnt+f.ex.cnt+1)≤65535:=by omega
 have bE:W.length+(g.ex.cnt+f.ex.cnt+1)≤65535:=by omega
 have bF:=Ab (And.intro A (And.intro n (And.intro o (And.intro C (And.intro E (And.intro i (And.intro j a9)))))));clear A n o C E i j a9 a7 a8 a5 a6;dsimp only;go_wp2_with fail
 refine (Aa S k W bB bC bb bc bA ba ao (by omega) (by omega)).mono ?_;rintro r bG ⟨rfl,GH,bH,aE,aF,aq,bd,bf⟩;have ar:=ap.trans bd;have bg:=(Aa aj).of aq ar.low aa;obtain ⟨a2,F⟩:∃ a2:Int,a2=((k.length+(BI g.ex k.length).length - 1 :Nat):Int):=⟨_,rfl⟩
 obtain ⟨l,s⟩:∃ M,M=k ++BI g.ex k.length:=⟨_,rfl⟩
 obtain ⟨X,x⟩:∃ M,M=W ++CX g.ex:=⟨_,rfl⟩
 obtain ⟨bh,H⟩:∃ M,M=bb ++aE:=⟨_,rfl⟩
 obtain ⟨bi,I⟩:∃ M,M=bc ++aF:=⟨_,rfl⟩
 rw[← s,← x,← H,← I] at aq;rw[← F];have i:l.length=k.length+g.ex.cnt:=by rw[s,List.length_append,Am]
 have j:X.length=W.length+g.ex.cnt:=by rw[x,List.length_append,AU]
 have bI:l.length+(f.ex.cnt+1)≤65535:=by omega
 have bJ:X.length+(f.ex.cnt+1)≤65535:=by omega
 have bK:=Ab (And.intro F (And.intro s (And.intro x (And.intro H (And.intro I (And.intro i (And.intro j (And.intro bf ap.low.size))))))));clear F s x H I i j bf ap bd ao ba bD bE;dsimp only;go_wp2_with fail
 refine (Aa U l X GH bH bh bi bG bg aq (by omega) (by omega)).mono ?_;rintro r au ⟨rfl,cb,cc,aG,aH,aI,bj,bk⟩;have aJ:=ar.trans bj;have bL:=(Aa aj).of aI aJ.low aa;obtain ⟨a3,J⟩:∃ a3:Int,a3=((l.length+(BI f.ex l.length).length - 1 :Nat):Int):=⟨_,rfl⟩
 obtain ⟨av,y⟩:∃ M,M=l ++BI f.ex l.length:=⟨_,rfl⟩
 obtain ⟨aK,z⟩:∃ M,M=X ++CX f.ex:=⟨_,rfl⟩
 obtain ⟨bM,K⟩:∃ M,M=bh ++aG:=⟨_,rfl⟩
 obtain ⟨bN,L⟩:∃ M,M=bi ++aH:=⟨_,rfl⟩
 rw[← y,← z,← K,← L] at aI;rw[← J];have i:av.length=l.length+f.ex.cnt:=by rw[y,List.length_append,Am]
 have j:aK.length=X.length+f.ex.cnt:=by rw[z,List.length_append,AU]
 have bO:av.length+1≤65535:=by omega
 have bP:aK.length+1≤65535:=by omega
 have bQ:=Ab (And.intro J (And.intro y (And.intro z (And.intro K (And.intro L (And.intro i (And.intro j (And.intro bk ar.low.size))))))));clear J y z K L i j bk ar bj aq bg bI bJ;dsimp only;go_wp2_with fail
 obtain ⟨ag,bR⟩:=Aa bw;refine (Fl bL aa aI bO bP [a1,a2,a3] _ 3 rfl rfl (by unfold maxLen;omega) 27 lo ag).mono ?_;rintro r bS ⟨rfl,bT,bU,aL,bl⟩;have bm:=aJ.trans bl;rw[bR] at aL;obtain ⟨A,n,o,C,E,i,j,bn⟩:=Aa bF;obtain ⟨F,s,x,H,I,aw,bV,bo,bp⟩:=Aa bK;obtain ⟨J,y,z,K,L,bq,bW,br,bs⟩:=Aa bQ;have bX:=aJ.low.size;have bY:=Ab (show NB B Y (.slice (some ⟨Z,0,none⟩) T.length c) N (BI (Pt.ite t.at_ h g f).ex N.length) P (CX (Pt.ite t.at_ h g f).ex) nd ad ae af w (.returned (.int .i64 (av.length:Int))) bS from by
  have bZ:av ++ [⟨27,0,⟨#[]⟩, [], [a1,a2,a3]⟩]=N ++BI (Pt.ite t.at_ h g f).ex N.length:=by
   have e1:a1=((N.length+h.ex.cnt - 1 :Nat):Int):=by rw[A,Am]
   have e2:a2=((N.length+h.ex.cnt+g.ex.cnt - 1 :Nat):Int):=by rw[F,Am,i]
   have e3:a3=((N.length+h.ex.cnt+g.ex.cnt+f.ex.cnt - 1 :Nat):Int):=by rw[J,Am,aw,i]
   rw[e1,e2,e3,y,aw,i,s,i,n,Pt.ex,BI];simp only[List.append_assoc]
  have b0:aK ++ [(t.at_:Int)]=P ++CX (Pt.ite t.at_ h g f).ex:=by
   rw[z,x,o,Pt.ex,CX];simp only[List.append_assoc]
  refine ⟨by rw[Am,Pt.ex,Ex.cnt,bq,aw,i];congr 2;omega,bT,bU,aC ++aE ++aG ++ [.slice none 0 0],aD ++aF ++aH ++ [.slice (some ⟨au.heap.size,0,none⟩) 3 3], ?_,bm, ?_⟩
  ·rw[← bZ,← b0];have e1:ae ++(aC ++aE ++aG ++ [.slice none 0 0])=bM ++ [.slice none 0 0]:=by rw[K,H,C];simp
   have e2:af ++(aD ++aF ++aH ++ [.slice (some ⟨au.heap.size,0,none⟩) 3 3])=bN ++ [.slice (some ⟨au.heap.size,0,none⟩) 3 3]:=by rw[L,I,E];simp
   rw[e1,e2];exact aL
  ·exact BP (BP (BP (AM bn al.size) (AM bo bp)) (AM br bs)) (CJ (fun q hq=>by
    have:au.heap.size=q:=by simpa[Value.ownBlock] using hq
    omega)))
 clear aL bl bm A n o C E i j bn F s x H I aw bV bo bp J y z K L bq bW br bs bX;dsimp only;go_wp2_with fail
 go_ret
 exact Aa bY
theorem OM (w:World)(s:List UInt8)(hs:s.length≤100:=by decide):Bg (w.alloc (.cells #[.string (Ax s)] 9)) (some ⟨w.heap.size,0,none⟩) 1 1 ([s].map Ax):=by
 refine ⟨rfl,NLN,by unfold maxLen;omega,fun j a=>?_,fun j a=>⟨w.heap.size,0,rfl,by simp, ?_⟩⟩
 ·have:j=0:=by omega
  subst this;show (Ax s).size≤maxLen;have e:(Ax s).size=s.length:=by simp[Ax,ByteArray.size]
  rw[e];unfold maxLen;omega
 ·have:j=0:=by omega
  subst this;exact cell_one_new w _ _ 0 _ rfl
def Wc:Nat→Nat
 | 0=>1 | 1=>2 | 2=>4 | 3=>5 | _=>6
def YS:Nat→Nat
 | 0=>1 | 1=>2 | 2=>3 | 3=>5 | 4=>6 | _=>7
def Ys (W:World) (gl:Nat):Prop:=gl < W.heap.size∧∀ lv,lv < 5→∃ gb n co,W.cell? ⟨gl,lv,none⟩=some (.slice (some ⟨gb,0,none⟩) n co)∧Bg W (some ⟨gb,0,none⟩) n co ((AW (Wc lv)).map Ax)
theorem Ys.below {a d:World}{b:Nat}(h:Ys a b)(c:Below a.heap.size a d):Ys d b:=
 ⟨Nat.lt_of_lt_of_le h.1 c.size,fun lv f=>by
  obtain ⟨g,n,i,h1,h2⟩:=h.2 lv f;exact ⟨g,n,i,(c.cell (p:=⟨b,lv,none⟩) h.1).trans h1,h2.below c NLN⟩⟩
def Xz (w:World):World:=w.alloc (.cells #[.string ⟨#[111,114]⟩] 9)
def XA (w:World):World:=(Xz w).alloc (.cells #[.string ⟨#[97,110,100]⟩] 9)
def XB (w:World):World:=(XA w).alloc (.cells #[.string ⟨#[61,61]⟩,.string ⟨#[33,61]⟩,.string ⟨#[60]⟩,.string ⟨#[60,61]⟩,.string ⟨#[105,110]⟩,.string ⟨#[119,105,116,104,105,110]⟩] 9)
def XC (w:World):World:=(XB w).alloc (.cells #[.string ⟨#[43]⟩,.string ⟨#[45]⟩,.string ⟨#[124]⟩,.string ⟨#[92]⟩] 9)
def XD (w:World):World:=(XC w).alloc (.cells #[.string ⟨#[42]⟩,.string ⟨#[47]⟩,.string ⟨#[37]⟩,.string ⟨#[38]⟩] 9)
def Yk (w:World):World:=(XD w).alloc (.cells #[.slice (some ⟨w.heap.size,0,none⟩) 1 1,.slice (some ⟨w.heap.size+1,0,none⟩) 1 1,.slice (some ⟨w.heap.size+1+1,0,none⟩) 6 6,.slice (some ⟨w.heap.size+1+1+1,0,none⟩) 4 4,.slice (some ⟨w.heap.size+1+1+1+1,0,none⟩) 4 4] 34)
theorem Fm (w:World)(a:Obj):Below w.heap.size w (w.alloc a):=(Below.refl w.heap.size w).alloc NLN a
theorem Vo (w:World):Ys (Yk w) (w.heap.size+5)∧Below w.heap.size w (Yk w):=by
 have b:(Xz w).heap.size=w.heap.size+1:=by simp[Xz]
 have c:(XA w).heap.size=w.heap.size+1+1:=by simp[XA,b]
 have d:(XB w).heap.size=w.heap.size+1+1+1:=by simp[XB,c]
 have f:(XC w).heap.size=w.heap.size+1+1+1+1:=by simp[XC,d]
 have g:(XD w).heap.size=w.heap.size+5:=by simp[XD,f]
 have b1:Below w.heap.size w (Xz w):=Fm w _;have b2:Below (Xz w).heap.size (Xz w) (XA w):=Fm _ _;have b3:Below (XA w).heap.size (XA w) (XB w):=Fm _ _;have b4:Below (XB w).heap.size (XB w) (XC w):=Fm _ _;have b5:Below (XC w).heap.size (XC w) (XD w):=Fm _ _;have a:Below (XD w).heap.size (XD w) (Yk w):=Fm _ _;have h:Bg (Xz w) (some ⟨w.heap.size,0,none⟩) 1 1 ((AW 1).map Ax):=OM w Wt;have i:Bg (XA w) (some ⟨w.heap.size+1,0,none⟩) 1 1 ((AW 2).map Ax):=by rw[← b];exact OM (Xz w) MK
 have j:Bg (XB w) (some ⟨w.heap.size+1+1,0,none⟩) 6 6 ((AW 4).map Ax):=by rw[← c];exact EH (XA w)
 have k:Bg (XC w) (some ⟨w.heap.size+1+1+1,0,none⟩) 4 4 ((AW 5).map Ax):=by rw[← d];exact FZ (XB w)
 have l:Bg (XD w) (some ⟨w.heap.size+1+1+1+1,0,none⟩) 4 4 ((AW 6).map Ax):=by rw[← f];exact FE (XC w)
 have m:=((((h.below b2 NLN).below b3 NLN).below b4 NLN).below b5 NLN).below a NLN;have n:=(((i.below b3 NLN).below b4 NLN).below b5 NLN).below a NLN;have o:=((j.below b4 NLN).below b5 NLN).below a NLN;have p:=(k.below b5 NLN).below a NLN;have q:=l.below a NLN;have R:=An.new (XD w) #[.slice (some ⟨w.heap.size,0,none⟩) 1 1,.slice (some ⟨w.heap.size+1,0,none⟩) 1 1,.slice (some ⟨w.heap.size+1+1,0,none⟩) 6 6,.slice (some ⟨w.heap.size+1+1+1,0,none⟩) 4 4,.slice (some ⟨w.heap.size+1+1+1+1,0,none⟩) 4 4] 34;rw[g] at R;refine ⟨⟨R.lt,fun lv r=>?_⟩,((((b1.trans (b2.mono b1.size)).trans (b3.mono (by omega))).trans (b4.mono (by omega))).trans (b5.mono (by omega))).trans (a.mono (by omega))⟩
 match lv,r with
 | 0,_=>exact ⟨_,_,_,R.cell 0,m⟩
 | 1,_=>exact ⟨_,_,_,R.cell 1,n⟩
 | 2,_=>exact ⟨_,_,_,R.cell 2,o⟩
 | 3,_=>exact ⟨_,_,_,R.cell 3,p⟩
 | 4,_=>exact ⟨_,_,_,R.cell 4,q⟩
theorem X5 {lv:Nat}{c:List Af}{p:Pt}(h5:lv < 5)(g:G (YS lv) c p)(h:lv=2→∀ t r,c=t ::r→see Ee t=false):
  (∃ l t r op a b,c=l ++t ::r∧p= .bin t.at_ op a b∧CF (Wc lv) t=some op∧G 0 l a∧G 0 r b∧∀ i,JB (Wc lv) c i=i+l.length)∨(G (YS (lv+1)) c p∧∀ i,JB (Wc lv) c i= -1):=by
 have bin:∀ k,(k=1∨k=2∨k=5∨k=6)→G k c p→(∃ l t r op a b,c=l ++t ::r∧p= .bin t.at_ op a b∧CF k t=some op∧G 0 l a∧G 0 r b∧∀ i,JB k c i=i+l.length)∨(G (k+1) c p∧∀ i,JB k c i= -1):=by
  intro k hk g;rcases g.cutB hk with ⟨l,t,r,op,a,b,rfl,rfl,ht,d,f⟩ | g
  ·exact .inl ⟨l,t,r,op,a,b,rfl,rfl,ht,d.low (by omega),f.low (by omega),fun i=>d.last_at (by omega) ht f (by omega) i⟩
  ·exact .inr ⟨g,fun i=>g.last_no (by omega) i⟩
 match lv,h5 with
 | 0,_=>exact bin 1 (by omega) g
 | 1,_=>exact bin 2 (by omega) g
 | 2,_=>
  rcases (show G 3 c p from g).cut3 with ⟨t,r,q,rfl,rfl,ht,_⟩ | g
  ·have:=h rfl t r rfl;rw[this] at ht;cases ht
  ·rcases g.cut4 with ⟨l,t,r,op,a,b,rfl,rfl,ht,d,f⟩ | g
   ·exact .inl ⟨l,t,r,op,a,b,rfl,rfl,ht,d.low (by omega),f.low (by omega),fun i=>d.last_at (by omega) ht f (by decide) i⟩
   ·exact .inr ⟨g,fun i=>g.last_no (by decide) i⟩
 | 3,_=>exact bin 5 (by omega) g
 | 4,_=>exact bin 6 (by omega) g
theorem Bj {w w':World}{a d c:Nat}{T:List Af}(f:Ja w a d c T)(g:Below w.heap.size w w')(i:Nat)(hi:i < T.length)(s:List UInt8)(b:Bool)(h:see s T[i]=b):
  Calls Tryz.prog 11 #[.pointer (some ⟨a,0,none⟩),.int .i64 (i:Int),.string (Ax s)] w' fun r j=>r= .returned (.bool b)∧Below w'.heap.size w' j:=by
 have:=Ga (f.below g) i hi s (Ax s) rfl;rw[h] at this;exact this
theorem DI {w:World}{B a b c:Nat}{T:List Af}{N:List Nd}{P:List Int}{nd f:Value}{g h:List Value}(k:Ja w a b c T)(l:b < B)(hC:EZ w B a (.slice (some ⟨b,0,none⟩) T.length c) N P nd f g h)(m:N.length+1≤65535)(n:P.length+1≤65535)(op num:Int)(d:ByteArray)(i:Nat)(hi:i < T.length):
  Calls Tryz.prog 58 #[.pointer (some ⟨a,0,none⟩),.agg #[.int .i64 op,.int .i64 num,.string d,.slice none 0 0,.slice none 0 0],.int .i64 (i:Int)] w (NB B a (.slice (some ⟨b,0,none⟩) T.length c) N [⟨op,num,d, [], []⟩] P [(T[i].at_:Int)] nd f g h w):=by
 have v:B≤w.heap.size:=by have:=hC.row.lt;have:=hC.low;omega
 refine (Jb k l hC m n ⟨op,num,d, [], []⟩ none 0 none 0 B NLN (World.ownsRow_nil _ _ _ _) (World.ownsRow_nil _ _ _ _) (fun j o q hq e=>by cases e) (fun j o q hq e=>by cases e) (fun q hq e=>by cases hq) i hi).mono ?_;rintro r w' ⟨h1,p,s,t,u⟩;exact ⟨by rw[h1];simp,p,s, [.slice none 0 0], [.slice none 0 0],t,u,CJ (fun q hq=>by cases hq)⟩
theorem Vp {a g:World}{B b d c:Nat}{T:List Af}{N:List Nd}{P:List Int}{nd k:Value}{l m:List Value}(p:Ja a b d c T)(s:d < B)(hC:EZ a B b (.slice (some ⟨d,0,none⟩) T.length c) N P nd k l m)(h:Below a.heap.size a g)(t:N.length+1≤65535)(u:P.length+1≤65535)(K:List ByteArray)(x:Option Addr)(f:Nat)(hu:g.ownsRow a.heap.size 9 1 (.slice x K.length f) K.length (K.map Value.string))(i:Nat)(hi:i < T.length):
  Calls Tryz.prog 58 #[.pointer (some ⟨b,0,none⟩),.agg #[.int .i64 4,.int .i64 0,.string ⟨#[]⟩,.slice x K.length f,.slice none 0 0],.int .i64 (i:Int)] g (NB B b (.slice (some ⟨d,0,none⟩) T.length c) N [⟨4,0,⟨#[]⟩,K, []⟩] P [(T[i].at_:Int)] nd k l m a):=by
 have n:B≤a.heap.size:=by have:=hC.row.lt;have:=hC.low;omega
 refine (Jb (p.below h) s (hC.below h) t u ⟨4,0,⟨#[]⟩,K, []⟩ x f none 0 B NLN (Ch hu n) (World.ownsRow_nil _ _ _ _) (fun j o q hq e=>?_) (fun j o q hq e=>by cases e) (fun q hq e=>by cases hq) i hi).mono ?_
 ·have h1:=(hC.nodes.lts.2.1 j o q hq).2;have h2:=(hu.lt q e).1;omega
 ·rintro r w' ⟨h1,v,w,y,z⟩;exact ⟨by rw[h1];simp,v,w, [.slice x K.length f], [.slice none 0 0],y,(Nk.of_all h n).trans z,CJ (fun q hq=>by cases hq)⟩
end Go.Proofs.YtdldimphcpojoaaGreatDoor
