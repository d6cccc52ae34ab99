/-
  VPN, ONC, OND, ONE. Own work.
-/
import Derived.Test.YtchakjeegneeoaaGreatDoorMXAN
import Derived.Deep.AppendLies
import Derived.Test.YtchakjeegneeoaaGreatDoorMXBC
namespace Go.Proofs.YtchakjeegneeoaaGreatDoor
set_option maxRecDepth 100000
set_option maxHeartbeats 6400000
open Go.RowKit
set_option linter.unusedVariables false
theorem QE {f:Int→List Int→List Int}{M:Nat}(hf:∀ k O,(f k O).length≤max O.length M+1)(top:Int):∀ (ks O:List Int),(Dh f top ks O).length≤max O.length M+ks.length+1
 | [],O=>by rw[Dh,zA,z7,List.length_nil];omega
 |k ::ks,O=>by
  rw[Dh];split
  ·rw[zA,z7,List.length_cons];omega
  ·have h1:=QE hf top ks (f k O);have h2:=hf k O;rw[List.length_cons];omega
theorem LP {K:List (List Int)}(h3:∀ ks∈K,ks.length≤3):∀ (n:Nat) (top:Int) (O:List Int),(Be K n top O).length≤max O.length (K.length+3 * n)+1
 | 0,top,O=>by rw[Be,zA,z7];omega
 |n+1,top,O=>by
  rw[Be];dsimp only;split
  ·rw[zA,z7];omega
  ·rename_i hc;have h1:=QE (M:=K.length+3 * n) (LP h3 n) top (K.getD top.toNat []) O;have h2:(K.getD top.toNat []).length≤3:=by
    rw[yG];cases e:K[top.toNat]? with
    |none=>simp
    |some ks=>exact h3 ks (z5 e)
   omega
def FV (w:World) (v:Value) (w':World) (v':Value):Prop:=(∀ k,k < w.heap.size→some k≠v.ownBlock→w'.heap[k]? =w.heap[k]?)∧(∀ q,v'.ownBlock=some q→v.ownBlock=some q∨w.heap.size≤q)∧w.heap.size≤w'.heap.size
theorem FV.refl (w:World)(v:Value):FV w v w v:=⟨fun _ _ _=>rfl,fun q h=> .inl h,NLN⟩
theorem FV.trans {w a w2:World}{v b c:Value}(h:FV w v a b)(k:FV a b w2 c):FV w v w2 c:=
 ⟨fun j d f=>(k.1 j (zM d h.2.2) (fun e=>by
  rcases h.2.1 j e.symm with e' | e'
  ·exact f e'.symm
  ·omega)).trans (h.1 j d f),fun q hq=>by
  rcases k.2.1 q hq with e | e
  ·exact h.2.1 q e
  ·exact .inr (zD h.2.2 e),zD h.2.2 k.2.2⟩
theorem Ef {w w':World}{o:Obj}{v:Value}{g n c:Nat}(a:(w.alloc o).grownBy w' v.ownBlock)(b:v.ownBlock=some g∨g=w.heap.size+1):FV w v w' (.slice (some ⟨g,0,none⟩) n c):=
 ⟨fun k hk d=>(a.block k (by simp;omega) d).trans (Below.heap_alloc w o k hk),fun q hq=>by
  have:g=q:=by simpa[Value.ownBlock] using hq
  subst this;rcases b with e | e
  ·exact .inl e
  ·right;omega,by have:=a.size;simp at this;omega⟩
theorem Al.keep {w w':World}{v v':Value}{b:Nat}{cs:Array Value}{t:TypeId}(R:Al w b cs t)(h:FV w v w' v')(a:v.ownBlock≠some b):Al w' b cs t:=⟨(h.1 b R.lt (fun e=>a e.symm)).trans R.out⟩
def Xm (B:Nat) (w:World) (v:Value) (R:List Int) (e:Ending) (w':World):Prop:=∃ v',e= .returned v'∧w'.ownsRow B 3 1 v' R.length (Ar R)∧Below B w w'∧FV w v w' v'
theorem Ez {w:World}{B:Nat}{v:Value}{O:List Int}{x:Int}(h:w.ownsRow B 3 1 v (O.length+1) (Ar O ++ [.int .i64 x])):w.ownsRow B 3 1 v (O ++ [x]).length (Ar (O ++ [x])):=by
 rw[zA,z7,Ar,zU];exact h
theorem Pa {K:List (List Int)}{n:Nat}{top:Int}{O:List Int}(h:top < 0∨(K.length:Int)≤top∨K.length < O.length):∀ fuel,Be K fuel top O=O ++ [-1]
 | 0=>rfl
 |n+1=>by rw[Be];exact if_pos h
theorem KJ (a:Option Addr)(n c:Nat)(B:Nat)(top:Int)(O:List Int)(v:Value)(w:World)(A:n≤4000)(h:top < 0∨(n:Int)≤top∨n < O.length)(C:O.length≤100000)(o:B≤w.heap.size)(j:w.ownsRow B 3 1 v O.length (Ar O)):
  Calls Tryz.prog 81 #[.slice a n c,.int .i64 top,v] w fun e w'=>Xm B w v (O ++ [-1]) e w':=by
 obtain ⟨i,hi,p,r,s⟩:=info_parts Jk;obtain ⟨E,F,rfl,_⟩:=Ad j;rcases (show top < 0∨(0≤top∧(n:Int)≤top)∨(0≤top∧top < n∧n < O.length) by omega) with h1 | ⟨h0,h2⟩ | ⟨h0,h2,h3⟩
 ·have t:top < 0:=h1;go_enter Tryz.func81,Tryz.ntmps81
  go_wp2_with (at_builtin;refine wpList_append_lies _ rfl _ _ 24 rfl B 3 i (.int .i64 0) 1 8 Tryz.underlying24 hi p r s rfl (by decide) _ _ _ rfl (World.ownsRow.alloc j _) ⟨w.heap.size,0,none⟩ 1 1 [.int .i64 (-1)] rfl rfl ?a1 ?a2 (by decide) ?a3 ?a4 ?a5 _ rfl ?_)
  first | (case a1=>exact Bj _ _ _ _ (by simp)) | skip
  case a2=>first | (intro u d;simp at d;subst d;rfl) | rfl
  case a3=>unfold maxLen;omega
  case a4=>omega
  case a5=>first | (simp;omega) | omega
  intro g cap x f b hat y;have k:=Ef (n:=O.length+1) (c:=cap) b hat;have l:=((Below.refl B w).alloc o (.cells #[.int .i64 (-1)] 3)).grown b (by simp;omega) (fun q hq=>(j.lt q hq).1);have m:=Ez f;clear b hat f;go_wp2_with fail
  go_ret
  exact ⟨_,rfl,m,l,k⟩
 ·have t: ¬ top < 0:=by omega
  have z:(n:Int)≤top:=h2;go_enter Tryz.func81,Tryz.ntmps81
  go_wp2_with (at_builtin;refine wpList_append_lies _ rfl _ _ 24 rfl B 3 i (.int .i64 0) 1 8 Tryz.underlying24 hi p r s rfl (by decide) _ _ _ rfl (World.ownsRow.alloc j _) ⟨w.heap.size,0,none⟩ 1 1 [.int .i64 (-1)] rfl rfl ?b1 ?b2 (by decide) ?b3 ?b4 ?b5 _ rfl ?_)
  first | (case b1=>exact Bj _ _ _ _ (by simp)) | skip
  case b2=>first | (intro u d;simp at d;subst d;rfl) | rfl
  case b3=>unfold maxLen;omega
  case b4=>omega
  case b5=>first | (simp;omega) | omega
  intro g cap x f b hat y;have k:=Ef (n:=O.length+1) (c:=cap) b hat;have l:=((Below.refl B w).alloc o (.cells #[.int .i64 (-1)] 3)).grown b (by simp;omega) (fun q hq=>(j.lt q hq).1);have m:=Ez f;clear b hat f;go_wp2_with fail
  go_ret
  exact ⟨_,rfl,m,l,k⟩
 ·have t: ¬ top < 0:=by omega
  have z: ¬ ((n:Int)≤top):=by omega
  have H:(n:Int) < (O.length:Int):=by omega
  go_enter Tryz.func81,Tryz.ntmps81
  go_wp2_with (at_builtin;refine wpList_append_lies _ rfl _ _ 24 rfl B 3 i (.int .i64 0) 1 8 Tryz.underlying24 hi p r s rfl (by decide) _ _ _ rfl (World.ownsRow.alloc j _) ⟨w.heap.size,0,none⟩ 1 1 [.int .i64 (-1)] rfl rfl ?c1 ?c2 (by decide) ?c3 ?c4 ?c5 _ rfl ?_)
  first | (case c1=>exact Bj _ _ _ _ (by simp)) | skip
  case c2=>first | (intro u d;simp at d;subst d;rfl) | rfl
  case c3=>unfold maxLen;omega
  case c4=>omega
  case c5=>first | (simp;omega) | omega
  intro g cap x f b hat y;have k:=Ef (n:=O.length+1) (c:=cap) b hat;have l:=((Below.refl B w).alloc o (.cells #[.int .i64 (-1)] 3)).grown b (by simp;omega) (fun q hq=>(j.lt q hq).1);have m:=Ez f;clear b hat f;go_wp2_with fail
  go_ret
  exact ⟨_,rfl,m,l,k⟩
theorem Wi {f:Int→List Int→List Int}{top:Int}{ks:List Int}{j:Nat}(a:j < ks.length)(O:List Int):Dh f top (ks.drop j) O=if top≤ks[j] then O ++ [-1] else Dh f top (ks.drop (j+1)) (f ks[j] O):=by
 rw[zg a,Dh]
theorem FR (a:Option Addr)(n c:Nat)(N:List Nd)(E:World)(B:Nat)(J:GQ E a n c N)(hB:E.heap.size≤B)(aa:n≤4000)(h3:∀ ks∈N.map Nd.kids,ks.length≤3):
  ∀ (fuel:Nat) (top:Int) (O:List Int) (v:Value) (w:World),fuel≤4000→(N.length≤fuel∨top < fuel)→O.length≤100000→Below E.heap.size E w→B≤w.heap.size→w.ownsRow B 3 1 v O.length (Ar O)→
  Calls Tryz.prog 81 #[.slice a n c,.int .i64 top,v] w fun e w'=>Xm B w v (Be (N.map Nd.kids) fuel top O) e w':=by
 have L:=Ab J.len;have M:=Ab (show (N.map Nd.kids).length=n by rw[zV,J.len]);have ab:=Ab h3;obtain ⟨i,hi,ac,ad,ae⟩:=info_parts Jk;intro fuel
 induction fuel with
 |zero=>
  intro top O v w _ hf P Q H r;have aE:=Aa L;rw[Pa (K:=N.map Nd.kids) (n:=n) (by rw[zV];omega) 0];exact KJ a n c B top O v w aa (by omega) P H r
 |succ fuel af=>
  intro top O v w aF hf P Q H r;by_cases h:top < 0∨(n:Int)≤top∨n < O.length
  ·rw[Pa (K:=N.map Nd.kids) (n:=n) (by rw[Aa M];exact h) (fuel+1)];exact KJ a n c B top O v w aa h P H r
  ·obtain ⟨t,rfl⟩:∃ t:Nat,top=(t:Int):=⟨top.toNat,by omega⟩
   have aq:t < n:=by omega
   have aG:O.length≤n:=by omega
   have S:t < N.length:=by rw[Aa L];exact aq
   have aH: ¬ ((t:Int) < 0):=by omega
   have aI: ¬ ((n:Int)≤(t:Int)):=by omega
   have aJ:(t:Int) < (n:Int):=by omega
   have aK: ¬ ((n:Int) < (O.length:Int)):=by omega
   have aL:t≤fuel:=by have:=Aa L;omega
   have ag:=Ab (show Be (N.map Nd.kids) (fuel+1) (t:Int) O=Dh (Be (N.map Nd.kids) fuel) (t:Int) (N[t].kids) O by
    rw[Be];dsimp only;rw[if_neg (by rw[Aa M];exact h),zj,yG,zh,zH S];rfl)
   have T:N[t].kids.length≤3:=Aa ab _ (List.mem_map_of_mem (zO S));rw[Aa ag];clear ag h;obtain ⟨b,ar,rfl,au,an,nn,aM,aN,m,aO,c0,c1,c2,c3,c4,av,I⟩:=J.cells t S;have c4:=(Q.cell (p:=⟨b,ar+t * 5+4,none⟩) au).trans c4;have U:=Ab (fun k O=>LP (K:=N.map Nd.kids) (Aa ab) fuel k O);rw[Aa M] at U;generalize N[t]=x at c0 c1 c2 c3 c4 av I T ⊢;generalize Be (N.map Nd.kids) fuel=F at af U ⊢;have ah:=Ab I.len;have aP:m≤3:=by rw[← I.len];exact T
   obtain ⟨aw,ax,rfl,_⟩:=Ad r;have ai:=Ab (show Dh F (t:Int) (x.kids.drop 0) O=Dh F (t:Int) x.kids O by rw[zs]);generalize Dh F (t:Int) x.kids O=R at ai ⊢;clear c0 c1 c2 c3 T;go_enter Tryz.func81,Tryz.ntmps81
   go_wp2_with fail
   go_loopw [2,33] (fun u i wr=>∃ (j:Nat) (d:List Int),j≤m∧i= .int .i64 j∧Hid (Dh F (t:Int) (x.kids.drop j) d=R)∧d.length≤n+3 * fuel+j∧wr.ownsRow B 3 1 u d.length (Ar d)∧Below B w wr∧FV w (.slice aw O.length ax) wr u) (fun _ i _=>m - (intOf i).toNat)
   case atStart=>exact ⟨0,O,by omega,rfl,ai,by omega,r,BRN,FV.refl _ _⟩
   case round=>
    obtain ⟨j,d,aQ,rfl,aj,aR,o,s,V⟩:=hrel;obtain ⟨aS,aT,rfl,_⟩:=Ad o;have W:=zD H s.size;have ak:=Q.trans (s.mono hB);by_cases al:j < m
    ·have aU:(j:Int) < (m:Int):=by omega
     have ao:j < x.kids.length:=by rw[Aa ah];exact al
     obtain ⟨aV,ok,rfl,aW,ay⟩:=(I.below ak NLN).cells j ao;have z:=Ab (Wi (f:=F) (top:=(t:Int)) ao d);rw[Aa aj] at z;have ap:=Ab al;generalize x.kids[j]=y at ay z;by_cases hy:(t:Int)≤y
     ·have A:=Ab (show R=d ++ [-1] by rw[Aa z,if_pos hy]);go_wp2_with (at_builtin;refine wpList_append_lies _ rfl _ _ 24 rfl B 3 i (.int .i64 0) 1 8 Tryz.underlying24 hi ac ad ae rfl (by decide) _ _ _ rfl (World.ownsRow.alloc o _) ⟨wr.heap.size,0,none⟩ 1 1 [.int .i64 (-1)] rfl rfl ?d1 ?d2 (by decide) ?d3 ?d4 ?d5 _ rfl ?_)
      first | (case d1=>exact Bj _ _ _ _ (by simp)) | skip
      case d2=>first | (intro u h;simp at h;subst h;rfl) | rfl
      case d3=>unfold maxLen;omega
      case d4=>omega
      case d5=>first | (simp;omega) | omega
      intro g cap az C l hat aA;have X:=Ef (n:=d.length+1) (c:=cap) l hat;have Y:=(s.alloc W (.cells #[.int .i64 (-1)] 3)).grown l (by simp;omega) (fun q hq=>(o.lt q hq).1);have Z:=Ez C;clear l hat C;go_wp2_with fail
      go_ret
      exact ⟨_,rfl,by rw[Aa A];exact Z,Y,V.trans X⟩
     ·have A:=Ab (show Dh F (t:Int) (x.kids.drop (j+1)) (F y d)=R by rw[Aa z,if_neg hy]);have aX:=Aa U y d;clear z;go_wp2_with (go_at_call 81;refine (af y d _ wr (by omega) (by omega) (by omega) ak W o).mono ?_;rintro e w2 ⟨aY,rfl,aB,aC,aD⟩)
      go_roundw
      case rel=>exact ⟨j+1,F y d,Aa ap,by go_num,A,by omega,aB,s.trans aC,V.trans aD⟩
      case measure=>have:=Aa ap;simp[intOf];omega
    ·have e:j=m:=by omega
     subst e;have A:=Ab (show R=d ++ [(t:Int)] by
      rw[← Aa aj,Z5 (by rw[Aa ah];exact NLN),Dh])
     go_wp2_with (at_builtin;refine wpList_append_lies _ rfl _ _ 24 rfl B 3 i (.int .i64 0) 1 8 Tryz.underlying24 hi ac ad ae rfl (by decide) _ _ _ rfl (World.ownsRow.alloc o _) ⟨wr.heap.size,0,none⟩ 1 1 [.int .i64 (t:Int)] rfl rfl ?e1 ?e2 (by decide) ?e3 ?e4 ?e5 _ rfl ?_)
     first | (case e1=>exact Bj _ _ _ _ (by simp)) | skip
     case e2=>first | (intro u h;simp at h;subst h;rfl) | rfl
     case e3=>unfold maxLen;omega
     case e4=>omega
     case e5=>first | (simp;omega) | omega
     intro g cap az C l hat aA;have X:=Ef (n:=d.length+1) (c:=cap) l hat;have Y:=(s.alloc W (.cells #[.int .i64 (t:Int)] 3)).grown l (by simp;omega) (fun q hq=>(o.lt q hq).1);have Z:=Ez C;clear l hat C;go_wp2_with fail
     go_ret
     exact ⟨_,rfl,by rw[Aa A];exact Z,Y,V.trans X⟩
set_option maxHeartbeats 3200000
theorem IF {w:World}{lo hi n c:Nat}{a:Option Addr}{e:TypeId}{size:Nat}{d:List Value}(h:w.ownsRow lo e size (.slice a n c) n d)(f:∀ q,(Value.slice a n c).ownBlock=some q→q < hi):
  ∃ l u,w.ownsRow l e size (.slice a n c) n d∧(∀ q,(Value.slice a n c).ownBlock=some q→q < u)∧((l=0∧u=0)∨(lo≤l∧u≤hi))∧∀ q,(Value.slice a n c).ownBlock≠some q→q < l∨u≤q:=by
 rcases h.2 with ⟨b,h0⟩ | ⟨g,cap,i,b,j,k,h4⟩
 ·refine ⟨0,0,⟨h.1,.inl ⟨b,h0⟩⟩,fun q hq=>?_,.inl ⟨rfl,rfl⟩,fun q _=> .inr (zF _)⟩;rw[b] at hq;cases hq
 ·have m:=f g (by rw[b];rfl);refine ⟨g,g+1,⟨h.1,.inr ⟨g,cap,i,b,NLN,k,h4⟩⟩,fun q hq=>?_,.inr ⟨j,m⟩,fun q hq=>?_⟩
  ·rw[b] at hq;have:g=q:=by simpa[Value.ownBlock] using hq
   omega
  ·have:g≠q:=fun e=>hq (by rw[b,← e];rfl);omega
theorem Pv (lo hi:Nat)(a:Option Addr)(n c:Nat)(P:List Nd)(r t:List Value)(k:Nat)(w:World)(h:Bt w lo (.slice a n c) P r t)(ar:InN (.slice a n c) r t hi)(bu:hi≤w.heap.size)(aJ:P.length=n)(ok:∀ x∈P,okN x)(hk:Ei k P P.length≤17592186044416):
  Calls Tryz.prog 17 #[.slice a n c,.int .i64 k] w fun e w'=>e= .returned (.int .i64 (Ei k P P.length:Nat))∧Bt w' lo (.slice a n c) (Qm k P) r t∧Aj lo hi w w'∧AaZ w w' (.slice a n c) r t:=by
 have W:=Ab aJ;have a3:=Ab ok;have a4:=Ab hk;have bv:n≤17592186044416:=by
  have:Ei k P P.length=k+3 * P.length+((P.take P.length).map Mz).sum:=rfl;omega
 clear aJ ok hk;go_enter Tryz.func17,Tryz.ntmps17
 go_wp2
 go_loopw [1,5] (fun q i wr=>∃ (j:Nat) (b:Int),j≤n∧i= .int .i64 j∧q= .int .i64 b∧b=((Ei k P j:Nat):Int)∧Bt wr lo (.slice a n c) (Fj k P j) r t∧Aj lo hi w wr∧AaZ w wr (.slice a n c) r t) (fun _ i _=>n - (intOf i).toNat)
 case atStart=>exact ⟨0,k,zF _,rfl,rfl,by rw[TZ],by rw[YB];exact h,Aj.refl _ _ _,fun _ _ _ _ _=>rfl⟩
 case round=>
  obtain ⟨j,b,bw,rfl,rfl,N,f,ht,aK⟩:=hrel;by_cases aL:j < n
  ·have ad:j < P.length:=by rw[Aa W];exact aL
   have aM:(Fj k P j).length=P.length:=AaX k P j (by omega);have v:j < (Fj k P j).length:=by omega
   have C:j < r.length:=by rw[f.len];exact v
   have F:j < t.length:=by rw[f.lenk];exact v
   have a5:=Ol k P j ad;have a6:=Ua k P (j+1) (by omega);have a7:=Aa a4;have bx:(j:Int) < (n:Int):=by omega
   have bz: 0≤b:=by omega
   obtain ⟨g,a8⟩:∃ g,a=some ⟨g,0,none⟩:=by
    rcases f.own.2 with ⟨_,h0⟩ | ⟨g,cap,bA,aN,_⟩
    ·omega
    ·simp only[Value.slice.injEq] at aN;exact ⟨g,aN.1⟩
   subst a8;have a9:=(f.lts.1 g rfl).1;have ba:g < hi:=ar.1 g rfl;have bB:=(f.lts.1 g rfl).2;have aO:=Acn k P j ad v;have O:=Ll (Fj k P j) r t j v C F;have x0:=O 0 (by decide);have x1:=O 1 (by decide);have x2:=O 2 (by decide);have ae:=O 3 (by decide);have X:=O 4 (by decide);simp only[Lk,zZ,zi,zc] at x0 x1 x2 ae X;have Y:wr.ownsRow lo 68 5 (.slice (some ⟨g,0,none⟩) n c) n (JY (Fj k P j) r t):=by have:=f.own;rwa[aM,Aa W] at this
   have bC:=MU (Fj k P j) r t f.len f.lenk;have H:=f.names j v C;have I:=f.kids j v F;rw[aO] at x0 x1 x2 H I;obtain ⟨an,Z,af⟩:=CX H;obtain ⟨A,B,ag⟩:=CX I;obtain ⟨m,ah⟩:∃ m,m=P[j].names.length:=⟨_,rfl⟩
   obtain ⟨p,hp⟩:∃ p,p=P[j].kids.length:=⟨_,rfl⟩
   have bb:Mz P[j]=m+p:=by rw[Mz,ah,hp]
   have aP:=Aa a3 P[j] (zO ad);rw[← ah] at af H;rw[← hp] at ag I;have bD:b+3+m+p≤17592186044416:=by omega
   have bc:=Ab (show b+3+m+p=((Ei k P (j+1):Nat):Int) by omega);have aQ:∀ q,r[j].ownBlock=some q→(Value.slice (some ⟨g,0,none⟩) n c).ownBlock≠some q:=Ai (f.names j v C) f.own (by decide);have au:∀ q,t[j].ownBlock=some q→(Value.slice (some ⟨g,0,none⟩) n c).ownBlock≠some q:=Ai (f.kids j v F) f.own (by decide);rw[af] at ae H;rw[ag] at X I;have c0:=(Y.cellAt (j * 5) (by omega)).trans x0;have c1:=(Y.cellAt (j * 5+1) (by omega)).trans x1;have bd:=fun i=>Y.frozenAt i;have ai:=((Y.stored (j * 5) (.int .i64 b)).1.stored (j * 5+1) (.int .i64 (b+1))).1;have av:=(Aj.setCell (lo:=g) (hi:=g+1) wr ⟨g,j * 5,none⟩ (.int .i64 b) NLN (Z3 _)).trans (Aj.setCell (lo:=g) (hi:=g+1) _ ⟨g,j * 5+1,none⟩ (.int .i64 (b+1)) NLN (Z3 _));have bf:=Ab N;have aR:=Ab aL;have aw:=Ab ah;have Q:=Ab af;have J:=Ab ag;have aS:=Ab hp;have bg:=Ab aP;have d:=Ab f;generalize P[j].op=k0 at c0;generalize P[j].num=bE at c1;generalize P[j].text=bh at x2;obtain ⟨nm,ax⟩:∃ nm,nm=P[j].names:=⟨_,rfl⟩
   rw[← ax] at H;have aT:=Ab ax;obtain ⟨aj,ay⟩:∃ aj,aj=P[j].kids:=⟨_,rfl⟩
   rw[← ay] at I;have bi:=Ab ay;clear N a5 a6 a7 ah af ag hp bb aP f Y x0 x1 ax ay aO O;go_wp2_with fail
   generalize (wr.setCell ⟨g,j * 5,none⟩ (.int .i64 b)).setCell ⟨g,j * 5+1,none⟩ (.int .i64 (b+1))=bj at ai av ⊢;clear c0 c1 bd;refine (Dx (b+1+1) bj (by omega) (by omega)).mono ?_;rintro e R ⟨rfl,az⟩;have ak:=Ac (w':=R) ai (fun q hq=>az.block q (ai.lt q hq).2);have aU:=av.trans (Aj.of_below (lo:=g) (hi:=g+1) az NLN);clear ai av az;have c2:R.cell? ⟨g,j * 5+2,none⟩=some (.string bh):=(ak.cellAt (j * 5+2) (by omega)).trans (by rw[zv (by omega),zv (by omega)];exact x2);have bk:=fun i=>ak.frozenAt i;have S:=(ak.stored (j * 5+2) (.string (BL (b+1+1).toNat))).1;have d3:(R.setCell ⟨g,j * 5+2,none⟩ (.string (BL (b+1+1).toNat))).cell? ⟨g,j * 5+3,none⟩=some (.slice an m Z):=(S.cellAt (j * 5+3) (by omega)).trans (by rw[zv (by omega),zv (by omega),zv (by omega)];exact ae);have d4:(R.setCell ⟨g,j * 5+2,none⟩ (.string (BL (b+1+1).toNat))).cell? ⟨g,j * 5+4,none⟩=some (.slice A p B):=(S.cellAt (j * 5+4) (by omega)).trans (by rw[zv (by omega),zv (by omega),zv (by omega)];exact X);have o:=aU.trans (Aj.setCell (lo:=g) (hi:=g+1) R ⟨g,j * 5+2,none⟩ (.string (BL (b+1+1).toNat)) NLN (Z3 _));clear aU ak;go_wp2_with fail
   generalize R.setCell ⟨g,j * 5+2,none⟩ (.string (BL (b+1+1).toNat))=aA at S d3 d4 o ⊢;clear c2 bk;have aV:∀ q,(Value.slice an m Z).ownBlock=some q→q≠g:=fun q hq e=>by
    subst e;exact aQ q (by rw[Aa Q];exact hq) rfl
   have al:=Ac (w':=aA) H (fun q hq=>o.block q (H.lt q hq).2 (by have:=aV q hq;omega));obtain ⟨l,u,aW,aX,T⟩:=Aco (hi:=hi) al (fun s hs=>by have:=(Aa bg).2.2 s (by rw[← Aa aT];exact hs);exact this) (by rw[Aa aT,Aa aw]) (fun q hq=>ar.2.1 j C q (by rw[Aa Q];exact hq)) (by have:=o.size;have:=ht.size;omega);refine (MA l u _ _ _ _ (b+1+1+1) aA aW (by omega) (by omega)).mono ?_;rintro e U ⟨rfl,aB,z⟩;have ao:=Ac (w':=aA) I (fun q hq=>o.block q (I.lt q hq).2 (by
    have:q≠g:=fun e=>by
     subst e;exact au q (by rw[Aa J];exact hq) rfl
    omega))
   have aY:∀ q,(Value.slice A p B).ownBlock=some q→q < l∨u≤q:=fun q hq=>T q (fun e=>Ai ao al (by decide) q hq e);have ap:=Ac (w':=U) ao (fun q hq=>z.block q (ao.lt q hq).2 (aY q hq));have aq:=Ac (w':=U) S (fun q hq=>z.block q (S.lt q hq).2 (T q (fun e=>aV q e (by have:g=q:=(by simpa[Value.ownBlock] using hq);exact this.symm))));have d5:U.cell? ⟨g,j * 5+4,none⟩=some (.slice A p B):=(aq.cellAt (j * 5+4) (by omega)).trans (by rw[zv (by omega),zv (by omega),zv (by omega)];exact X);obtain ⟨K,L,aZ,bl,a0,V⟩:∃ K L,U.ownsRow K 3 1 (.slice A p B) p (Ar aj)∧(∀ q,(Value.slice A p B).ownBlock=some q→q < L)∧((K=0∧L=0)∨(lo≤K∧L≤hi))∧∀ q,(Value.slice A p B).ownBlock≠some q→q < K∨L≤q:=IF ap (fun q hq=>ar.2.2 j F q (by rw[Aa J];exact hq));clear d3 d4;go_wp2_with fail
   refine (Kp K L A p B aj (b+1+1+1+m) U aZ bl (by rw[Aa bi,Aa aS]) (by omega) (by omega)).mono ?_;rintro e a1 ⟨rfl,aC,M⟩;have bm:g < K∨L≤g:=V g (fun e=>au g (by rw[Aa J];exact e) rfl);have bn:Hid (Bt a1 lo (.slice (some ⟨g,0,none⟩) n c) (Fj k P (j+1)) r t):=Ab (by
    have N:=Aa bf;have E:Fj k P (j+1)=(Fj k P j).set j (Xf (Ei k P j) P[j].names.length P[j].kids.length):=(AaY k P j ad).symm;rw[E];refine (Aa d).upd j v C F _ ?_ ?_ ?_ ?_ ?_
    ·rw[aM,Aa W,Xe _ _ _ _ v (Aa d).len (Aa d).lenk];have bo:(Xf (Ei k P j) P[j].names.length P[j].kids.length).op=b:=N.symm;have e1:(Xf (Ei k P j) P[j].names.length P[j].kids.length).num=b+1:=by show ((Ei k P j+1 :Nat):Int)=_;omega
     have e2:(Xf (Ei k P j) P[j].names.length P[j].kids.length).text=BL (b+1+1).toNat:=by show BL (Ei k P j+2)=_;rw[show (b+1+1).toNat=Ei k P j+2 by omega]
     rw[bo,e1,e2];refine Ac aq (fun q hq=>?_);have bp:g=q:=by simpa[Value.ownBlock] using hq
     subst bp;exact M.block g (aq.lt g rfl).2 bm
    ·have e3:(Xf (Ei k P j) P[j].names.length P[j].kids.length).names=Dy (b+1+1+1).toNat m:=by show Dy (Ei k P j+3) P[j].names.length=_;rw[Aa aw,show (b+1+1+1).toNat=Ei k P j+3 by omega]
     rw[e3,Aa Q];have bq:(Dy (b+1+1+1).toNat m).length=m:=by simp[Dy]
     rw[bq];have aD:U.ownsRow lo 9 1 (.slice an m Z) m ((Dy (b+1+1+1).toNat m).map Value.string):=by
      refine ⟨aB.own.1, ?_⟩;rcases aB.own.2 with h2 | ⟨g2,aE,aF,aa,h3,h4⟩
      ·exact .inl h2
      ·refine .inr ⟨g2,aE,aF,aa, ?_,h4⟩;have:=(al.lt g2 (by rw[aa];rfl)).1;exact this
     exact Ac aD (fun q hq=>M.block q (aD.lt q hq).2 (V q (fun e=>Ai aD ap (by decide) q hq e)))
    ·have e4:(Xf (Ei k P j) P[j].names.length P[j].kids.length).kids=Ca (b+1+1+1+m).toNat p:=by show Ca (Ei k P j+3+P[j].names.length) P[j].kids.length=_;rw[Aa aw,Aa aS,show (b+1+1+1+(P[j].names.length:Int)).toNat=Ei k P j+3+P[j].names.length by omega]
     rw[e4,Aa J,CQ];refine ⟨aC.1, ?_⟩;rcases aC.2 with h2 | ⟨g2,aE,aF,aa,h3,h4⟩
     ·exact .inl h2
     ·refine .inr ⟨g2,aE,aF,aa, ?_,h4⟩;exact (ap.lt g2 (by rw[aa];rfl)).1
    ·intro i y br q hq;have ab:i < (Fj k P j).length:=by rw[← (Aa d).len];exact y
     have aG:(Value.slice an m Z).ownBlock≠some q:=fun e=>by
      rw[← Aa Q] at e;by_cases aH:i < j
      ·exact (Aa d).apart i j aH C q hq e
      ·exact (Aa d).apart j i (by omega) y q e hq
     have aI:(Value.slice A p B).ownBlock≠some q:=fun e=>by
      rw[← Aa J] at e;exact Ai ((Aa d).names i ab y) ((Aa d).kids j v F) (by decide) q hq e
     have a2:q≠g:=fun e=>by subst e;exact Ai ((Aa d).names i ab y) (Aa d).own (by decide) q hq rfl
     have ac:=((Aa d).lts.2.1 i y q hq).2;exact (M.block q (by have:=o.size;have:=z.size;omega) (V q aI)).trans ((z.block q (by have:=o.size;omega) (T q aG)).trans (o.block q ac (by omega)))
    ·intro i y br q hq;have ab:i < (Fj k P j).length:=by rw[← (Aa d).lenk];exact y
     have aI:(Value.slice A p B).ownBlock≠some q:=fun e=>by
      rw[← Aa J] at e;by_cases aH:i < j
      ·exact (Aa d).apartk i j aH F q hq e
      ·exact (Aa d).apartk j i (by omega) y q e hq
     have aG:(Value.slice an m Z).ownBlock≠some q:=fun e=>by
      rw[← Aa Q] at e;exact Ai ((Aa d).kids i ab y) ((Aa d).names j v C) (by decide) q hq e
     have a2:q≠g:=fun e=>by subst e;exact Ai ((Aa d).kids i ab y) (Aa d).own (by decide) q hq rfl
     have ac:=((Aa d).lts.2.2 i y q hq).2;exact (M.block q (by have:=o.size;have:=z.size;omega) (V q aI)).trans ((z.block q (by have:=o.size;omega) (T q aG)).trans (o.block q ac (by omega))))
   have bs:=Ab (((ht.trans (o.wide (.inr ⟨a9,ba⟩))).trans (z.wide (by rcases aX with e | e;exact .inl e;exact .inr ⟨e.1,e.2.1⟩))).trans (M.wide a0));have bt:Hid (AaZ w a1 (.slice (some ⟨g,0,none⟩) n c) r t):=Ab (fun q hq h1 h2 h3=>by
    have ac:=zM hq ht.size;have a2:q≠g:=fun e=>h1 (by rw[e];rfl);exact (M.block q (by have:=o.size;have:=z.size;omega) (V q (fun e=>h3 j F (by rw[Aa J];exact e)))).trans (((z.block q (by have:=o.size;omega) (T q (fun e=>h2 j C (by rw[Aa Q];exact e)))).trans (o.block q ac (by omega))).trans (aK q hq h1 h2 h3)))
   clear S aq d5 o z M aW aB al ao ap aZ aC H I d aX a0 T V aY aQ au x2 ae X;go_wp2_with fail
   go_roundw
   case rel=>exact ⟨j+1,b+1+1+1+m+p,Aa aR,by go_num,by go_num,by have:=Aa bc;omega,Aa bn,Aa bs,Aa bt⟩
   case measure=>have:=Aa aR;simp[intOf];omega
  ·have e:j=n:=by omega
   subst e;go_wp2
   go_ret
   rw[← Aa W] at N f;rw[YC] at f;exact ⟨by rw[N];rfl,by rw[← Aa W];exact f,ht,aK⟩
theorem VT (k n:Nat):(Dy k n).length=n:=by simp[Dy]
theorem Ej {w:World}{lo n c:Nat}{a:Option Addr}{L:List Int}(h:w.ownsRow lo 3 1 (.slice a n c) n (Ar L))(b:L.length=n)(d:n≤1048576):BT w a n c L:=by
 refine ⟨b,d,fun j f=>?_⟩;obtain ⟨x,i,e,hx⟩:=Ad h;cases e;obtain ⟨g,rfl,k,hc⟩:=hx (by omega);refine ⟨g,0,rfl,(h.lt g rfl).2, ?_⟩;rw[zX];exact hc j _ (by rw[Ar,zh,zH f];rfl)
theorem Pw (lo:Nat)(a:Option Addr)(n c:Nat)(P:List Nd)(y z:List Value)(k:Nat)(w:World)(h:Bt w lo (.slice a n c) (Qm k P) y z)(K:P.length=n)(ok:∀ x∈P,okN x)(hk:Ei k P P.length≤17592186044416):
  Calls Tryz.prog 20 #[.slice a n c,.int .i64 k] w fun e w'=>e= .returned (.int .i64 (Ei k P P.length:Nat))∧Below w.heap.size w w':=by
 have A:=Ab K;have X:=Ab hk;have Y:=Ab ok;have ar:n≤17592186044416:=by
  have:Ei k P P.length=k+3 * P.length+((P.take P.length).map Mz).sum:=rfl;omega
 clear K hk ok;go_enter Tryz.func20,Tryz.ntmps20
 go_wp2
 go_loopw [1,5] (fun q i wr=>∃ (j:Nat) (b:Int),j≤n∧i= .int .i64 j∧q= .int .i64 b∧b=((Ei k P j:Nat):Int)∧Below w.heap.size w wr) (fun _ i _=>n - (intOf i).toNat)
 case atStart=>exact ⟨0,k,zF _,rfl,rfl,by rw[TZ],BRN⟩
 case round=>
  obtain ⟨j,b,au,rfl,rfl,B,r⟩:=hrel;by_cases L:j < n
  ·have I:j < P.length:=by rw[Aa A];exact L
   have M:=Fi k P;have s:j < (Qm k P).length:=by omega
   have d:=h.blocks (w':=wr) (fun k _ Z=>r.block k Z);have N:j < y.length:=by rw[d.len];exact s
   have O:j < z.length:=by rw[d.lenk];exact s
   have aa:=Ol k P j I;have ab:=Ua k P (j+1) (by omega);have ac:=Aa X;have av:(j:Int) < (n:Int):=by omega
   have aw: 0≤b:=by omega
   obtain ⟨g,ad⟩:∃ g,a=some ⟨g,0,none⟩:=by
    rcases d.own.2 with ⟨_,h0⟩ | ⟨g,cap,ax,Q,_⟩
    ·rw[M,Aa A] at h0;omega
    ·simp only[Value.slice.injEq] at Q;exact ⟨g,Q.1⟩
   subst ad;have C:=(d.lts.1 g rfl).2;have ay:=(h.lts.1 g rfl).2;have t:wr.ownsRow lo 68 5 (.slice (some ⟨g,0,none⟩) n c) n (JY (Qm k P) y z):=by have:=d.own;rwa[M,Aa A] at this
   have u:=Ll (Qm k P) y z j s N O;have x0:=u 0 (by decide);have x1:=u 1 (by decide);have x2:=u 2 (by decide);have E:=u 3 (by decide);have F:=u 4 (by decide);simp only[Lk,zZ,zi,zc] at x0 x1 x2 E F;have az:=MU (Qm k P) y z d.len d.lenk;have R:=Aa Y P[j] (zO I);have l:=d.names j s N;have o:=d.kids j s O;have S:=VS k P j I s;rw[S] at x0 x1 x2 l o;obtain ⟨m,J⟩:∃ m,m=P[j].names.length:=⟨_,rfl⟩
   obtain ⟨p,hp⟩:∃ p,p=P[j].kids.length:=⟨_,rfl⟩
   have ae:Mz P[j]=m+p:=by rw[Mz,J,hp]
   rw[← J,← hp] at x0 x1 x2 l o;have T:(Xf (Ei k P j) m p).op=b:=B.symm;have e1:(Xf (Ei k P j) m p).num=b+1:=by show ((Ei k P j+1 :Nat):Int)=_;omega
   have e2:(Xf (Ei k P j) m p).text=BL (b+1+1).toNat:=by show BL (Ei k P j+2)=_;rw[show (b+1+1).toNat=Ei k P j+2 by omega]
   have e3:(Xf (Ei k P j) m p).names=Dy (b+1+1+1).toNat m:=by show Dy (Ei k P j+3) m=_;rw[show (b+1+1+1).toNat=Ei k P j+3 by omega]
   rw[T] at x0;rw[e1] at x1;rw[e2] at x2;have e4:(Xf (Ei k P j) m p).kids=Ca (b+1+1+1+m).toNat p:=by show Ca (Ei k P j+3+m) p=_;rw[show (b+1+1+1+(m:Int)).toNat=Ei k P j+3+m by omega]
   rw[e3,VT] at l;rw[e4,CQ] at o;obtain ⟨an,af,U⟩:=CX l;obtain ⟨ag,ah,V⟩:=CX o;rw[U] at E l;rw[V] at F o;have c0:=(t.cellAt (j * 5) (by omega)).trans x0;have c1:=(t.cellAt (j * 5+1) (by omega)).trans x1;have c2:=(t.cellAt (j * 5+2) (by omega)).trans x2;have c3:=(t.cellAt (j * 5+3) (by omega)).trans E;have c4:=(t.cellAt (j * 5+4) (by omega)).trans F;have aA:b+3+m+p≤17592186044416:=by omega
   have ai:=Ab (show b+3+m+p=((Ei k P (j+1):Nat):Int) by omega);have aj:BT wr ag p ah (Ca (b+1+1+1+m).toNat p):=Ej o (CQ _ _) (by rw[hp];exact R.2.1);have ak:Bg wr an m af (Dy (b+1+1+1).toNat m):=Bg.of_owns l (Me _ _ (by omega));have W:=Ab L;clear B aa ab ac J hp ae T e1 e2 e3 e4 x0 x1 x2 E F t l o U V S d u R;go_wp2_with fail
   go_region_held3 (fun w'=>w'.cell? ⟨g,j * 5+2,none⟩=some (.string (BL (b+1+1).toNat))) (go_keep)
    ((go_at_call 39;refine (Dx _ _ (by omega) (by omega)).mono ?_;rintro e v ⟨rfl,f⟩;have q2:=(f.cell (p:=⟨g,j * 5+2,none⟩) C).trans c2;have q3:=(f.cell (p:=⟨g,j * 5+3,none⟩) C).trans c3;have q4:=(f.cell (p:=⟨g,j * 5+4,none⟩) C).trans c4))
   all_goals
    have al:=ak.below (show Below wr.heap.size wr v from BRN.drew.trans f) NLN;have ao:=aj.below (show Below wr.heap.size wr v from BRN.drew.trans f) NLN;have ap:g < v.heap.size:=zM C f.size;have aB: ¬ (b+1+1+1+(m:Int) < 0):=by omega
    have aC: ¬ (b+1+1+1+(m:Int)+(p:Int) < 0):=by omega
    go_wp2_with (first | (go_at_call 41;refine (MB _ _ _ (b+1+1+1) v al (by omega) (by omega)).mono ?_;rintro e w2 ⟨rfl,H⟩;have q5:=(H.cell (p:=⟨g,j * 5+4,none⟩) ap).trans q4) | (go_at_call 22;refine (Kr _ _ _ (b+1+1+1+m) w2 (ao.below H NLN) (by omega) (by omega)).mono ?_;rintro e aD ⟨rfl,aq⟩))
    go_roundw
    case rel=>exact ⟨j+1,b+1+1+1+m+p,Aa W,by go_num,by go_num,by have:=Aa ai;omega,((r.drew.trans (f.mono r.size)).trans (H.mono (by have h1:wr.heap.size≤v.heap.size:=f.size;have:=r.size;omega))).trans (aq.mono (by have h1:wr.heap.size≤v.heap.size:=f.size;have:=H.size;have:=r.size;omega))⟩
    case measure=>have:=Aa W;simp[intOf];omega
  ·have e:j=n:=by omega
   subst e;go_wp2
   go_ret
   rw[← Aa A] at B;exact ⟨by rw[B];rfl,r⟩
def Cy (L:List St):List Value:=L.flatMap fun s=> [.int .i64 s.kind,.string s.name,.int .i64 s.cond,.int .i64 s.grant]
theorem Ig:∀ (L:List St),(Cy L).length=L.length * 4
 | []=>rfl
 |s ::L=>by
  have:=Ig L;rw[Cy,zn,zA];rw[Cy] at this;rw[this,List.length_cons];simp;omega
theorem JX:∀ (L:List St) (j:Nat) (h:j < L.length),∀ r,r < 4→(Cy L)[j * 4+r]? =([Value.int .i64 L[j].kind,.string L[j].name,.int .i64 L[j].cond,.int .i64 L[j].grant]:List Value)[r]?
 |s ::L,0,_,r,hr=>by
  rw[Cy,zn,Nat.zero_mul,zX,List.getElem?_append_left (by simp;omega)];rfl
 |s ::L,j+1,h,r,hr=>by
  have a:=JX L j (by simpa using h) r hr;rw[Cy,zn,Z7 (by simp;omega)];have e:(j+1) * 4+r - ([Value.int .i64 s.kind,.string s.name,.int .i64 s.cond,.int .i64 s.grant]:List Value).length=j * 4+r:=by simp;omega
  rw[e];rw[Cy] at a;rw[a];rfl
 | [],_,h,_,_=>absurd h (by simp)
theorem Ub:∀ (L:List St) (j:Nat) (h:j < L.length) (y:St),Cy (L.set j y)=((((Cy L).set (j * 4) (.int .i64 y.kind)).set (j * 4+1) (.string y.name)).set (j * 4+2) (.int .i64 y.cond)).set (j * 4+3) (.int .i64 y.grant)
 |s ::L,0,_,y=>by simp[Cy]
 |s ::L,j+1,h,y=>by
  have f:=Ub L j (by simpa using h) y;have e:∀ (a:List Value) i v,([Value.int .i64 s.kind,.string s.name,.int .i64 s.cond,.int .i64 s.grant] ++a).set ((j+1) * 4+i) v= [Value.int .i64 s.kind,.string s.name,.int .i64 s.cond,.int .i64 s.grant] ++a.set (j * 4+i) v:=fun a i v=>by
   rw[yD _ _ (by simp;omega)]
   congr 2
   simp;omega
  have c:∀ x b,Cy (x ::b)= [Value.int .i64 x.kind,.string x.name,.int .i64 x.cond,.int .i64 x.grant] ++Cy b:=fun x b=>by simp[Cy]
  rw[z0,c,c,f];have d:=e (Cy L) 0 (.int .i64 y.kind);simp only[zZ] at d;rw[d,e,e,e]
 | [],_,h,_=>absurd h (by simp)
def MD (k j:Nat):St:=⟨((k+4 * j:Nat):Int),BL (k+4 * j+1),((k+4 * j+2 :Nat):Int),((k+4 * j+3 :Nat):Int)⟩
def CR (k n:Nat):List St:=(List.range n).map (MD k)
def GI (L:List St) (k j:Nat):List St:=CR k j ++L.drop j
theorem EG (k n:Nat):(CR k n).length=n:=by simp[CR]
theorem Uc (k n:Nat):CR k (n+1)=CR k n ++ [MD k n]:=by simp[CR,List.range_succ]
theorem YD (L:List St)(k:Nat):GI L k 0=L:=by simp[GI,CR]
theorem YE (L:List St)(k:Nat):GI L k L.length=CR k L.length:=by simp[GI]
theorem Aa0 (L:List St)(k j:Nat)(h:j≤L.length):(GI L k j).length=L.length:=by
 rw[GI,zA,EG,zp];omega
theorem Aa1 (L:List St)(k j:Nat)(h:j < L.length):(GI L k j).set j (MD k j)=GI L k (j+1):=by
 rw[GI,zg h,yD _ _ (by rw[EG];exact NLN),EG,Nat.sub_self,zw,GI,Uc,zC];rfl
theorem Px (lo hi:Nat)(a:Option Addr)(n c:Nat)(L:List St)(x:Int)(w:World)(h:w.ownsRow lo 60 4 (.slice a n c) n (Cy L))(K:∀ q,(Value.slice a n c).ownBlock=some q→q < hi)(X:hi≤w.heap.size)(y:L.length=n)(hx: 0≤x)(hk:x+4 * n≤35184372088832):
  Calls Tryz.prog 18 #[.slice a n c,.int .i64 x] w fun e w'=>e= .returned (.int .i64 (x+4 * n))∧w'.ownsRow lo 60 4 (.slice a n c) n (Cy (CR x.toNat n))∧Aj lo hi w w':=by
 obtain ⟨k,rfl⟩:=yA hx;rw[zj];have z:=Ab y;clear y;go_enter Tryz.func18,Tryz.ntmps18
 go_wp2
 go_loopw [1,5] (fun q i wr=>∃ (j:Nat) (b:Int),j≤n∧i= .int .i64 j∧q= .int .i64 b∧b=((k+4 * j:Nat):Int)∧wr.ownsRow lo 60 4 (.slice a n c) n (Cy (GI L k j))∧Aj lo hi w wr) (fun _ i _=>n - (intOf i).toNat)
 case atStart=>exact ⟨0,k,zF _,rfl,rfl,by simp,by rw[YD];exact h,Aj.refl _ _ _⟩
 case round=>
  obtain ⟨j,b,Y,rfl,rfl,f,d,ht⟩:=hrel;by_cases A:j < n
  ·have M:j < L.length:=by rw[Aa z];exact A
   have Z:(GI L k j).length=L.length:=Aa0 L k j (by omega);have B:j < (GI L k j).length:=by omega
   have aa:(j:Int) < (n:Int):=by omega
   have ab: 0≤b:=by omega
   have ac:b+4≤35184372088832:=by omega
   obtain ⟨g,N⟩:∃ g,a=some ⟨g,0,none⟩:=by
    rcases d.2 with ⟨_,h0⟩ | ⟨g,cap,ad,C,_⟩
    ·omega
    ·simp only[Value.slice.injEq] at C;exact ⟨g,C.1⟩
   subst N;have m:=(d.lt g rfl).1;have o:g < hi:=K g rfl;have ae:=Ig (GI L k j);have l:=JX (GI L k j) j B;have x0:=l 0 (by decide);have x1:=l 1 (by decide);have x2:=l 2 (by decide);have p:=l 3 (by decide);simp only[zZ,zi,zc] at x0 x1 x2 p;have c0:=(d.cellAt (j * 4) (by omega)).trans x0;have O:=fun i=>d.frozenAt i;have r:=(d.stored (j * 4) (.int .i64 b)).1;have T1:=ht.trans (Aj.setCell (lo:=lo) (hi:=hi) wr ⟨g,j * 4,none⟩ (.int .i64 b) m o);have E:=Ab f;have F:=Ab A;generalize (GI L k j)[j].kind=af at c0;generalize (GI L k j)[j].name=P at x1;generalize (GI L k j)[j].cond=Q at x2;generalize (GI L k j)[j].grant=R at p;clear f d x0 ht l;go_wp2_with fail
   generalize wr.setCell ⟨g,j * 4,none⟩ (.int .i64 b)=S at r T1 ⊢;clear c0 O;refine (Dx (b+1) S (by omega) (by omega)).mono ?_;rintro e w2 ⟨rfl,v⟩;have s:=Ac (w':=w2) r (fun q hq=>v.block q (r.lt q hq).2);have H:=T1.trans (Aj.of_below (lo:=lo) (hi:=hi) v (by have:=T1.size;omega));clear r T1 v;have c1:w2.cell? ⟨g,j * 4+1,none⟩=some (.string P):=(s.cellAt (j * 4+1) (by omega)).trans (by rw[zv (by omega)];exact x1);have ag:=fun i=>s.frozenAt i;have t:=(s.stored (j * 4+1) (.string (BL (b+1).toNat))).1;have I:=H.trans (Aj.setCell (lo:=lo) (hi:=hi) w2 ⟨g,j * 4+1,none⟩ (.string (BL (b+1).toNat)) m o);have c2:(w2.setCell ⟨g,j * 4+1,none⟩ (.string (BL (b+1).toNat))).cell? ⟨g,j * 4+2,none⟩=some (.int .i64 Q):=(t.cellAt (j * 4+2) (by omega)).trans (by rw[zv (by omega),zv (by omega)];exact x2);have ah:=fun i=>t.frozenAt i;have u:=(t.stored (j * 4+2) (.int .i64 (b+1+1))).1;have J:=I.trans (Aj.setCell (lo:=lo) (hi:=hi) _ ⟨g,j * 4+2,none⟩ (.int .i64 (b+1+1)) m o);have c3:((w2.setCell ⟨g,j * 4+1,none⟩ (.string (BL (b+1).toNat))).setCell ⟨g,j * 4+2,none⟩ (.int .i64 (b+1+1))).cell? ⟨g,j * 4+3,none⟩=some (.int .i64 R):=(u.cellAt (j * 4+3) (by omega)).trans (by rw[zv (by omega),zv (by omega),zv (by omega)];exact p);have ai:=fun i=>u.frozenAt i;have T:=Ab (u.stored (j * 4+3) (.int .i64 (b+1+1+1))).1;have U:=J.trans (Aj.setCell (lo:=lo) (hi:=hi) _ ⟨g,j * 4+3,none⟩ (.int .i64 (b+1+1+1)) m o);clear s t u H I J x1 x2 p;dsimp only;go_wp2_with fail
   go_roundw
   case rel=>
    refine ⟨j+1,b+1+1+1+1,Aa F,by go_num,by go_num,by have:=Aa E;omega, ?_,U⟩
    have f:=Aa E;rw[← Aa1 L k j M,Ub _ _ B];have V:(MD k j).kind=b:=f.symm;have e1:(MD k j).name=BL (b+1).toNat:=by show BL (k+4 * j+1)=_;rw[show (b+1).toNat=k+4 * j+1 by omega]
    have e2:(MD k j).cond=b+1+1:=by show ((k+4 * j+2 :Nat):Int)=_;omega
    have e3:(MD k j).grant=b+1+1+1:=by show ((k+4 * j+3 :Nat):Int)=_;omega
    rw[V,e1,e2,e3];exact Aa T
   case measure=>have:=Aa F;simp[intOf];omega
  ·have e:j=n:=by omega
   subst e;go_wp2
   go_ret
   have W:GI L k j=CR k j:=by have:=YE L k;rwa[Aa z] at this
   rw[W] at d;exact ⟨by rw[f];push_cast;rfl,d,ht⟩
theorem Py (lo:Nat)(a:Option Addr)(n c:Nat)(x:Int)(w:World)(h:w.ownsRow lo 60 4 (.slice a n c) n (Cy (CR x.toNat n)))(hx: 0≤x)(hk:x+4 * n≤35184372088832):
  Calls Tryz.prog 21 #[.slice a n c,.int .i64 x] w fun e w'=>e= .returned (.int .i64 (x+4 * n))∧Below w.heap.size w w':=by
 obtain ⟨k,rfl⟩:=yA hx;rw[zj] at h;go_enter Tryz.func21,Tryz.ntmps21
 go_wp2
 go_loopw [1,5] (fun q i wr=>∃ (j:Nat) (b:Int),j≤n∧i= .int .i64 j∧q= .int .i64 b∧b=((k+4 * j:Nat):Int)∧Below w.heap.size w wr) (fun _ i _=>n - (intOf i).toNat)
 case atStart=>exact ⟨0,k,zF _,rfl,rfl,by simp,BRN⟩
 case round=>
  obtain ⟨j,b,C,rfl,rfl,f,l⟩:=hrel;by_cases s:j < n
  ·have E:(j:Int) < (n:Int):=by omega
   have z:j < (CR k n).length:=by rw[EG];exact s
   have F: 0≤b:=by omega
   have H:b+4≤35184372088832:=by omega
   have h2:=Ac (w':=wr) h (fun q hq=>l.block q (h.lt q hq).2);obtain ⟨g,A⟩:∃ g,a=some ⟨g,0,none⟩:=by
    rcases h.2 with ⟨_,h0⟩ | ⟨g,cap,I,t,_⟩
    ·omega
    ·simp only[Value.slice.injEq] at t;exact ⟨g,t.1⟩
   subst A;have r:=(h2.lt g rfl).2;have J:=Ig (CR k n);have K:=EG k n;have d:=JX (CR k n) j z;have u:(CR k n)[j]=MD k j:=by simp[CR]
   rw[u] at d;have x0:=d 0 (by decide);have x1:=d 1 (by decide);have x2:=d 2 (by decide);have m:=d 3 (by decide);simp only[zZ,zi,zc] at x0 x1 x2 m;have v:(MD k j).kind=b:=f.symm;have e1:(MD k j).name=BL (b+1).toNat:=by show BL (k+4 * j+1)=_;rw[show (b+1).toNat=k+4 * j+1 by omega]
   have e2:(MD k j).cond=b+1+1:=by show ((k+4 * j+2 :Nat):Int)=_;omega
   have e3:(MD k j).grant=b+1+1+1:=by show ((k+4 * j+3 :Nat):Int)=_;omega
   rw[v] at x0;rw[e1] at x1;rw[e2] at x2;rw[e3] at m;have c0:=(h2.cellAt (j * 4) (by omega)).trans x0;have c1:=(h2.cellAt (j * 4+1) (by omega)).trans x1;have c2:=(h2.cellAt (j * 4+2) (by omega)).trans x2;have c3:=(h2.cellAt (j * 4+3) (by omega)).trans m;have B:=Ab f;have y:=Ab s;clear u v e1 e2 e3 f x0 x1 x2 m d h2;go_wp2_with fail
   go_region_held3 (fun w'=>w'.cell? ⟨g,j * 4+1,none⟩=some (.string (BL (b+1).toNat))) (go_keep)
    ((go_at_call 39;refine (Dx _ _ (by omega) (by omega)).mono ?_;rintro e L ⟨rfl,o⟩;have M:=(o.cell (p:=⟨g,j * 4+1,none⟩) r).trans c1;have q2:=(o.cell (p:=⟨g,j * 4+2,none⟩) r).trans c2;have q3:=(o.cell (p:=⟨g,j * 4+3,none⟩) r).trans c3))
   all_goals
    go_wp2_with fail
    go_roundw
    case rel=>exact ⟨j+1,b+1+1+1+1,Aa y,by go_num,by go_num,by have:=Aa B;omega,l.drew.trans (o.mono l.size)⟩
    case measure=>have:=Aa y;simp[intOf];omega
  ·have e:j=n:=by omega
   subst e;go_wp2
   go_ret
   exact ⟨by rw[f];push_cast;rfl,l⟩
end Go.Proofs.YtchakjeegneeoaaGreatDoor
