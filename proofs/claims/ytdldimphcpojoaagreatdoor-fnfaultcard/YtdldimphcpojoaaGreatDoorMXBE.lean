/-
  HV, HW. Own work.
-/
import Derived.Test.YtdldimphcpojoaaGreatDoorMXBD
import Derived.Test.YtdldimphcpojoaaGreatDoorMXAT
import Derived.Test.YtdldimphcpojoaaGreatDoorMXAZ
import Derived.Test.YtdldimphcpojoaaGreatDoorMXAW
namespace Go.Proofs.YtdldimphcpojoaaGreatDoor
set_option maxRecDepth 100000
set_option maxHeartbeats 6400000
open Go.RowKit
set_option linter.unusedVariables false
def Yt (W:World) (b:Nat) (p0 p1 f0 f1:Value):World:=((((W.setCell ⟨b,0,none⟩ p0).setCell ⟨b,1,none⟩ p1).setCell ⟨b+1,0,none⟩ f0).setCell ⟨b+1,1,none⟩ f1).drew
theorem TG (a:World)(b:Nat)(c d f g:Value)(q:Nat)(h1:q≠b)(h2:q≠b+1):(Yt a b c d f g).heap[q]? =a.heap[q]? :=by
 show ((((a.setCell ⟨b,0,none⟩ c).setCell ⟨b,1,none⟩ d).setCell ⟨b+1,0,none⟩ f).setCell ⟨b+1,1,none⟩ g).heap[q]? =_;rw[heap_setCell_other _ _ q _ h2,heap_setCell_other _ _ q _ h2,heap_setCell_other _ _ q _ h1,heap_setCell_other _ _ q _ h1]
theorem Fp {f w:World}{i j k l:Value}(R:An f w.heap.size #[i,j] 27)(F:An f (w.heap.size+1) #[k,l] 30)(B:Below w.heap.size w f)(a b c d:Value):An (Yt f w.heap.size a b c d) w.heap.size #[a,b] 27∧An (Yt f w.heap.size a b c d) (w.heap.size+1) #[c,d] 30∧Below w.heap.size w (Yt f w.heap.size a b c d):=by
 have g:w.heap.size≠w.heap.size+1:=by omega
 have h:w.heap.size+1≠w.heap.size:=by omega
 have h1:=(((R.set 0 a).set 1 b).setFar (p:=⟨w.heap.size+1,0,none⟩) g c).setFar (p:=⟨w.heap.size+1,1,none⟩) g d;have h2:=(((F.setFar (p:=⟨w.heap.size,0,none⟩) h a).setFar (p:=⟨w.heap.size,1,none⟩) h b).set 0 c).set 1 d;have h3:=((((B.setCell (p:=⟨w.heap.size,0,none⟩) NLN a).setCell (p:=⟨w.heap.size,1,none⟩) NLN b).setCell (p:=⟨w.heap.size+1,0,none⟩) (Nat.le_succ _) c).setCell (p:=⟨w.heap.size+1,1,none⟩) (Nat.le_succ _) d).drew;exact ⟨⟨h1.out⟩,⟨h2.out⟩,h3⟩
theorem NM.fault (a at_:Int){w w':World}(h:Below w.heap.size w w'):NM ([], [], [],a,at_) w (.returned (.tuple #[.agg #[.slice none 0 0,.slice none 0 0],.slice none 0 0,.agg #[.int .i64 a,.int .i64 at_]])) w':=
 ⟨⟨_,_, [], [],_,rfl,BY.nil _ _,World.ownsRow_nil _ _ _ _,World.ownsRow_nil _ _ _ _,(fun q hq=>by cases hq)⟩,h⟩
theorem DP.suf {a:List Af}{x:QR}(d:DP a x):∀ q,x= .bad q→∃ c,a=c ++q:=by
 induction d with
 | bad d=>intro q h;cases h;obtain ⟨c,hc,_⟩:=d.suf;exact ⟨c,hc⟩
 | @more a r s x d hk d2 b=>
  intro q h;cases x with
  | ok T=>cases h
  | bad p=>
   cases h;obtain ⟨c,hc,_⟩:=d.suf;obtain ⟨c2,f⟩:=b q rfl;exact ⟨c ++c2,by rw[hc,List.append_assoc,← f];rfl⟩
 | last=>intro q h;cases h
 | over d hk=>intro q h;cases h;obtain ⟨c,hc,_⟩:=d.suf;exact ⟨c,hc⟩
theorem Fq {a:World}{b:Nat}{c d f g:Value}(R:An a b #[c,d] 27)(F:An a (b+1) #[f,g] 30):(a.cell? ⟨b,0,none⟩=some c∧a.cell? ⟨b,1,none⟩=some d)∧(∀ j,a.frozen? ⟨b,j,none⟩=false)∧(a.cell? ⟨b+1,0,none⟩=some f∧a.cell? ⟨b+1,1,none⟩=some g)∧∀ j,a.frozen? ⟨b+1,j,none⟩=false:=
 ⟨⟨R.cell 0,R.cell 1⟩,fun j=>R.frozen j,⟨F.cell 0,F.cell 1⟩,fun j=>F.frozen j⟩
theorem KW {a:World}{b:Nat}{c d:Value}(F:An a b #[c,d] 30):a.cell? ⟨b,0,none⟩=some c∧a.cell? ⟨b,1,none⟩=some d:=⟨F.cell 0,F.cell 1⟩
theorem OQ (t:ByteArray)(x:QR)(w:World)(hc:(Ar t).code≠0):
  Calls Tryz.prog 5 #[.string t] w (NM (FP t x) w):=by
 rw[H9 hc];have h:=Ab (fun d=>Gt t d);generalize Ar t=R at h hc ⊢;obtain ⟨T,a,at_⟩:=R;dsimp only at h hc ⊢;have f:=((Below.refl w.heap.size w).alloc NLN (.cells #[.slice none 0 0,.slice none 0 0] 27)).alloc (by simp) (.cells #[.int .i64 0,.int .i64 0] 30);have i:=(An.new w #[.slice none 0 0,.slice none 0 0] 27).alloc (.cells #[.int .i64 0,.int .i64 0] 30);have g:=An.new (w.alloc (.cells #[.slice none 0 0,.slice none 0 0] 27)) #[.int .i64 0,.int .i64 0] 30;simp only[World.size_alloc] at g;go_enter Tryz.func5,Tryz.ntmps5
 go_wp2_with fail
 generalize m:(w.alloc (.cells #[.slice none 0 0,.slice none 0 0] 27)).alloc (.cells #[.int .i64 0,.int .i64 0] 30)=d at f i g ⊢;have v:d.heap.size=w.heap.size+2:=by rw[← m];simp
 clear m;refine (Aa h d).mono ?_;rintro r b ⟨N,O,rfl,P,Q,c⟩;have n:=f.trans (c.mono f.size);have y:=i.after c NLN;have z:=g.after c NLN;have S:w.heap.size+2≤b.heap.size:=by have:=c.size;omega
 clear f i g c v;have U:(a != 0)=true:=by simpa using hc
 clear hc;have o:=An.new b #[.int .i64 a,.int .i64 at_] 30;have j:=y.alloc (.cells #[.int .i64 a,.int .i64 at_] 30);have k:=z.alloc (.cells #[.int .i64 a,.int .i64 at_] 30);have p:=n.alloc n.size (.cells #[.int .i64 a,.int .i64 at_] 30);dsimp only;go_wp2_with fail
 generalize b.alloc (.cells #[.int .i64 a,.int .i64 at_] 30)=V at o j k p ⊢;obtain ⟨A,a1⟩:=KW o;obtain ⟨⟨B,C⟩,E,⟨F,H⟩,I⟩:=Fq j k;have J:w.heap.size≠w.heap.size+1:=by omega
 have K:w.heap.size+1≠w.heap.size:=by omega
 have L:b.heap.size≠w.heap.size:=by omega
 have M:b.heap.size≠w.heap.size+1:=by omega
 obtain ⟨q,s,u⟩:=Fp j k p (.slice none 0 0) (.slice none 0 0) (.int .i64 a) (.int .i64 at_);have l:=Ab (And.intro q (And.intro s u));clear q s u;go_region_law fail
 all_goals
  clear A a1 B C E F H I J K L M;go_wp2_with fail
  exact bodyPost_ret (FW Tryz.results5 rfl rfl rfl (Aa l).1 (Aa l).2.1) rfl (NM.fault _ _ (Aa l).2.2)
theorem QP (t:ByteArray)(q:List Af)(w:World)(hc:(Ar t).code=0)(d:DP (Ar t).toks (.bad q)):
  Calls Tryz.prog 5 #[.string t] w (NM (FP t (.bad q)) w):=by
 rw[Gi hc];have A:=Ab (fun u hu=>(Fi t u hu).1);have al:=Ab (fun u hu=>(Fi t u hu).2);have z:=Ab (KJ t);have U:=Ab (fun m=>Gt t m);have V:=Ab (d.run (Aa A));obtain ⟨cs,l⟩:=d.suf q rfl;clear d;generalize Ar t=R at U hc A z V al l ⊢;obtain ⟨T,aD,at_⟩:=R;dsimp only at U hc A z V al l ⊢;subst hc;have ao:Vf T (QR.bad q).res=((cs.length:Nat):Int):=by
  rw[l];simp[QR.res,Vf]
 have ap:=Ab ao;clear ao;cases q with
 | nil=>
  have e1:(CW t.size ([]:List Af)).at_=t.size:=rfl;rw[e1];have au:T.length=cs.length:=by rw[l];simp
  have av: ¬ ((cs.length:Int) < (T.length:Int)):=by omega
  have aw:T.length≤4000:=Aa z;clear l e1 au;have h:=((Below.refl w.heap.size w).alloc NLN (.cells #[.slice none 0 0,.slice none 0 0] 27)).alloc (by simp) (.cells #[.int .i64 0,.int .i64 0] 30);have n:=(An.new w #[.slice none 0 0,.slice none 0 0] 27).alloc (.cells #[.int .i64 0,.int .i64 0] 30);have i:=An.new (w.alloc (.cells #[.slice none 0 0,.slice none 0 0] 27)) #[.int .i64 0,.int .i64 0] 30;simp only[World.size_alloc] at i;go_enter Tryz.func5,Tryz.ntmps5
  go_wp2_with fail
  generalize B:(w.alloc (.cells #[.slice none 0 0,.slice none 0 0] 27)).alloc (.cells #[.int .i64 0,.int .i64 0] 30)=m at h n i ⊢;have W:m.heap.size=w.heap.size+2:=by rw[← B];simp
  clear B;refine (Aa U m).mono ?_;rintro r a ⟨X,Y,rfl,C,ax,c⟩;have E:=h.trans (c.mono h.size);have F:=n.after c NLN;have H:=i.after c NLN;have ay:w.heap.size+2≤a.heap.size:=by have:=c.size;omega
  clear h n i c W;have I:=An.new a #[.int .i64 0,.int .i64 (at_:Int)] 30;have o:=F.alloc (.cells #[.int .i64 0,.int .i64 (at_:Int)] 30);have p:=H.alloc (.cells #[.int .i64 0,.int .i64 (at_:Int)] 30);have j:=E.alloc E.size (.cells #[.int .i64 0,.int .i64 (at_:Int)] 30);have k:=World.ownsRow.alloc C (.cells #[.int .i64 0,.int .i64 (at_:Int)] 30);have J:(a.alloc (.cells #[.int .i64 0,.int .i64 (at_:Int)] 30)).heap.size=a.heap.size+1:=by simp
  dsimp only;go_wp2_with fail
  generalize a.alloc (.cells #[.int .i64 0,.int .i64 (at_:Int)] 30)=Z at I o p j k J ⊢;refine (I9 T X Y _ Z k (Aa A) (Aa z) _ (Aa V)).mono ?_;rintro r f ⟨rfl,b⟩;have K:=o.after b NLN;have L:=p.after b NLN;have s:=j.trans (b.mono j.size);have M:=Cd k b NLN;have az:a.heap.size+1≤f.heap.size:=by have:=b.size;omega
  clear J F H o p j k I b C;rw[Aa ap];have N:=An.new f #[.int .i64 4,.int .i64 (t.size:Int)] 30;have v:=K.alloc (.cells #[.int .i64 4,.int .i64 (t.size:Int)] 30);have x:=L.alloc (.cells #[.int .i64 4,.int .i64 (t.size:Int)] 30);have O:=s.alloc s.size (.cells #[.int .i64 4,.int .i64 (t.size:Int)] 30);dsimp only;go_wp2_with fail
  generalize f.alloc (.cells #[.int .i64 4,.int .i64 (t.size:Int)] 30)=aA at N v x O ⊢;clear K L s M;obtain ⟨aa,a1⟩:=KW N;obtain ⟨⟨ab,ac⟩,ad,⟨ae,af⟩,ag⟩:=Fq v x;have ah:w.heap.size≠w.heap.size+1:=by omega
  have ai:w.heap.size+1≠w.heap.size:=by omega
  have aj:f.heap.size≠w.heap.size:=by omega
  have ak:f.heap.size≠w.heap.size+1:=by omega
  obtain ⟨P,Q,S⟩:=Fp v x O (.slice none 0 0) (.slice none 0 0) (.int .i64 4) (.int .i64 (t.size:Int));have y:=Ab (And.intro P (And.intro Q S));clear P Q S;go_region_law fail
  all_goals
   clear aa a1 ab ac ad ae af ag ah ai aj ak;go_wp2_with fail
   exact bodyPost_ret (FW Tryz.results5 rfl rfl rfl (Aa y).1 (Aa y).2.1) rfl (NM.fault _ _ (Aa y).2.2)
 | cons u q=>
  have e1:(CW t.size (u ::q)).at_=u.at_:=rfl;rw[e1];have aB:cs.length < T.length:=by rw[l];simp
  have aC:=Ab (show T[cs.length]=u by simp[l]);have av:(cs.length:Int) < (T.length:Int):=by omega
  have aw:T.length≤4000:=Aa z;clear l e1;have h:=((Below.refl w.heap.size w).alloc NLN (.cells #[.slice none 0 0,.slice none 0 0] 27)).alloc (by simp) (.cells #[.int .i64 0,.int .i64 0] 30);have n:=(An.new w #[.slice none 0 0,.slice none 0 0] 27).alloc (.cells #[.int .i64 0,.int .i64 0] 30);have i:=An.new (w.alloc (.cells #[.slice none 0 0,.slice none 0 0] 27)) #[.int .i64 0,.int .i64 0] 30;simp only[World.size_alloc] at i;go_enter Tryz.func5,Tryz.ntmps5
  go_wp2_with fail
  generalize B:(w.alloc (.cells #[.slice none 0 0,.slice none 0 0] 27)).alloc (.cells #[.int .i64 0,.int .i64 0] 30)=m at h n i ⊢;have W:m.heap.size=w.heap.size+2:=by rw[← B];simp
  clear B;refine (Aa U m).mono ?_;rintro r a ⟨X,Y,rfl,C,ax,c⟩;have E:=h.trans (c.mono h.size);have F:=n.after c NLN;have H:=i.after c NLN;have ay:w.heap.size+2≤a.heap.size:=by have:=c.size;omega
  clear h n i c W;have I:=An.new a #[.int .i64 0,.int .i64 (at_:Int)] 30;have o:=F.alloc (.cells #[.int .i64 0,.int .i64 (at_:Int)] 30);have p:=H.alloc (.cells #[.int .i64 0,.int .i64 (at_:Int)] 30);have j:=E.alloc E.size (.cells #[.int .i64 0,.int .i64 (at_:Int)] 30);have k:=World.ownsRow.alloc C (.cells #[.int .i64 0,.int .i64 (at_:Int)] 30);have J:(a.alloc (.cells #[.int .i64 0,.int .i64 (at_:Int)] 30)).heap.size=a.heap.size+1:=by simp
  dsimp only;go_wp2_with fail
  generalize a.alloc (.cells #[.int .i64 0,.int .i64 (at_:Int)] 30)=Z at I o p j k J ⊢;refine (I9 T X Y _ Z k (Aa A) (Aa z) _ (Aa V)).mono ?_;rintro r f ⟨rfl,b⟩;have K:=o.after b NLN;have L:=p.after b NLN;have s:=j.trans (b.mono j.size);have M:=Cd k b NLN;have az:a.heap.size+1≤f.heap.size:=by have:=b.size;omega
  clear J F H o p j k I b C;rw[Aa ap];obtain ⟨aE,aF,aq,hx⟩:=Ah M;simp only[Value.slice.injEq] at aq;obtain ⟨rfl,_,rfl⟩:=aq;obtain ⟨g,rfl,aG,ar⟩:=hx (by omega);have aH:=(M.lt g rfl).2;have c3:=ar _ _ (Gl T cs.length aB).2.2.2;rw[Aa aC] at c3;have N:=An.new f #[.int .i64 4,.int .i64 (u.at_:Int)] 30;have v:=K.alloc (.cells #[.int .i64 4,.int .i64 (u.at_:Int)] 30);have x:=L.alloc (.cells #[.int .i64 4,.int .i64 (u.at_:Int)] 30);have O:=s.alloc s.size (.cells #[.int .i64 4,.int .i64 (u.at_:Int)] 30);clear ar hx;dsimp only;go_wp2_with fail
  generalize f.alloc (.cells #[.int .i64 4,.int .i64 (u.at_:Int)] 30)=aA at N v x O ⊢;clear K L s M c3;obtain ⟨aa,a1⟩:=KW N;obtain ⟨⟨ab,ac⟩,ad,⟨ae,af⟩,ag⟩:=Fq v x;have ah:w.heap.size≠w.heap.size+1:=by omega
  have ai:w.heap.size+1≠w.heap.size:=by omega
  have aj:f.heap.size≠w.heap.size:=by omega
  have ak:f.heap.size≠w.heap.size+1:=by omega
  obtain ⟨P,Q,S⟩:=Fp v x O (.slice none 0 0) (.slice none 0 0) (.int .i64 4) (.int .i64 (u.at_:Int));have y:=Ab (And.intro P (And.intro Q S));clear P Q S;go_region_law fail
  all_goals
   clear aa a1 ab ac ad ae af ag ah ai aj ak;go_wp2_with fail
   exact bodyPost_ret (FW Tryz.results5 rfl rfl rfl (Aa y).1 (Aa y).2.1) rfl (NM.fault _ _ (Aa y).2.2)
theorem NM.good {w a w':World}{b:Nat}{j nd c d:Value}{M:List Nd}{g:List Int}{L:List St}{h i:List Value}(C:EZ a b b j M g nd c h i)(O:a.ownsRow b 49 4 d L.length (CA L))(r:w.heap.size+1 < b)(k l m n:Value)(o:w'=Yt a w.heap.size k l m n)(p:Below w.heap.size w w'):NM (M,L,g,0,0) w (.returned (.tuple #[.agg #[nd,d],c,.agg #[.int .i64 0,.int .i64 0]])) w':=by
 have f:∀ q,b≤q→q < a.heap.size→w'.heap[q]? =a.heap[q]? :=fun q h1 _=>by rw[o];exact TG _ _ _ _ _ _ q (by omega) (by omega)
 exact ⟨⟨nd,c,h,i,d,rfl,(C.nodes.blocks f).low (by omega),Cm (Ac O (fun q hq=>f q (O.lt q hq).1 (O.lt q hq).2)) (by omega),Cm (Ac C.places (fun q hq=>f q (C.places.lt q hq).1 (C.places.lt q hq).2)) (by omega),C.apart⟩,p⟩
def YE (T:List Af) (o:Option Int) (W4:World) (vi:Value) (wr:World):Prop:=
 ∃ k:Nat,k≤T.length∧vi= .int .i64 (k:Int)∧o=(LE (Dc (T.drop k))).head?∧Below W4.heap.size W4 wr
theorem Vq (i:Nat)(a:List ByteArray)(L:List (Nat × List ByteArray)):(LE ((i,a) ::L)).head? =if 64 < (XV a).length then some (i:Int) else (LE L).head?:=by
 rw[LE,List.filterMap_cons];dsimp only;split
 ·rename_i h;rw[if_neg (by intro h2;rw[if_pos h2] at h;cases h)];rfl
 ·rename_i j h;by_cases h2: 64 < (XV a).length
  ·rw[if_pos h2] at h ⊢;injection h with h;rw[← h];rfl
  ·rw[if_neg h2] at h;cases h
def YU (T:List Af) (S:List Ps) (g ca nb:Nat) (W4:World) (vs vl:Value) (wr:World):Prop:=
 ∃ (k:Nat) (S1 S2:List Ps) (nd pl:Value) (nv kv:List Value),k≤T.length∧vl= .int .i64 (k:Int)∧S=S1 ++S2∧PC (T.drop k) S2∧IX (S.map Ps.sx)=IX (S2.map Ps.sx)∧wr.ownsRow nb 49 4 vs S1.length (CA (DZ 0 (S1.map Ps.sx)))∧EZ wr nb nb (.slice (some ⟨g,0,none⟩) T.length ca) (Bi 0 (S1.map Ps.sx)) (Dd (S1.map Ps.sx)) nd pl nv kv∧Below nb W4 wr
theorem SC.at_eq {c:List Af}{s:Ps}(h:SC c s):∃ t r,c=t ::r∧t.at_=s.at_:=by
 cases h with
 | let_=>exact ⟨_,_,rfl,rfl⟩
 | when=>exact ⟨_,_,rfl,rfl⟩
 | else_=>exact ⟨_,_,rfl,rfl⟩
theorem OR {T:List Af}{k:Nat}{c r:List Af}(h:T.drop k=c ++r):Fe T k (k+c.length)=c:=by
 rw[Fe,List.drop_take,h];simp
theorem TH (t:ByteArray)(S:List Ps)(w:World)(hc:(Ar t).code=0)(d:DP (Ar t).toks (.ok S)):
  Calls Tryz.prog 5 #[.string t] w (NM (FP t (.ok S)) w):=by
 obtain ⟨bZ,b0⟩:∃ bZ,bZ=FP t (.ok S):=⟨_,rfl⟩
 have aJ:=Ab (fun i h=>Kl (S:=S) (i:=i) hc h);have bb:=Ab (fun i h1 h2=>Km (S:=S) (i:=i) hc h1 h2);have bc:=Ab (fun h1 h2=>Qd (S:=S) hc h1 h2);rw[← b0] at aJ bb bc ⊢;clear b0;have aK:=Ab (fun u hu=>(Fi t u hu).1);have aL:=Ab (fun u hu=>(Fi t u hu).2);have aM:=Ab (KJ t);have bd:=Ab (fun aN=>Gt t aN);have bf:=Ab (d.run (Aa aK));have aa:=d.cut S rfl;have b1:=d.ne S rfl;clear d;generalize Ar t=R at bd hc aK aM bf aL aa ⊢;obtain ⟨T,dl,at_⟩:=R;dsimp only at bd hc aK aM bf aL aa ⊢;subst hc;have cO:=Ab (show Vf T (QR.ok S).res= -1 from rfl);have dm: 0 < T.length:=by
  cases aa with
  | nil=>exact absurd rfl b1
  | cons ab hu au=>simp;omega
 have b2:=Ab aa;have b3:=Ab aa.sets;have b5:=Ab aa.cnt;have b6:T.length≤4000:=Aa aM;clear aa b1;have aO:=((Below.refl w.heap.size w).alloc NLN (.cells #[.slice none 0 0,.slice none 0 0] 27)).alloc (by simp) (.cells #[.int .i64 0,.int .i64 0] 30);have bg:=(An.new w #[.slice none 0 0,.slice none 0 0] 27).alloc (.cells #[.int .i64 0,.int .i64 0] 30);have aP:=An.new (w.alloc (.cells #[.slice none 0 0,.slice none 0 0] 27)) #[.int .i64 0,.int .i64 0] 30;simp only[World.size_alloc] at aP;go_enter Tryz.func5,Tryz.ntmps5
 go_wp2_with fail
 generalize b7:(w.alloc (.cells #[.slice none 0 0,.slice none 0 0] 27)).alloc (.cells #[.int .i64 0,.int .i64 0] 30)=aN at aO bg aP ⊢;have cP:aN.heap.size=w.heap.size+2:=by rw[← b7];simp
 clear b7;refine (Aa bd aN).mono ?_;rintro r ag ⟨cQ,o,rfl,b8,dn,av⟩;have N:=aO.trans (av.mono aO.size);have b9:=bg.after av NLN;have ca:=aP.after av NLN;have cb:w.heap.size+2≤ag.heap.size:=by have:=av.size;omega
 clear aO bg aP av cP;have cc:=An.new ag #[.int .i64 0,.int .i64 (at_:Int)] 30;have bh:=b9.alloc (.cells #[.int .i64 0,.int .i64 (at_:Int)] 30);have bi:=ca.alloc (.cells #[.int .i64 0,.int .i64 (at_:Int)] 30);have aQ:=N.alloc N.size (.cells #[.int .i64 0,.int .i64 (at_:Int)] 30);have aR:=World.ownsRow.alloc b8 (.cells #[.int .i64 0,.int .i64 (at_:Int)] 30);have cd:(ag.alloc (.cells #[.int .i64 0,.int .i64 (at_:Int)] 30)).heap.size=ag.heap.size+1:=by simp
 dsimp only;go_wp2_with fail
 generalize ag.alloc (.cells #[.int .i64 0,.int .i64 (at_:Int)] 30)=cR at cc bh bi aQ aR cd ⊢;refine (I9 T cQ o _ cR aR (Aa aK) (Aa aM) _ (Aa bf)).mono ?_;rintro r z ⟨rfl,ah⟩;have ce:=bh.after ah NLN;have cf:=bi.after ah NLN;have bj:=aQ.trans (ah.mono aQ.size);have bk:=Cd aR ah NLN;have cg:ag.heap.size+1≤z.heap.size:=by have:=ah.size;omega
 clear cd b9 ca bh bi aQ aR cc ah b8;rw[Aa cO];obtain ⟨dp,dq,ch,hx⟩:=Ah bk;simp only[Value.slice.injEq] at ch;obtain ⟨rfl,_,rfl⟩:=ch;obtain ⟨g,rfl,ci,cj⟩:=hx (by omega);have aS:=(bk.lt g rfl).2;have bl:=bj.alloc bj.size (.cells #[.slice (some ⟨g,0,none⟩) T.length o,.slice none 0 0,.slice none 0 0] 44);have b4:=(Below.refl z.heap.size z).alloc NLN (.cells #[.slice (some ⟨g,0,none⟩) T.length o,.slice none 0 0,.slice none 0 0] 44);have aT:=An.new z #[.slice (some ⟨g,0,none⟩) T.length o,.slice none 0 0,.slice none 0 0] 44;have bm:=ce.after b4 NLN;have bn:=cf.after b4 NLN;have bo:Ja (z.alloc (.cells #[.slice (some ⟨g,0,none⟩) T.length o,.slice none 0 0,.slice none 0 0] 44)) z.heap.size g o T:=⟨aT.cell 0,fun j u hu=>(b4.cell (p:=⟨g,j,none⟩) aS).trans (cj j u hu),aT.lt,Nat.lt_of_lt_of_le aS b4.size⟩
 have aU:EZ (z.alloc (.cells #[.slice (some ⟨g,0,none⟩) T.length o,.slice none 0 0,.slice none 0 0] 44)) z.heap.size z.heap.size (.slice (some ⟨g,0,none⟩) T.length o) [] [] (.slice none 0 0) (.slice none 0 0) [] []:=⟨aT,BY.nil _ _,World.ownsRow_nil _ _ _ _,(fun q hq=>by cases hq),NLN⟩
 have bp:=Ab (And.intro aS ci);clear cj hx b4 aT ce cf bj bk ci;dsimp only;go_wp2_with fail
 generalize z.alloc (.cells #[.slice (some ⟨g,0,none⟩) T.length o,.slice none 0 0,.slice none 0 0] 44)=A at bl bm bn bo aU ⊢;generalize z.heap.size=l at *;have bq:Hid ((LE (S.flatMap Ps.sets)).head? =(LE (Dc T)).head?):=Ab (by rw[Aa b3]);generalize (LE (S.flatMap Ps.sets)).head? =ac at bq aJ bb bc;have aw:=Ab (show YE T ac A (.int .i64 0) A from ⟨0,by omega,rfl,Aa bq,BRN⟩);have ai:=Ab bo;have ck:=Ab aU;have br:=Ab (And.intro bl (And.intro bm bn));have aV:=Ab (And.intro cb (And.intro cg aU.row.lt));clear bo aU bl bm bn bq b3 cb cg aS;go_loopw [10,50] (fun _ bs wr=>YE T ac A bs wr) (fun _ bs _=>T.length - (intOf bs).toNat)
 case atStart=>exact Aa aw
 case round=>
  clear aw;obtain ⟨k,hk,rfl,aj,f⟩:=hrel;by_cases B:k < T.length
  ·have bt:(k:Int) < (T.length:Int):=by omega
   have aW:=Ab (CQ T.length k B);have y:=List.drop_eq_getElem_cons B;cases ak:see BV T[k]
   ·have bu:=Ab ak;have ad:=Ab (fun (w':World) (bv:Below A.heap.size A w')=>show YE T ac A (.int .i64 ((k:Int)+1)) w' from ⟨k+1,by omega,by rw[Int.natCast_add];rfl,by rw[aj,y,AQ ak],bv⟩);clear y aj ak;go_wp2_with fail
    refine (Bj (Aa ai) f k B BV false (Aa bu)).mono ?_;rintro r n ⟨rfl,aX⟩;dsimp only;go_wp2_with fail
    exact ⟨Aa ad _ (f.trans (aX.mono f.size)),Aa aW⟩
   ·have bu:=Ab ak;have aY:ac=if 64 < (XV (I1 (T.drop (k+1)))).length then some (T[k].at_:Int) else (LE (Dc (T.drop (k+1)))).head?:=by
     rw[aj,y,Dc,if_pos ak,Vq]
    have bw:=Ab aY;have bx:=Ab (M1 (T.drop (k+1)) (fun x hx=>Aa aL x (List.mem_of_mem_drop hx)));have cS:(I1 (T.drop (k+1))).length≤4000:=by
     have:=(Aa bx).2;rw[List.length_drop] at this;omega
    clear y aj ak aY;go_wp2_with fail
    refine (Bj (Aa ai) f k B BV true (Aa bu)).mono ?_;rintro r n ⟨rfl,aX⟩;have aZ:=f.trans (aX.mono f.size);dsimp only;go_wp2_with fail
    refine (JH ((Aa ai).below aZ) b6 k B).mono ?_;rintro r dr ⟨⟨ds,c7,rfl,bz⟩,cl⟩;have bA:=aZ.trans (cl.mono aZ.size);generalize I1 (T.drop (k+1))=M at bw bx cS bz ⊢;have cm:=Bg.of_owns bz (fun j al=>by rw[Cf M j al];exact (Aa bx).1 _ (List.getElem_mem _));clear bz aX cl;dsimp only;go_wp2_with fail
    refine (Eh _ _ _ _ _ cm (by omega)).mono ?_;rintro r cn ⟨dt,du,a0,rfl,cT,co,bB⟩;have ax:=bA.trans (co.mono bA.size);have cp:=Ab (QD bB);have dv:a0.length≤4000:=by have:=bB.len;omega
    clear bB cm cT co aZ f bA;dsimp only;by_cases ay: 64 < a0.length
    ·have a:(64 :Int) < (a0.length:Int):=by omega
     have U:=Ab (Aa aJ _ (show ac=some (T[k].at_:Int) by rw[Aa bw,← Aa cp,if_pos ay]));obtain ⟨_,_,_,c3⟩:=((Aa ai).below ax).at4 k B;generalize (T[k].at_:Int)=bC at c3 U;obtain ⟨O,V,W⟩:=Aa br;have P:=V.after ax NLN;have Q:=W.after ax NLN;have ao:=O.trans (ax.mono O.size);clear O V W;go_wp2_with fail
     obtain ⟨⟨ap,az⟩,aA,⟨u0,u1⟩,aB⟩:=Fq P Q;have aC:w.heap.size≠w.heap.size+1:=by omega
     have aD:w.heap.size+1≠w.heap.size:=by omega
     obtain ⟨X,Y,Z⟩:=Fp P Q ao (.slice none 0 0) (.slice none 0 0) (.int .i64 5) (.int .i64 bC);have C:=Ab (And.intro X (And.intro Y Z));clear X Y Z;go_region_law fail
     all_goals
      clear ap az aA u0 u1 aB aC aD c3;go_wp2_with fail
      exact bodyPost_ret (FW Tryz.results5 rfl rfl rfl (Aa C).1 (Aa C).2.1) rfl (by rw[Aa U];exact NM.fault _ _ (Aa C).2.2)
    ·have a: ¬ ((64 :Int) < (a0.length:Int)):=by omega
     have ad:=Ab (show YE T ac A (.int .i64 ((k:Int)+1)) cn from ⟨k+1,by omega,by rw[Int.natCast_add];rfl,by rw[Aa bw,← Aa cp,if_neg ay],ax⟩);go_wp2_with fail
     exact ⟨Aa ad,Aa aW⟩
  ·have aY:ac=none:=by rw[aj,List.drop_eq_nil_of_le (by omega)];rfl
   subst aY;have bt: ¬ ((k:Int) < (T.length:Int)):=by omega
   clear aJ aj;have aw:=Ab (show YU T S g o l A (.slice none 0 0) (.int .i64 0) wr from ⟨0, [],S,_,_,_,_,by omega,rfl,rfl,Aa b2,rfl,World.ownsRow_nil _ _ _ _,(Aa ck).below f,f.mono (by have:=(Aa aV).2.2;omega)⟩);clear f ck b2 B;go_wp2_with fail
   go_loopw [11,12] (fun cU bD wr=>YU T S g o l A cU bD wr) (fun _ bD _=>T.length - (intOf bD).toNat)
   case atStart=>exact Aa aw
   case round=>
    clear aw;obtain ⟨k,b,cq,nd,dw,dx,dy,hk,rfl,aE,aq,a1,ae,hC,af⟩:=hrel;obtain ⟨cr,cs,rfl,-⟩:=Ah ae;generalize wr=E at *;by_cases B:k < T.length
    ·have bt:(k:Int) < (T.length:Int):=by omega
     obtain ⟨c,r,u,s,aF,y,bE,ab,hu,au⟩:∃ c r u s aF,T.drop k=c ++u ::r∧cq=s ::aF∧SC c s∧see AF u=true∧PC r aF:=by
      generalize bF:T.drop k=bG at aq;cases aq with
      | nil=>have:=congrArg List.length bF;simp at this;omega
      | cons ab hu au=>exact ⟨_,_,_,_,_,rfl,rfl,ab,hu,au⟩
     subst bE;obtain ⟨hi,bH⟩:∃ hi,hi=k+c.length:=⟨_,rfl⟩
     have bI:Fe T k hi=c:=by rw[bH];exact OR y
     have bJ:hi < T.length:=by
      have:=congrArg List.length y;simp at this;omega
     have aG:T.drop hi=u ::r:=by rw[bH,← List.drop_drop,y];simp
     have ct:T.drop (hi+1)=r:=by
      rw[List.drop_eq_getElem_cons bJ] at aG;injection aG
     have a2:T[hi]=u:=by
      rw[List.drop_eq_getElem_cons bJ] at aG;injection aG
     have cV:k≤hi:=by omega
     have cu:=Ab (show ∀ j,(h1:k≤j)→(h2:j < hi)→∃ h:j < T.length,see AF T[j]=false from fun j h1 h2=>⟨by omega,by
      have:=Nj (T:=T) (lo:=k) (hi:=hi) (k:=j) (by omega) h1 h2;rw[bI] at this;exact ab.free _ this⟩)
     have cv:=Ab (show see AF T[hi]=true by rw[a2];exact hu);have cW:=Ab (show T[k].at_=s.at_ by
      obtain ⟨dz,ap,e1,e2⟩:=ab.at_eq;rw[e1,List.cons_append,List.drop_eq_getElem_cons B] at y;injection y with y _;rw[y,e2])
     have cX:=Ab (show SC (Fe T k hi) s by rw[bI];exact ab);have aW:=Ab (show T.length - (intOf (.int .i64 ((hi:Int)+1))).toNat < T.length - (intOf (.int .i64 (k:Int))).toNat by simp[intOf];omega);have bK:=Aa b5;rw[aE,List.map_append,KX,List.length_append] at bK;have cY:(Bi 0 (b.map Ps.sx)).length≤4000:=by rw[EG];omega
     have cZ:(Dd (b.map Ps.sx)).length≤4000:=by rw[Io];omega
     have c0:b.length≤4000:=by simp only[List.length_cons] at bK;omega
     have a3:=Mn (DZ 0 (b.map Ps.sx)) ⟨s.sx.kind,s.sx.name,I5 s.sx.cond (Bi 0 (b.map Ps.sx)).length,I5 s.sx.grant ((Bi 0 (b.map Ps.sx)).length+A9 s.sx.cond)⟩;have a4:=Jg s.sx (b.map Ps.sx) 0;have bL:=Jh s.sx (b.map Ps.sx);have eT:=Ji s.sx (b.map Ps.sx) 0;rw[Nat.zero_add,← EG (b.map Ps.sx) 0] at a4 eT;rw[← eT] at a3;have cw:(b ++ [s]).map Ps.sx=b.map Ps.sx ++ [s.sx]:=by simp
     rw[← cw] at a4 bL a3;have bM:=Ab (show IX (S.map Ps.sx)=if 64 < mx (LG s.sx.cond) (LG s.sx.grant) then some (s.at_:Int) else IX (aF.map Ps.sx) by rw[a1];rfl);have F:=Ab (show ∀ v aH bN bO bP bQ,¬ 64 < mx (LG s.sx.cond) (LG s.sx.grant)→aH.ownsRow l 49 4 v (b.length+1) (CA (DZ 0 (b.map Ps.sx)) ++ [.int .i64 s.sx.kind,.string s.sx.name,.int .i64 (I5 s.sx.cond (Bi 0 (b.map Ps.sx)).length),.int .i64 (I5 s.sx.grant ((Bi 0 (b.map Ps.sx)).length+A9 s.sx.cond))])→EZ aH l l (.slice (some ⟨g,0,none⟩) T.length o) (Bi 0 (b.map Ps.sx) ++JE s.sx.cond (Bi 0 (b.map Ps.sx)).length ++JE s.sx.grant ((Bi 0 (b.map Ps.sx)).length+A9 s.sx.cond)) (Dd (b.map Ps.sx) ++JW s.sx.cond ++JW s.sx.grant) bN bO bP bQ→Below l A aH→YU T S g o l A v (.int .i64 ((hi:Int)+1)) aH from fun v aH bN bO bP bQ h0 h1 h2 h3=>by
      refine ⟨hi+1,b ++ [s],aF,bN,bO,bP,bQ,by omega,by rw[Int.natCast_add];rfl,by rw[aE];simp,by rw[ct];exact au,by rw[Aa bM,if_neg h0], ?_, ?_,h3⟩
      ·rw[List.length_append,List.length_singleton,a3];exact h1
      ·rw[a4,bL];exact h2)
     clear a3 a4 bL eT cw a1 bK ct au ab hu a2 bI y aG aE bH b5;have cx:=(Aa ai).of hC af (Aa bp).1;generalize CA (DZ 0 (b.map Ps.sx))=c1 at ae F;generalize Bi 0 (b.map Ps.sx)=M at hC F cY;generalize Dd (b.map Ps.sx)=c2 at hC F cZ;generalize b.length=m at ae F c0;clear b;have bR:=Ab cx;have a5:=Ab hC;have a6:=Ab ae;have c4:=Ab af;have cy:=Ab (show WO k hi E (.int .i64 (k:Int)) E from ⟨k,NLN,cV,rfl,BRN⟩);clear cx hC ae af;go_wp2_with fail
     go_loopw [13] (fun bS w'=>WO k hi E bS w') (fun bS _=>hi - (intOf bS).toNat)
     case atStart=>exact Aa cy
     case round=>
      clear cy;obtain ⟨j,h1,h2,rfl,N⟩:=hrel;by_cases al:j < hi
      ·obtain ⟨c5,cz⟩:=Aa cu j h1 al;have c6:=Ab cz;have c8:=Ab (CQ hi j al);have ad:=Ab (fun (w':World) (bv:Below E.heap.size E w')=>show WO k hi E (.int .i64 ((j:Int)+1)) w' from ⟨j+1,by omega,by omega,by rw[Int.natCast_add];rfl,bv⟩);clear cz al;go_wp2_with fail
       refine (Bj (Aa bR) N j c5 AF false (Aa c6)).mono ?_;rintro r cA ⟨rfl,a7⟩;dsimp only;go_wp2_with fail
       exact ⟨Aa ad _ (N.trans (a7.mono N.size)),Aa c8⟩
      ·have e:hi=j:=by omega
       subst e;clear al cu;go_wp2_with fail
       refine (Bj (Aa bR) N hi bJ AF true (Aa cv)).mono ?_;rintro r cA ⟨rfl,a7⟩;have f:=N.trans (a7.mono N.size);have bT:=(Aa a5).below f;have cB:=(Aa bR).below f;have cC:=Ac (w':=cA) (Aa a6) (fun q hq=>f.block q ((Aa a6).lt q hq).2);clear a7 N cv;dsimp only;go_wp2_with fail
       refine (TE cB (Aa bp).1 b6 (Aa aL) bT (by omega) (by omega) (by omega) (Aa cX)).mono ?_;rintro r n ⟨rfl,dA,dB,dC,dD,ar,bU⟩;have bV:=bU.stmL bT cC;have c9:l≤E.heap.size:=by have:=(Aa a5).row.lt;omega
       have aI:=((Aa c4).trans (f.mono c9)).trans bU.low;clear bT cB cC bU f;generalize mx (LG s.sx.cond) (LG s.sx.grant)=bG at F bM ⊢;generalize I5 s.sx.cond M.length=H at F ⊢;generalize I5 s.sx.grant (M.length+A9 s.sx.cond)=I at F ⊢;generalize s.sx.kind=J at F ⊢;generalize s.sx.name=K at F ⊢;dsimp only;by_cases ay: 64 < bG
       ·have U:=Ab (Aa bb _ (by first | rfl | trivial) (show IX (S.map Ps.sx)=some (s.at_:Int) by rw[Aa bM,if_pos ay]))
        rw[← Aa cW] at U;have bW:=(Below.refl n.heap.size n).alloc NLN (.cells #[.int .i64 J,.string K,.int .i64 H,.int .i64 I] 49);obtain ⟨_,_,_,c3⟩:=(((Aa ai).of ar aI (Aa bp).1).below bW).at4 k B;generalize (T[k].at_:Int)=bC at c3 U;obtain ⟨O,V,W⟩:=Aa br;obtain ⟨cD,cE,cF⟩:=Aa aV;have a8:=aI.trans (bW.mono (by have:=ar.row.lt;omega));have P:An _ w.heap.size #[.slice none 0 0,.slice none 0 0] 27:=⟨(a8.block _ (by omega)).trans V.out⟩
        have Q:An _ (w.heap.size+1) #[.int .i64 0,.int .i64 0] 30:=⟨(a8.block _ (by omega)).trans W.out⟩
        have ao:=O.trans (a8.mono (by omega));clear O V W a8 bW cD cE cF ar bV aI F;go_wp2_with fail
        generalize n.alloc (.cells #[.int .i64 J,.string K,.int .i64 H,.int .i64 I] 49)=cn at c3 P Q ao ⊢;obtain ⟨⟨ap,az⟩,aA,⟨u0,u1⟩,aB⟩:=Fq P Q;have aC:w.heap.size≠w.heap.size+1:=by omega
        have aD:w.heap.size+1≠w.heap.size:=by omega
        obtain ⟨X,Y,Z⟩:=Fp P Q ao (.slice none 0 0) (.slice none 0 0) (.int .i64 6) (.int .i64 bC);have C:=Ab (And.intro X (And.intro Y Z));clear X Y Z;go_region_law fail
        all_goals
         clear ap az aA u0 u1 aB aC aD c3;go_wp2_with fail
         exact bodyPost_ret (FW Tryz.results5 rfl rfl rfl (Aa C).1 (Aa C).2.1) rfl (by rw[Aa U];exact NM.fault _ _ (Aa C).2.2)
       ·have a9:=(Below.refl n.heap.size n).alloc NLN (.cells #[.int .i64 J,.string K,.int .i64 H,.int .i64 I] 49);have cG:=ar.below a9;have ba:=World.ownsRow.alloc bV (.cells #[.int .i64 J,.string K,.int .i64 H,.int .i64 I] 49);have cH:=World.ownsRow.alloc ba (.cells #[.int .i64 J,.string K,.int .i64 H,.int .i64 I] 49);have bX:=World.news_of_block (heap_alloc_new (n.alloc (.cells #[.int .i64 J,.string K,.int .i64 H,.int .i64 I] 49)) (.cells #[.int .i64 J,.string K,.int .i64 H,.int .i64 I] 49));have cI:(n.alloc (.cells #[.int .i64 J,.string K,.int .i64 H,.int .i64 I] 49)).heap.size=n.heap.size+1:=by simp
        rw[cI] at bX;clear cI;have dE:l < n.heap.size:=ar.row.lt;have cJ:=aI.trans (a9.mono (by omega));have dF:n.heap.size≤(n.alloc (.cells #[.int .i64 J,.string K,.int .i64 H,.int .i64 I] 49)).heap.size:=a9.size;clear a9 aI ar;obtain ⟨da,db,dc,dd,de⟩:=info_parts Sp;go_wp2_with (at_builtin;refine wpList_append_lies _ rfl _ _ 25 rfl l 49 da (.agg #[.int .i64 0,.string ByteArray.empty,.int .i64 0,.int .i64 0]) 4 40 Tryz.underlying25 db dc dd de rfl (by decide) (.slice cr m cs) m c1 rfl cH ⟨n.heap.size+1,0,none⟩ 1 1 [.int .i64 J,.string K,.int .i64 H,.int .i64 I] rfl rfl bX ?q2 (by decide) ?q3 ?q4 ?q5 _ rfl ?_)
        case q2=>first | exact ⟨rfl,rfl,rfl,rfl⟩ | (intro u hu;simp at hu;rcases hu with rfl | rfl | rfl | rfl <;> rfl)
        case q3=>unfold maxLen;omega
        case q4=>omega
        case q5=>first | omega | (simp;omega)
        intro dG dH dI cK bY a2 df;have cL:=Ap bY;have cM:=cG.other ba cL;have cN:=(cJ.alloc (by omega) (.cells #[.int .i64 J,.string K,.int .i64 H,.int .i64 I] 49)).grown bY (by simp;omega) (fun q hq=>(ba.lt q hq).1);have ad:=Ab (Aa F _ _ _ _ _ _ ay cK cM cN);clear cL cM cN cK bY a2 df cH ba cG bX cJ bV;go_wp2_with fail
        exact ⟨Aa ad,Aa aW⟩
    ·have bE:cq= []:=by
      rw[List.drop_eq_nil_of_le (by omega)] at aq;generalize bF:([]:List Af)=bG at aq;cases aq with
      | nil=>rfl
      | @cons c r=>have:=congrArg List.length bF;simp at this
     subst bE;rw[List.append_nil] at aE;subst aE;have U:=Ab (Aa bc (by first | rfl | trivial) (show IX (S.map Ps.sx)=none by rw[a1];rfl))
     have dg:=Ab (show (DZ 0 (S.map Ps.sx)).length=S.length by rw[KM,List.length_map]);have bt: ¬ ((k:Int) < (T.length:Int)):=by omega
     obtain ⟨dh,di,rfl,-⟩:=Ah hC.nodes.own;obtain ⟨dJ,dK,rfl,-⟩:=Ah hC.places;obtain ⟨O,V,W⟩:=Aa br;obtain ⟨cD,cE,cF⟩:=Aa aV;have P:An E w.heap.size #[.slice none 0 0,.slice none 0 0] 27:=⟨(af.block _ (by omega)).trans V.out⟩
     have Q:An E (w.heap.size+1) #[.int .i64 0,.int .i64 0] 30:=⟨(af.block _ (by omega)).trans W.out⟩
     have ao:=O.trans (af.mono (by omega));have d1:E.cell? ⟨l,1,none⟩=some _:=hC.row.cell 1;have d2:E.cell? ⟨l,2,none⟩=some _:=hC.row.cell 2;have dj:l≠w.heap.size:=by omega
     have dk:l≠w.heap.size+1:=by omega
     have a5:=Ab hC;have a6:=Ab ae;generalize (Bi 0 (S.map Ps.sx))=M at *;generalize (Dd (S.map Ps.sx))=c2 at *;generalize (DZ 0 (S.map Ps.sx))=L at *;clear hC ae af O V W a1 aq B;go_wp2_with fail
     obtain ⟨⟨ap,az⟩,aA,⟨u0,u1⟩,aB⟩:=Fq P Q;have aC:w.heap.size≠w.heap.size+1:=by omega
     have aD:w.heap.size+1≠w.heap.size:=by omega
     obtain ⟨X,Y,Z⟩:=Fp P Q ao (.slice dh M.length di) (.slice cr S.length cs) (.int .i64 0) (.int .i64 0);have C:=Ab (And.intro X (And.intro Y Z));clear X Y Z;go_region_law fail
     all_goals
      clear ap az aA u0 u1 aB aC aD d1 d2 dj dk;go_wp2_with fail
      exact bodyPost_ret (FW Tryz.results5 rfl rfl rfl (Aa C).1 (Aa C).2.1) rfl (by rw[Aa U];exact NM.good (Aa a5) (by rw[Aa dg];exact Aa a6) (by have:=Aa aV;omega) _ _ _ _ rfl (Aa C).2.2)
theorem Ko (t:ByteArray)(x:QR)(d:DP (Ar t).toks x)(w:World):
  Calls Tryz.prog 5 #[.string t] w (NM (FP t x) w):=by
 by_cases hc:(Ar t).code=0
 ·cases x with
  | ok S=>exact TH t S w hc d
  | bad q=>exact QP t q w hc d
 ·exact OQ t x w hc
end Go.Proofs.YtdldimphcpojoaaGreatDoor
