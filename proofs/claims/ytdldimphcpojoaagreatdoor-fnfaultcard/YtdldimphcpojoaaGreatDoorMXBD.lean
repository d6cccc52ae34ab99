/-
  HR1, HU. Own work.
-/
import Derived.Test.YtdldimphcpojoaaGreatDoorHR
import Derived.Test.YtdldimphcpojoaaGreatDoorMXAT
namespace Go.Proofs.YtdldimphcpojoaaGreatDoor
open Go.RowKit
set_option linter.unusedVariables false
theorem Fo {B l j c:Nat}{T:List Af}(k:j < B)(hl:T.length≤4000)(m:∀ t∈T,t.text.size≤maxLen):∀ (n lo hi:Nat) (p:Pt),hi - lo≤n→hi≤T.length→lo≤hi→G 0 (Fe T lo hi) p→KU B l j c T lo hi p
 | n,lo,hi,p,hn,hh,hlo,g=>by
  have q:lo < hi:=by
   obtain ⟨t,r,e,_⟩:=g.head;obtain ⟨_,_,_,h⟩:=AB hh e;exact h
  match n,hn with
  | 0,hn=>omega
  | n+1,hn=>
   have o:∀ i f p,f≤T.length→i≤f→f - i < hi - lo→G 0 (Fe T i f) p→KU B l j c T i f p:=
    fun i f s h1 h2 h3 w=>Fo k hl m n i f s (by omega) h1 h2 w
   rcases g.cut0 with ⟨t,u,v,a,b,d,x,y,z,hs,rfl,h1,h2,h3,g1,g2,g3⟩ | g
   ·exact Vn k hl hh hlo hs h1 h2 h3 g1 g2 g3 o
   ·exact WM k hl m hh q g o
set_option maxRecDepth 100000
set_option maxHeartbeats 6400000
def Yl (B nb:Nat) (tv:Value) (s:Sx) (N:List Nd) (P:List Int) (nd pl:Value) (w:World) (r:Ending) (w':World):Prop:=
 r= .returned (.tuple #[.agg #[.int .i64 s.kind,.string s.name,.int .i64 (I5 s.cond N.length),.int .i64 (I5 s.grant (N.length+A9 s.cond))],.int .i64 (mx (LG s.cond) (LG s.grant))])∧∃ nd' pl' nv' kv',EZ w' B nb tv (N ++JE s.cond N.length ++JE s.grant (N.length+A9 s.cond)) (P ++JW s.cond ++JW s.grant) nd' pl' nv' kv'∧Nk B nb nd pl w nd' pl' w'
def WO (f n:Nat) (w4:World) (vf:Value) (wr:World):Prop:=
 ∃ k:Nat,f≤k∧k≤n∧vf= .int .i64 (k:Int)∧Below w4.heap.size w4 wr
theorem JZ {w:World}{B d f c:Nat}{T:List Af}{N:List Nd}{P:List Int}{nd v:Value}{X Y:List Value}(x:Ja w d f c T)(ah:f < B)(hl:T.length≤4000)(Z:∀ t∈T,t.text.size≤maxLen)(hC:EZ w B d (.slice (some ⟨f,0,none⟩) T.length c) N P nd v X Y){lo hi:Nat}(y:hi≤T.length){t u:Af}(hs:Fe T lo hi= [t,u])(ht:see AI t=true)(hu:see EA u=true):
  Calls Tryz.prog 14 #[.pointer (some ⟨d,0,none⟩),.int .i64 (lo:Int),.int .i64 (hi:Int)] w (Yl B d (.slice (some ⟨f,0,none⟩) T.length c) ⟨(t.at_:Int),3,Ax [],none,none⟩ N P nd v w):=by
 obtain ⟨z,j,A,ai⟩:=AB y hs;obtain ⟨aa,g5,g6,g7⟩:=AB y A;have k:=Ab x;have ab:=Ab (show see CU T[lo]=false from by rw[j];exact Ag ht (by decide));have ac:=Ab (show see AZ T[lo]=false from by rw[j];exact Ag ht (by decide));have ad:=Ab (show see Br T[lo+1]=false from by rw[g5];exact Ag hu (by decide));clear x j A g5 g6 hs ht hu Z;have C:B≤w.heap.size:=by have:=hC.row.lt;have:=hC.low;omega
 have E:=Mm.start hC;have g:Below w.heap.size w ((w.alloc (.cells #[.int .i64 0,.string ⟨#[]⟩,.int .i64 0,.int .i64 0] 49)).alloc (.cells #[.int .i64 0,.string ⟨#[]⟩,.int .i64 (-1),.int .i64 (-1)] 49)):=((Below.refl w.heap.size w).alloc NLN _).alloc (by simp) _;go_enter Tryz.func14,Tryz.ntmps14
 go_wp2_with fail
 refine (DJ (Aa k) g (lo) _ (by omega) z CU false (Aa ab)).mono ?_;rintro r aj ⟨rfl,l⟩;have h:=g.trans (l.mono g.size);dsimp only;go_wp2_with fail
 refine (DJ (Aa k) h (lo) _ (by omega) z AZ false (Aa ac)).mono ?_;rintro r ae ⟨rfl,m⟩;have F:=h.trans (m.mono h.size);dsimp only;have n:=(E.below l).below m;obtain ⟨H,I,J,K,i,a,o,L,M,O,Q⟩:=n.row4;have af:=i 0;clear I J K i a o L M O Q;clear E l m g h;go_wp2_with fail
 have q:=n.set C 0 (.int .i64 3) rfl;have b:=F.setCell (p:=⟨w.heap.size+1,0,none⟩) (Nat.le_succ _) (.int .i64 3);generalize ae.setCell ⟨w.heap.size+1,0,none⟩ (.int .i64 3)=ak at q b ⊢;clear n H af F;refine (DJ (Aa k) b (lo+1) _ (by omega) aa Br false (Aa ad)).mono ?_;rintro r al ⟨rfl,s⟩;have ao:=b.trans (s.mono b.size);dsimp only;have R:=q.below s;clear q s b;obtain ⟨H,I,J,K,i,a,o,L,M,O,Q⟩:=R.row4;have ap:=a 0;have aq:=a 1;have ar:=a 2;have au:=a 3;clear i a o;obtain ⟨S,U,V⟩:=R.done C;have W:=Ab (And.intro U V);have ag:=Ab S;clear U V S;go_wp2_with fail
 refine bodyPost_ret (Jd Tryz.results14 rfl rfl (Aa ag)) rfl ?_;exact ⟨rfl,_,_,_,_,by simp only[JE,JW,List.append_nil];exact (Aa W).1,(Aa W).2⟩
theorem Je {w:World}{B b h c:Nat}{T:List Af}{N:List Nd}{P:List Int}{nd J:Value}{aa ab:List Value}(ac:Ja w b h c T)(ad:h < B)(hl:T.length≤4000)(ae:∀ t∈T,t.text.size≤maxLen)(hC:EZ w B b (.slice (some ⟨h,0,none⟩) T.length c) N P nd J aa ab){lo hi:Nat}(L:hi≤T.length)(aW:N.length+4001≤65535)(aX:P.length+4001≤65535){t u:Af}{d:List Af}{q:Pt}(hs:Fe T lo hi=t ::u ::d)(ht:see AI t=true)(hu:see Br u=true)(af:G 0 d q):
  Calls Tryz.prog 14 #[.pointer (some ⟨b,0,none⟩),.int .i64 (lo:Int),.int .i64 (hi:Int)] w (Yl B b (.slice (some ⟨h,0,none⟩) T.length c) ⟨(t.at_:Int),3,Ax [],none,some q.ex⟩ N P nd J w):=by
 obtain ⟨ag,M,ah,aY⟩:=AB L hs;obtain ⟨aF,g5,g6,g7⟩:=AB L ah;have l:=Ab ac;have aG:=Ab (show see CU T[lo]=false from by rw[M];exact Ag ht (by decide));have aH:=Ab (show see AZ T[lo]=false from by rw[M];exact Ag ht (by decide));have aI:=Ab (show see Br T[lo+1]=true from by rw[g5];exact hu);have hq:q.ex.cnt≤4000:=by have h1:=af.cnt;have h2:=DQ (lo:=lo+1+1) L;rw[g6] at h2;omega
 have aJ:=Bf q.ex;have O:=Ab (Fo ad hl ae _ (lo+1+1) hi q NLN (by omega) (by omega) (by rw[g6];exact af):KU B b h c T (lo+1+1) hi q);unfold KU at O;rw[show (((lo+1+1 :Nat)):Int)=(lo:Int)+1+1 from by omega] at O;clear ac M ah g5 g6 hs ht hu ae;have Q:B≤w.heap.size:=by have:=hC.row.lt;have:=hC.low;omega
 have ai:=Mm.start hC;have m:Below w.heap.size w ((w.alloc (.cells #[.int .i64 0,.string ⟨#[]⟩,.int .i64 0,.int .i64 0] 49)).alloc (.cells #[.int .i64 0,.string ⟨#[]⟩,.int .i64 (-1),.int .i64 (-1)] 49)):=((Below.refl w.heap.size w).alloc NLN _).alloc (by simp) _;go_enter Tryz.func14,Tryz.ntmps14
 go_wp2_with fail
 refine (DJ (Aa l) m (lo) _ (by omega) ag CU false (Aa aG)).mono ?_;rintro r aZ ⟨rfl,R⟩;have n:=m.trans (R.mono m.size);dsimp only;go_wp2_with fail
 refine (DJ (Aa l) n (lo) _ (by omega) ag AZ false (Aa aH)).mono ?_;rintro r aK ⟨rfl,S⟩;have aj:=n.trans (S.mono n.size);dsimp only;have U:=(ai.below R).below S;obtain ⟨o,s,v,y,f,a,i,z,A,E,F⟩:=U.row4;have aL:=f 0;clear s v y f a i z A E F;clear ai R S m n;go_wp2_with fail
 have V:=U.set Q 0 (.int .i64 3) rfl;have j:=aj.setCell (p:=⟨w.heap.size+1,0,none⟩) (Nat.le_succ _) (.int .i64 3);generalize aK.setCell ⟨w.heap.size+1,0,none⟩ (.int .i64 3)=a0 at V j ⊢;clear U o aL aj;refine (DJ (Aa l) j (lo+1) _ (by omega) aF Br true (Aa aI)).mono ?_;rintro r aM ⟨rfl,W⟩;have aN:=j.trans (W.mono j.size);dsimp only;have k:=V.below W;clear V W j;go_wp2_with fail
 have ak:=(Aa l).of k.C k.K.low ad;refine (Aa O N P nd J aa ab aM ak k.C (by omega) (by omega)).mono ?_;rintro r al ⟨rfl,X,a1,a2,a3,ao,ap,_⟩;rw[Am];have S6:=k.call ao ap;obtain ⟨g,Y⟩:∃ x:Int,x=((N.length+q.ex.cnt - 1 :Nat):Int):=⟨_,rfl⟩
 rw[← Y];have aq:=Ab Y;have ar:=S6.set Q 3 (.int .i64 g) rfl;clear ak ao ap Y k aN;obtain ⟨o,s,v,y,f,a,i,z,A,E,F⟩:=S6.row4;have aO:=f 3;clear o s v f a i z A E F;have H:=ar.below (CK _);obtain ⟨aP,aQ,aR,au,_,_,av,_,_,_,_⟩:=H.row4;have Z:=Ab (It q.ex N H.C.nodes (by omega));rw[← Aa aq] at Z;dsimp only;have aS:(al.setCell ⟨w.heap.size+1,3,none⟩ (.int .i64 g)).drew.cell? ⟨b,1,none⟩=some X∧(al.setCell ⟨w.heap.size+1,3,none⟩ (.int .i64 g)).drew.cell? ⟨w.heap.size+1,3,none⟩=some (.int .i64 g):=⟨av,au⟩
 clear aP aQ aR au av;go_wp2_with fail
 go_region_held3 (fun w'=>w'.cell? ⟨b,1,none⟩=some X∧w'.cell? ⟨w.heap.size+1,3,none⟩=some (.int .i64 g)) (first | assumption | go_keep) ((go_at_call 31;refine (Aa Z).mono ?_;rintro r aw ⟨rfl,ax⟩;have I:=H.below ax;have aT:aw.cell? ⟨b,1,none⟩=some X∧aw.cell? ⟨w.heap.size+1,3,none⟩=some (.int .i64 g):=⟨I.row4.2.2.2.2.2.2.1,I.row4.2.2.2.1⟩))
 clear ax ar S6 H aO y Z aS aT;have ay:(0 :Int) < DF q.ex:=by omega
 generalize az:DF q.ex=aA at aJ ay ⊢;have aU:=Ab az;clear az;obtain ⟨o,s,v,y,f,a,i,z,A,E,F⟩:=I.row4;have a4:=a 0;have a5:=a 1;have a6:=a 2;have a7:=a 3;clear f a i;obtain ⟨aB,aC,aD⟩:=I.done Q;have aE:=Ab (And.intro aC aD);have aV:=Ab aB;clear aC aD aB;go_wp2_with fail
 refine bodyPost_ret (Jd Tryz.results14 rfl rfl (Aa aV)) rfl ?_;exact ⟨by rw[Aa aq];simp only[I5,A9,LG,Aa aU,Nat.add_zero];rw[show mx 0 aA=aA from if_pos ay];rfl,_,_,_,_,by simp only[JE,JW,A9,List.append_nil,Nat.add_zero];exact (Aa aE).1,(Aa aE).2⟩
theorem TD {w:World}{B g i c:Nat}{T:List Af}{N:List Nd}{P:List Int}{nd J:Value}{Z aa:List Value}(ab:Ja w g i c T)(L:i < B)(hl:T.length≤4000)(ac:∀ t∈T,t.text.size≤maxLen)(hC:EZ w B g (.slice (some ⟨i,0,none⟩) T.length c) N P nd J Z aa){lo hi:Nat}(z:hi≤T.length)(aX:N.length+4001≤65535)(aY:P.length+4001≤65535){t n e:Af}{d:List Af}{q:Pt}(hs:Fe T lo hi=t ::n ::e ::d)(ht:see CU t=true)(ad:G 0 d q):
  Calls Tryz.prog 14 #[.pointer (some ⟨g,0,none⟩),.int .i64 (lo:Int),.int .i64 (hi:Int)] w (Yl B g (.slice (some ⟨i,0,none⟩) T.length c) ⟨(t.at_:Int),1,n.text,some q.ex,none⟩ N P nd J w):=by
 obtain ⟨ax,ae,af,aZ⟩:=AB z hs;obtain ⟨ay,g5,g6,g7⟩:=AB z af;obtain ⟨a0,k5,M,a1⟩:=AB z g6;have O:=Ab ab;have az:=Ab (show see CU T[lo]=true from by rw[ae];exact ht);have aA:=Ab g5;have hq:q.ex.cnt≤4000:=by have h1:=ad.cnt;have h2:=DQ (lo:=lo+1+1+1) z;rw[M] at h2;omega
 have aB:=Bf q.ex;have Q:=Ab (Fo L hl ac _ (lo+1+1+1) hi q NLN (by omega) (by omega) (by rw[M];exact ad):KU B g i c T (lo+1+1+1) hi q);unfold KU at Q;rw[show (((lo+1+1+1 :Nat)):Int)=(lo:Int)+3 from by omega] at Q;clear ab ae af g5 g6 k5 M hs ht ac;have A:B≤w.heap.size:=by have:=hC.row.lt;have:=hC.low;omega
 have ag:=Mm.start hC;have E:Below w.heap.size w ((w.alloc (.cells #[.int .i64 0,.string ⟨#[]⟩,.int .i64 0,.int .i64 0] 49)).alloc (.cells #[.int .i64 0,.string ⟨#[]⟩,.int .i64 (-1),.int .i64 (-1)] 49)):=((Below.refl w.heap.size w).alloc NLN _).alloc (by simp) _;go_enter Tryz.func14,Tryz.ntmps14
 go_wp2_with fail
 refine (DJ (Aa O) E (lo) _ (by omega) ax CU true (Aa az)).mono ?_;rintro r aC ⟨rfl,R⟩;have aD:=E.trans (R.mono E.size);dsimp only;have S:=ag.below R;have j:=S.set A 0 (.int .i64 1) rfl;have f:=j.set A 1 (.string n.text) rfl;have U:=(Aa O).of j.C j.K.low L;obtain ⟨_,_,q2,_⟩:=U.at4 (lo+1) ay;rw[Aa aA] at q2;have aE:=U.at0;have a2:(lo:Int)+1 < (T.length:Int):=by omega
 obtain ⟨k,l,F,m,b,a,o,p,s,u,y⟩:=S.row4;have aF:=b 0;clear l F m b a o p s u y;obtain ⟨aG,aH,aI,aJ,ah,_,_,_,_,_,_⟩:=j.row4;have aK:=ah 1;clear ag R ah E;go_wp2_with fail
 clear k aF aG aH aI aJ aK q2 aE U j S;generalize (aC.setCell ⟨w.heap.size+1,0,none⟩ (.int .i64 1)).setCell ⟨w.heap.size+1,1,none⟩ (.string n.text)=aL at f ⊢;have ai:=(Aa O).of f.C f.K.low L;refine (Aa Q N P nd J Z aa aL ai f.C (by omega) (by omega)).mono ?_;rintro r aj ⟨rfl,aM,a3,a4,a5,ak,al,_⟩;rw[Am];have S6:=f.call ak al;obtain ⟨H,V⟩:∃ x:Int,x=((N.length+q.ex.cnt - 1 :Nat):Int):=⟨_,rfl⟩
 rw[← V];have ao:=Ab V;have aN:=S6.set A 2 (.int .i64 H) rfl;clear ai ak al V f aD;obtain ⟨k,l,F,m,b,a,o,p,s,u,y⟩:=S6.row4;have a6:=b 2;clear k l m b a o p s u y;have W:=aN.below (CK _);obtain ⟨a7,a8,a9,ba,_,_,bb,_,_,_,_⟩:=W.row4;have I:=Ab (It q.ex N W.C.nodes (by omega));rw[← Aa ao] at I;dsimp only;have aO:(Tryz.f31.name== "runtime.NumGoroutine")=false:=by kernel_rfl
 have aP: Tryz.f31.body.isNone=false:=by kernel_rfl
 generalize ap:DF q.ex=X at aB I;have aQ:=Ab ap;clear ap;have aR:=Ab ((Aa I).mono (R':=fun e w'=>∃ v,e= .returned v∧(v= .int .i64 X∧Below (aj.setCell ⟨w.heap.size+1,2,none⟩ (.int .i64 H)).drew.heap.size (aj.setCell ⟨w.heap.size+1,2,none⟩ (.int .i64 H)).drew w')) (fun r w' h=>⟨_,h.1,rfl,h.2⟩));clear I;go_wp2_with fail
 go_region_law (refine JJ rfl 31 _ Tryz.func31 aO aP _ _ _ rfl aM (.int .i64 H) rfl rfl _ (Aa aR) ?_;rintro bc bd ⟨rfl,aq⟩;have Y:=W.below aq;obtain ⟨k,l,F,m,b,a,o,p,s,u,y⟩:=Y.row4;have aS:=a 0;have aT:=a 1;have aU:=a 2;have aV:=a 3;clear b a o)
 all_goals
  obtain ⟨ar,au,av⟩:=Y.done A;have aw:=Ab (And.intro au av);have aW:=Ab ar;clear au av ar Y aq k l F m p s u y aS aT aU aV;go_wp2_with fail
  refine bodyPost_ret (Jd Tryz.results14 rfl rfl (Aa aW)) rfl ?_;exact ⟨by rw[Aa ao];simp only[I5,LG,Aa aQ];rw[show mx X 0=X from if_neg (by omega)];rfl,_,_,_,_,by simp only[JE,JW,List.append_nil];exact (Aa aw).1,(Aa aw).2⟩
theorem J0 {w:World}{B f o c:Nat}{T:List Af}{N:List Nd}{P:List Int}{nd X:Value}{ap aq:List Value}(ar:Ja w f o c T)(z:o < B)(hl:T.length≤4000)(au:∀ t∈T,t.text.size≤maxLen)(hC:EZ w B f (.slice (some ⟨o,0,none⟩) T.length c) N P nd X ap aq){lo hi:Nat}(A:hi≤T.length)(bj:N.length+8001≤65535)(bk:P.length+8001≤65535){t a:Af}{cs:List Af}{q:Pt}{u:Af}(hs:Fe T lo hi=t ::(cs ++a :: [u]))(hu:see EA u=true)(ht:see AZ t=true)(E:G 0 cs q)(av:see Bh a=true):
  Calls Tryz.prog 14 #[.pointer (some ⟨f,0,none⟩),.int .i64 (lo:Int),.int .i64 (hi:Int)] w (Yl B f (.slice (some ⟨o,0,none⟩) T.length c) ⟨(t.at_:Int),2,Ax [],some q.ex,none⟩ N P nd X w):=by
 obtain ⟨aw,Y,ax,bl⟩:=AB A hs;obtain ⟨g1,g2,g3⟩:=E6 A ax (by omega);obtain ⟨ay,g5,g6,g7⟩:=AB A g2;have p:=Ab ar;have aY:=Ab (show see CU T[lo]=false from by rw[Y];exact Ag ht (by decide));have aZ:=Ab (show see AZ T[lo]=true from by rw[Y];exact ht);have Z:=Ab (show ∀ k,(h1:lo+1≤k)→(h2:k < lo+1+cs.length)→∃ h:k < T.length,see Bh T[k]=false from fun k h1 h2=>⟨by omega,by
  have:=Nj (T:=T) (lo:=lo+1) (hi:=lo+1+cs.length) (k:=k) (by omega) h1 h2;rw[g1] at this;exact (E.free _ this).2⟩)
 have aa:=Ab (show ∃ h:lo+1+cs.length < T.length,see Bh T[lo+1+cs.length]=true from ⟨ay,by rw[g5];exact av⟩);have bm:q.ex.cnt≤4000:=by have h1:=E.cnt;have h2:=DQ (lo:=lo+1) (hi:=lo+1+cs.length) (T:=T) (by omega);rw[g1] at h2;omega
 have a0:=Bf q.ex;obtain ⟨b,az⟩:∃ b,b=lo+1+cs.length:=⟨_,rfl⟩
 clear g5;rw[← az] at g1 g2 g3 g6 g7 ay Z aa;have bn:lo+1≤b:=by omega
 clear az;have ab:=Ab (Fo z hl au _ (lo+1) b q NLN (by omega) (by omega) (by rw[g1];exact E):KU B f o c T (lo+1) b q);unfold KU at ab;rw[show (((lo+1 :Nat)):Int)=(lo:Int)+1 from by omega] at ab;obtain ⟨a1,aA,a2,bo⟩:=AB A g6;have a3:=Ab (show see Br T[b+1]=false from by rw[aA];exact Ag hu (by decide));clear aA a2 hu;clear ar Y ax g1 g2 g6 hs ht au E av;have ac:B≤w.heap.size:=by have:=hC.row.lt;have:=hC.low;omega
 have aB:=Mm.start hC;have F:Below w.heap.size w ((w.alloc (.cells #[.int .i64 0,.string ⟨#[]⟩,.int .i64 0,.int .i64 0] 49)).alloc (.cells #[.int .i64 0,.string ⟨#[]⟩,.int .i64 (-1),.int .i64 (-1)] 49)):=((Below.refl w.heap.size w).alloc NLN _).alloc (by simp) _;go_enter Tryz.func14,Tryz.ntmps14
 go_wp2_with fail
 refine (DJ (Aa p) F (lo) _ (by omega) aw CU false (Aa aY)).mono ?_;rintro r bp ⟨rfl,ad⟩;have H:=F.trans (ad.mono F.size);dsimp only;go_wp2_with fail
 refine (DJ (Aa p) H (lo) _ (by omega) aw AZ true (Aa aZ)).mono ?_;rintro r a4 ⟨rfl,ae⟩;have a5:=H.trans (ae.mono H.size);dsimp only;have af:=(aB.below ad).below ae;obtain ⟨I,J,L,M,i,d,s,O,Q,R,S⟩:=af.row4;have a6:=i 0;clear J L M i d s O Q R S;clear aB ad ae F H;go_wp2_with fail
 have g:=af.set ac 0 (.int .i64 2) rfl;generalize a4.setCell ⟨w.heap.size+1,0,none⟩ (.int .i64 2)=j at g ⊢;clear af I a6 a5;have aC:=Ab (show WO (lo+1) b j (.int .i64 ((lo:Int)+1)) j from ⟨lo+1,NLN,by omega,by rw[Int.natCast_add];rfl,BRN⟩);have aD:=Ab g;have ag:=Ab ((Aa p).of g.C g.K.low z);clear g;go_loopw [10] (fun ah wr=>WO (lo+1) b j ah wr) (fun ah _=>b - (intOf ah).toNat)
 case atStart=>exact Aa aC
 case round=>
  clear aC;obtain ⟨k,h1,h2,rfl,l⟩:=hrel;by_cases hk:k < b
  ·obtain ⟨ai,v⟩:=Aa Z k h1 hk;have aj:=Ab v;have a7:=Ab (CQ b k hk);have a8:=Ab (fun (w':World) (a9:Below j.heap.size j w')=>show WO (lo+1) b j (.int .i64 ((k:Int)+1)) w' from ⟨k+1,by omega,by omega,by rw[Int.natCast_add];rfl,a9⟩);clear v hk;go_wp2_with fail
   refine (Bj (Aa ag) l k ai Bh false (Aa aj)).mono ?_;rintro r aE ⟨rfl,U⟩;dsimp only;go_wp2_with fail
   exact ⟨Aa a8 _ (l.trans (U.mono l.size)),Aa a7⟩
  ·have e:k=b:=by omega
   subst e;obtain ⟨ai,v⟩:=Aa aa;have aj:=Ab v;have g:=(Aa aD).below l;clear v hk Z aa aD;go_wp2_with fail
   refine (Bj (Aa ag) l k ai Bh true (Aa aj)).mono ?_;rintro r aE ⟨rfl,U⟩;have y:=g.below U;clear g U ag l;dsimp only;go_wp2_with fail
   have aF:=(Aa p).of y.C y.K.low z;refine (Aa ab N P nd X ap aq aE aF y.C (by omega) (by omega)).mono ?_;rintro r aG ⟨rfl,ak,bq,br,bs,aH,aI,_⟩;rw[Am];have S6:=y.call aH aI;obtain ⟨m,al⟩:∃ x:Int,x=((N.length+q.ex.cnt - 1 :Nat):Int):=⟨_,rfl⟩
   rw[← al];have aJ:=Ab al;have aK:=S6.set ac 2 (.int .i64 m) rfl;clear aF aH aI al y;obtain ⟨I,J,L,M,i,d,s,O,Q,R,S⟩:=S6.row4;have ba:=i 2;clear I J M i d s O Q R S;have V:=aK.below (CK _);obtain ⟨bb,bc,aL,bd,_,_,aM,_,_,_,_⟩:=V.row4;have ao:=Ab (It q.ex N V.C.nodes (by omega));rw[← Aa aJ] at ao;dsimp only;have bf:(aG.setCell ⟨w.heap.size+1,2,none⟩ (.int .i64 m)).drew.cell? ⟨f,1,none⟩=some ak∧(aG.setCell ⟨w.heap.size+1,2,none⟩ (.int .i64 m)).drew.cell? ⟨w.heap.size+1,2,none⟩=some (.int .i64 m):=⟨aM,aL⟩
   clear bb bc aL bd aM;go_wp2_with fail
   go_region_held3 (fun w'=>w'.cell? ⟨f,1,none⟩=some ak∧w'.cell? ⟨w.heap.size+1,2,none⟩=some (.int .i64 m)) (first | assumption | go_keep) ((go_at_call 31;refine (Aa ao).mono ?_;rintro r W ⟨rfl,aN⟩;have n:=V.below aN;have bg:W.cell? ⟨f,1,none⟩=some ak∧W.cell? ⟨w.heap.size+1,2,none⟩=some (.int .i64 m):=⟨n.row4.2.2.2.2.2.2.1,n.row4.2.2.1⟩))
   clear aN aK S6 V ba L ao bf bg;generalize aO:DF q.ex=aP at a0 ⊢;have bh:=Ab aO;clear aO;have aQ:=(Aa p).of n.C n.K.low z;have aR:=Below.refl W.heap.size W;go_wp2_with fail
   refine (DJ aQ aR (k+1) _ (by omega) a1 Br false (Aa a3)).mono ?_;rintro r bt ⟨rfl,aS⟩;have aT:=n.below aS;clear aQ aR n aS;dsimp only;obtain ⟨I,J,L,M,i,d,s,O,Q,R,S⟩:=aT.row4;have bu:=d 0;have bv:=d 1;have bw:=d 2;have bx:=d 3;clear i d s;obtain ⟨aU,aV,aW⟩:=aT.done ac;have aX:=Ab (And.intro aV aW);have bi:=Ab aU;clear aV aW aU;go_wp2_with fail
   refine bodyPost_ret (Jd Tryz.results14 rfl rfl (Aa bi)) rfl ?_;exact ⟨by rw[Aa aJ];simp only[I5,LG,Aa bh];rw[show mx aP 0=aP from if_neg (by omega)];rfl,_,_,_,_,by simp only[JE,JW,List.append_nil];exact (Aa aX).1,(Aa aX).2⟩
theorem Jf {w:World}{B g I c:Nat}{T:List Af}{N:List Nd}{P:List Int}{nd ax:Value}{ay az:List Value}(a1:Ja w g I c T)(J:I < B)(hl:T.length≤4000)(aA:∀ t∈T,t.text.size≤maxLen)(hC:EZ w B g (.slice (some ⟨I,0,none⟩) T.length c) N P nd ax ay az){lo hi:Nat}(X:hi≤T.length)(b2:N.length+8001≤65535)(b3:P.length+8001≤65535){t a:Af}{cs:List Af}{q:Pt}{u:Af}{d:List Af}{p:Pt}(hs:Fe T lo hi=t ::(cs ++a ::u ::d))(hu:see Br u=true)(aB:G 0 d p)(ht:see AZ t=true)(ag:G 0 cs q)(a2:see Bh a=true):
  Calls Tryz.prog 14 #[.pointer (some ⟨g,0,none⟩),.int .i64 (lo:Int),.int .i64 (hi:Int)] w (Yl B g (.slice (some ⟨I,0,none⟩) T.length c) ⟨(t.at_:Int),2,Ax [],some q.ex,some p.ex⟩ N P nd ax w):=by
 obtain ⟨a3,aC,a4,b4⟩:=AB X hs;obtain ⟨g1,g2,g3⟩:=E6 X a4 (by omega);obtain ⟨a5,g5,g6,g7⟩:=AB X g2;have L:=Ab a1;have bB:=Ab (show see CU T[lo]=false from by rw[aC];exact Ag ht (by decide));have bC:=Ab (show see AZ T[lo]=true from by rw[aC];exact ht);have aD:=Ab (show ∀ k,(h1:lo+1≤k)→(h2:k < lo+1+cs.length)→∃ h:k < T.length,see Bh T[k]=false from fun k h1 h2=>⟨by omega,by
  have:=Nj (T:=T) (lo:=lo+1) (hi:=lo+1+cs.length) (k:=k) (by omega) h1 h2;rw[g1] at this;exact (ag.free _ this).2⟩)
 have aE:=Ab (show ∃ h:lo+1+cs.length < T.length,see Bh T[lo+1+cs.length]=true from ⟨a5,by rw[g5];exact a2⟩);have b5:q.ex.cnt≤4000:=by have h1:=ag.cnt;have h2:=DQ (lo:=lo+1) (hi:=lo+1+cs.length) (T:=T) (by omega);rw[g1] at h2;omega
 have bD:=Bf q.ex;obtain ⟨b,a6⟩:∃ b,b=lo+1+cs.length:=⟨_,rfl⟩
 clear g5;rw[← a6] at g1 g2 g3 g6 g7 a5 aD aE;have b6:lo+1≤b:=by omega
 clear a6;have aF:=Ab (Fo J hl aA _ (lo+1) b q NLN (by omega) (by omega) (by rw[g1];exact ag):KU B g I c T (lo+1) b q);unfold KU at aF;rw[show (((lo+1 :Nat)):Int)=(lo:Int)+1 from by omega] at aF;obtain ⟨bE,a7,aG,b7⟩:=AB X g6;have bF:=Ab (show see Br T[b+1]=true from by rw[a7];exact hu);have b8:p.ex.cnt≤4000:=by have h1:=aB.cnt;have h2:=DQ (lo:=b+1+1) X;rw[aG] at h2;omega
 have bG:=Bf p.ex;have aH:=Ab (Fo J hl aA _ (b+1+1) hi p NLN (by omega) (by omega) (by rw[aG];exact aB):KU B g I c T (b+1+1) hi p);unfold KU at aH;rw[show (((b+1+1 :Nat)):Int)=(b:Int)+1+1 from by omega] at aH;clear a7 aG hu aB;clear a1 aC a4 g1 g2 g6 hs ht aA ag a2;have Y:B≤w.heap.size:=by have:=hC.row.lt;have:=hC.low;omega
 have a8:=Mm.start hC;have ah:Below w.heap.size w ((w.alloc (.cells #[.int .i64 0,.string ⟨#[]⟩,.int .i64 0,.int .i64 0] 49)).alloc (.cells #[.int .i64 0,.string ⟨#[]⟩,.int .i64 (-1),.int .i64 (-1)] 49)):=((Below.refl w.heap.size w).alloc NLN _).alloc (by simp) _;go_enter Tryz.func14,Tryz.ntmps14
 go_wp2_with fail
 refine (DJ (Aa L) ah (lo) _ (by omega) a3 CU false (Aa bB)).mono ?_;rintro r b9 ⟨rfl,aI⟩;have ai:=ah.trans (aI.mono ah.size);dsimp only;go_wp2_with fail
 refine (DJ (Aa L) ai (lo) _ (by omega) a3 AZ true (Aa bC)).mono ?_;rintro r bH ⟨rfl,aJ⟩;have bI:=ai.trans (aJ.mono ai.size);dsimp only;have aK:=(a8.below aI).below aJ;obtain ⟨s,v,y,z,i,f,j,A,E,F,H⟩:=aK.row4;have bJ:=i 0;clear v y z i f j A E F H;clear a8 aI aJ ah ai;go_wp2_with fail
 have l:=aK.set Y 0 (.int .i64 2) rfl;generalize bH.setCell ⟨w.heap.size+1,0,none⟩ (.int .i64 2)=O at l ⊢;clear aK s bJ bI;have a9:=Ab (show WO (lo+1) b O (.int .i64 ((lo:Int)+1)) O from ⟨lo+1,NLN,by omega,by rw[Int.natCast_add];rfl,BRN⟩);have ba:=Ab l;have aL:=Ab ((Aa L).of l.C l.K.low J);clear l;go_loopw [10] (fun aM wr=>WO (lo+1) b O aM wr) (fun aM _=>b - (intOf aM).toNat)
 case atStart=>exact Aa a9
 case round=>
  clear a9;obtain ⟨k,h1,h2,rfl,Q⟩:=hrel;by_cases hk:k < b
  ·obtain ⟨aN,Z⟩:=Aa aD k h1 hk;have aO:=Ab Z;have bK:=Ab (CQ b k hk);have bL:=Ab (fun (w':World) (bM:Below O.heap.size O w')=>show WO (lo+1) b O (.int .i64 ((k:Int)+1)) w' from ⟨k+1,by omega,by omega,by rw[Int.natCast_add];rfl,bM⟩);clear Z hk;go_wp2_with fail
   refine (Bj (Aa aL) Q k aN Bh false (Aa aO)).mono ?_;rintro r bb ⟨rfl,aj⟩;dsimp only;go_wp2_with fail
   exact ⟨Aa bL _ (Q.trans (aj.mono Q.size)),Aa bK⟩
  ·have e:k=b:=by omega
   subst e;obtain ⟨aN,Z⟩:=Aa aE;have aO:=Ab Z;have l:=(Aa ba).below Q;clear Z hk aD aE ba;go_wp2_with fail
   refine (Bj (Aa aL) Q k aN Bh true (Aa aO)).mono ?_;rintro r bb ⟨rfl,aj⟩;have aa:=l.below aj;clear l aj aL Q;dsimp only;go_wp2_with fail
   have bc:=(Aa L).of aa.C aa.K.low J;refine (Aa aF N P nd ax ay az bb bc aa.C (by omega) (by omega)).mono ?_;rintro r bd ⟨rfl,ak,bN,bO,bP,bf,bg,_⟩;rw[Am];have S6:=aa.call bf bg;obtain ⟨R,aP⟩:∃ x:Int,x=((N.length+q.ex.cnt - 1 :Nat):Int):=⟨_,rfl⟩
   rw[← aP];have aQ:=Ab aP;have bh:=S6.set Y 2 (.int .i64 R) rfl;clear bc bf bg aP aa;obtain ⟨s,v,y,z,i,f,j,A,E,F,H⟩:=S6.row4;have bQ:=i 2;clear s v z i f j A E F H;have al:=bh.below (CK _);obtain ⟨aR,aS,ao,ap,_,_,ab,_,_,_,_⟩:=al.row4;have aT:=Ab (It q.ex N al.C.nodes (by omega));rw[← Aa aQ] at aT;dsimp only;have bR:(bd.setCell ⟨w.heap.size+1,2,none⟩ (.int .i64 R)).drew.cell? ⟨g,1,none⟩=some ak∧(bd.setCell ⟨w.heap.size+1,2,none⟩ (.int .i64 R)).drew.cell? ⟨w.heap.size+1,2,none⟩=some (.int .i64 R):=⟨ab,ao⟩
   clear aR aS ao ap ab;go_wp2_with fail
   go_region_held3 (fun w'=>w'.cell? ⟨g,1,none⟩=some ak∧w'.cell? ⟨w.heap.size+1,2,none⟩=some (.int .i64 R)) (first | assumption | go_keep) ((go_at_call 31;refine (Aa aT).mono ?_;rintro r aq ⟨rfl,bi⟩;have S:=al.below bi;have bS:aq.cell? ⟨g,1,none⟩=some ak∧aq.cell? ⟨w.heap.size+1,2,none⟩=some (.int .i64 R):=⟨S.row4.2.2.2.2.2.2.1,S.row4.2.2.1⟩))
   clear bi bh S6 al bQ y aT bR bS;generalize bj:DF q.ex=ar at bD ⊢;have bk:=Ab bj;clear bj;have bl:=(Aa L).of S.C S.K.low J;have bm:=Below.refl aq.heap.size aq;go_wp2_with fail
   refine (DJ bl bm (k+1) _ (by omega) bE Br true (Aa bF)).mono ?_;rintro r bT ⟨rfl,bn⟩;have U:=S.below bn;clear bl bm S bn;obtain ⟨au,m⟩:∃ M,M=N ++BI q.ex N.length:=⟨_,rfl⟩
   obtain ⟨bo,n⟩:∃ M,M=P ++CX q.ex:=⟨_,rfl⟩
   rw[← m,← n] at U;have o:au.length=N.length+q.ex.cnt:=by rw[m,List.length_append,Am]
   have bU:bo.length=P.length+q.ex.cnt:=by rw[n,List.length_append,AU]
   have bp:=Ab (And.intro m (And.intro n o));clear m n;dsimp only;go_wp2_with fail
   have bq:=(Aa L).of U.C U.K.low J;refine (Aa aH au bo ak bN (ay ++bO) (az ++bP) bT bq U.C (by omega) (by omega)).mono ?_;rintro r br ⟨rfl,aU,ca,cb,cc,bs,bt,_⟩;rw[Am];have aV:=U.call bs bt;obtain ⟨V,aW⟩:∃ x:Int,x=((au.length+p.ex.cnt - 1 :Nat):Int):=⟨_,rfl⟩
   rw[← aW];have aX:=Ab aW;have bu:=aV.set Y 3 (.int .i64 V) rfl;clear bq bs bt aW U;obtain ⟨s,v,y,z,i,f,j,A,E,F,H⟩:=aV.row4;have bV:=i 3;clear s v y i f j A E F H;have av:=bu.below (CK _);obtain ⟨aR,aS,ao,ap,_,_,ab,_,_,_,_⟩:=av.row4;have aY:=Ab (It p.ex au av.C.nodes (by omega));rw[← Aa aX] at aY;dsimp only;have bW:(br.setCell ⟨w.heap.size+1,3,none⟩ (.int .i64 V)).drew.cell? ⟨g,1,none⟩=some aU∧(br.setCell ⟨w.heap.size+1,3,none⟩ (.int .i64 V)).drew.cell? ⟨w.heap.size+1,3,none⟩=some (.int .i64 V):=⟨ab,ap⟩
   clear aR aS ao ap ab;go_wp2_with fail
   go_region_held3 (fun w'=>w'.cell? ⟨g,1,none⟩=some aU∧w'.cell? ⟨w.heap.size+1,3,none⟩=some (.int .i64 V)) (first | assumption | go_keep) ((go_at_call 31;refine (Aa aY).mono ?_;rintro r bv ⟨rfl,bw⟩;have W:=av.below bw;have bX:bv.cell? ⟨g,1,none⟩=some aU∧bv.cell? ⟨w.heap.size+1,3,none⟩=some (.int .i64 V):=⟨W.row4.2.2.2.2.2.2.1,W.row4.2.2.2.1⟩))
   clear bw bu aV av bV z aY bW bX;clear o bU;generalize bx:DF p.ex=aw at bG ⊢;have bz:=Ab bx;clear bx;by_cases bA:ar < aw
   ·have aZ:=Ab (show mx ar aw=aw from if_pos bA);obtain ⟨s,v,y,z,i,f,j,A,E,F,H⟩:=W.row4;have bY:=f 0;have bZ:=f 1;have b0:=f 2;have b1:=f 3;clear i f j;obtain ⟨ac,ad,ae⟩:=W.done Y;have af:=Ab (And.intro ad ae);have a0:=Ab ac;clear ad ae ac;go_wp2_with fail
    refine bodyPost_ret (Jd Tryz.results14 rfl rfl (Aa a0)) rfl ?_;obtain ⟨m,n,o⟩:=Aa bp;exact ⟨by rw[Aa aQ,Aa aX,o];simp only[I5,A9,LG,Aa bk,Aa bz];rw[Aa aZ];rfl,_,_,_,_,by simp only[JE,JW,A9];rw[← m,← n,← o];exact (Aa af).1,(Aa af).2⟩
   ·have aZ:=Ab (show mx ar aw=ar from if_neg bA);obtain ⟨s,v,y,z,i,f,j,A,E,F,H⟩:=W.row4;have bY:=f 0;have bZ:=f 1;have b0:=f 2;have b1:=f 3;clear i f j;obtain ⟨ac,ad,ae⟩:=W.done Y;have af:=Ab (And.intro ad ae);have a0:=Ab ac;clear ad ae ac;go_wp2_with fail
    refine bodyPost_ret (Jd Tryz.results14 rfl rfl (Aa a0)) rfl ?_;obtain ⟨m,n,o⟩:=Aa bp;exact ⟨by rw[Aa aQ,Aa aX,o];simp only[I5,A9,LG,Aa bk,Aa bz];rw[Aa aZ];rfl,_,_,_,_,by simp only[JE,JW,A9];rw[← m,← n,← o];exact (Aa af).1,(Aa af).2⟩
theorem TE {w:World}{B k l c:Nat}{T:List Af}{N:List Nd}{P:List Int}{nd n:Value}{v x:List Value}(b:Ja w k l c T)(d:l < B)(hl:T.length≤4000)(f:∀ t∈T,t.text.size≤maxLen)(hC:EZ w B k (.slice (some ⟨l,0,none⟩) T.length c) N P nd n v x){lo hi:Nat}(i:hi≤T.length)(o:N.length+8001≤65535)(p:P.length+8001≤65535){s:Ps}(q:SC (Fe T lo hi) s):
  Calls Tryz.prog 14 #[.pointer (some ⟨k,0,none⟩),.int .i64 (lo:Int),.int .i64 (hi:Int)] w (Yl B k (.slice (some ⟨l,0,none⟩) T.length c) s.sx N P nd n w):=by
 generalize j:Fe T lo hi=y at q;cases q with
 | let_ h z he g=>exact TD b d hl f hC i (by omega) (by omega) j h g
 | when h r u m=>
  cases m with
  | deny a=>exact J0 b d hl f hC i o p j a h r u
  | grant a g=>exact Jf b d hl f hC i o p j a g h r u
 | else_ h m=>
  cases m with
  | deny a=>exact JZ b d hl f hC i j h a
  | grant a g=>exact Je b d hl f hC i (by omega) (by omega) j h a g
end Go.Proofs.YtdldimphcpojoaaGreatDoor
