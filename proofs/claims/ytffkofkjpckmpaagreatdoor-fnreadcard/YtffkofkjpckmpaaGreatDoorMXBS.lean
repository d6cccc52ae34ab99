/-
  HU, HV, HW. Own work.
-/
import Derived.Test.YtffkofkjpckmpaaGreatDoorMXBR
import Derived.Test.YtffkofkjpckmpaaGreatDoorMXBD
import Derived.Test.YtffkofkjpckmpaaGreatDoorMXBU
import Derived.Test.YtffkofkjpckmpaaGreatDoorMXBI
namespace Go.Proofs.YtffkofkjpckmpaaGreatDoor
set_option maxRecDepth 100000
set_option maxHeartbeats 6400000
open Go.RowKit
set_option linter.unusedVariables false
def StM (B nb:Nat) (tv:Value) (s:Sx) (N:List Nd) (P:List Int) (nd pl:Value) (w:World) (r:Ending) (w':World):Prop:=
 r= .returned (.tuple #[.agg #[.int .i64 s.kind,.string s.name,.int .i64 (EW s.cond N.length),.int .i64 (EW s.grant (N.length+AN s.cond))],.int .i64 (mx (Gt s.cond) (Gt s.grant))])∧∃ nd' pl' nv' kv',FK w' B nb tv (N ++Fb s.cond N.length ++Fb s.grant (N.length+AN s.cond)) (P ++Kq s.cond ++Kq s.grant) nd' pl' nv' kv'∧Nk B nb nd pl w nd' pl' w'
def FrI (f n:Nat) (w4:World) (vf:Value) (wr:World):Prop:=
 ∃ k:Nat,f≤k∧k≤n∧vf= .int .i64 (k:Int)∧Below w4.heap.size w4 wr
theorem LT {w:World}{B d f c:Nat}{T:List Ae}{N:List Nd}{P:List Int}{nd x:Value}{Y Z:List Value}(y:Ls w d f c T)(ai:f < B)(hl:T.length≤4000)(aa:∀ t∈T,t.text.size≤maxLen)(j:FK w B d (.slice (some ⟨f,0,none⟩) T.length c) N P nd x Y Z){lo hi:Nat}(z:hi≤T.length){t u:Ae}(hs:Gf T lo hi= [t,u])(ht:see AK t=true)(hu:see FE u=true):
  Calls Tryz.prog 16 #[.pointer (some ⟨d,0,none⟩),.int .i64 (lo:Int),.int .i64 (hi:Int)] w (StM B d (.slice (some ⟨f,0,none⟩) T.length c) ⟨(t.at_:Int),3,AB [],none,none⟩ N P nd x w):=by
 obtain ⟨A,k,C,aj⟩:=AX z hs;obtain ⟨ab,g5,g6,g7⟩:=AX z C;have l:=Ab y;have ac:=Ab (show see Dq T[lo]=false from by rw[k];exact Ag ht (by decide));have ad:=Ab (show see Bf T[lo]=false from by rw[k];exact Ag ht (by decide));have ae:=Ab (show see BA T[lo+1]=false from by rw[g5];exact Ag hu (by decide));clear y k C g5 g6 hs ht hu aa;have E:B≤w.heap.size:=by have:=j.row.lt;have:=j.low;omega
 have F:=Qo.start j;have g:Below w.heap.size w ((w.alloc (.cells #[.int .i64 0,.string ⟨#[]⟩,.int .i64 0,.int .i64 0] 51)).alloc (.cells #[.int .i64 0,.string ⟨#[]⟩,.int .i64 (-1),.int .i64 (-1)] 51)):=((Below.refl w.heap.size w).alloc NLN _).alloc (by simp) _;go_enter Tryz.func16,Tryz.ntmps16
 go_wp2_with fail
 refine (FW (Aa l) g (lo) _ (by omega) A Dq false (Aa ac)).mono ?_;rintro r ak ⟨rfl,m⟩;have h:=g.trans (m.mono g.size);dsimp only;go_wp2_with fail
 refine (FW (Aa l) h (lo) _ (by omega) A Bf false (Aa ad)).mono ?_;rintro r af ⟨rfl,n⟩;have H:=h.trans (n.mono h.size);dsimp only;have o:=(F.below m).below n;obtain ⟨I,J,K,L,i,a,q,M,O,Q,R⟩:=o.row4;have ag:=i 0;clear J K L i a q M O Q R;clear F m n g h;go_wp2_with fail
 have s:=o.set E 0 (.int .i64 3) rfl;have b:=H.setCell (p:=⟨w.heap.size+1,0,none⟩) (z5 _) (.int .i64 3);generalize af.setCell ⟨w.heap.size+1,0,none⟩ (.int .i64 3)=al at s b ⊢;clear o I ag H;refine (FW (Aa l) b (lo+1) _ (by omega) ab BA false (Aa ae)).mono ?_;rintro r ao ⟨rfl,v⟩;have ap:=b.trans (v.mono b.size);dsimp only;have S:=s.below v;clear s v b;obtain ⟨I,J,K,L,i,a,q,M,O,Q,R⟩:=S.row4;have aq:=a 0;have ar:=a 1;have au:=a 2;have av:=a 3;clear i a q;obtain ⟨U,V,W⟩:=S.done E;have X:=Ab (And.intro V W);have ah:=Ab U;clear V W U;go_wp2_with fail
 refine bodyPost_ret (KJ Tryz.results16 rfl rfl (Aa ah)) rfl ?_;exact ⟨rfl,_,_,_,_,by simp only[Fb,Kq,zp];exact (Aa X).1,(Aa X).2⟩
theorem KK {w:World}{B b h c:Nat}{T:List Ae}{N:List Nd}{P:List Int}{nd J:Value}{ab ac:List Value}(ad:Ls w b h c T)(ae:h < B)(hl:T.length≤4000)(af:∀ t∈T,t.text.size≤maxLen)(L:FK w B b (.slice (some ⟨h,0,none⟩) T.length c) N P nd J ab ac){lo hi:Nat}(M:hi≤T.length)(aX:N.length+4001≤65535)(hp:P.length+4001≤65535){t u:Ae}{d:List Ae}{q:Pt}(hs:Gf T lo hi=t ::u ::d)(ht:see AK t=true)(hu:see BA u=true)(ag:G 0 d q):
  Calls Tryz.prog 16 #[.pointer (some ⟨b,0,none⟩),.int .i64 (lo:Int),.int .i64 (hi:Int)] w (StM B b (.slice (some ⟨h,0,none⟩) T.length c) ⟨(t.at_:Int),3,AB [],none,some q.ex⟩ N P nd J w):=by
 obtain ⟨ah,O,ai,aY⟩:=AX M hs;obtain ⟨aG,g5,g6,g7⟩:=AX M ai;have l:=Ab ad;have aH:=Ab (show see Dq T[lo]=false from by rw[O];exact Ag ht (by decide));have aI:=Ab (show see Bf T[lo]=false from by rw[O];exact Ag ht (by decide));have aJ:=Ab (show see BA T[lo+1]=true from by rw[g5];exact hu);have hq:q.ex.cnt≤4000:=by have h1:=ag.cnt;have h2:=EP (lo:=lo+1+1) M;rw[g6] at h2;omega
 have aK:=AZ q.ex;have Q:=Ab (Hj ae hl af _ (lo+1+1) hi q NLN (by omega) (by omega) (by rw[g6];exact ag):Pc B b h c T (lo+1+1) hi q);unfold Pc at Q;rw[show (((lo+1+1 :Nat)):Int)=(lo:Int)+1+1 from by omega] at Q;clear ad O ai g5 g6 hs ht hu af;have R:B≤w.heap.size:=by have:=L.row.lt;have:=L.low;omega
 have aj:=Qo.start L;have m:Below w.heap.size w ((w.alloc (.cells #[.int .i64 0,.string ⟨#[]⟩,.int .i64 0,.int .i64 0] 51)).alloc (.cells #[.int .i64 0,.string ⟨#[]⟩,.int .i64 (-1),.int .i64 (-1)] 51)):=((Below.refl w.heap.size w).alloc NLN _).alloc (by simp) _;go_enter Tryz.func16,Tryz.ntmps16
 go_wp2_with fail
 refine (FW (Aa l) m (lo) _ (by omega) ah Dq false (Aa aH)).mono ?_;rintro r aZ ⟨rfl,S⟩;have n:=m.trans (S.mono m.size);dsimp only;go_wp2_with fail
 refine (FW (Aa l) n (lo) _ (by omega) ah Bf false (Aa aI)).mono ?_;rintro r aL ⟨rfl,U⟩;have ak:=n.trans (U.mono n.size);dsimp only;have V:=(aj.below S).below U;obtain ⟨o,s,v,y,f,a,i,z,A,E,F⟩:=V.row4;have aM:=f 0;clear s v y f a i z A E F;clear aj S U m n;go_wp2_with fail
 have W:=V.set R 0 (.int .i64 3) rfl;have j:=ak.setCell (p:=⟨w.heap.size+1,0,none⟩) (z5 _) (.int .i64 3);generalize aL.setCell ⟨w.heap.size+1,0,none⟩ (.int .i64 3)=a0 at W j ⊢;clear V o aM ak;refine (FW (Aa l) j (lo+1) _ (by omega) aG BA true (Aa aJ)).mono ?_;rintro r aN ⟨rfl,X⟩;have aO:=j.trans (X.mono j.size);dsimp only;have k:=W.below X;clear W X j;go_wp2_with fail
 have al:=(Aa l).of k.C k.K.low ae;refine (Aa Q N P nd J ab ac aN al k.C (by omega) (by omega)).mono ?_;rintro r ao ⟨rfl,Y,a1,a2,a3,ap,aq,_⟩;rw[Al];have S6:=k.call ap aq;obtain ⟨g,Z⟩:∃ x:Int,x=((N.length+q.ex.cnt - 1 :Nat):Int):=⟨_,rfl⟩
 rw[← Z];have ar:=Ab Z;have au:=S6.set R 3 (.int .i64 g) rfl;clear al ap aq Z k aO;obtain ⟨o,s,v,y,f,a,i,z,A,E,F⟩:=S6.row4;have aP:=f 3;clear o s v f a i z A E F;have H:=au.below (Di _);obtain ⟨aQ,aR,aS,av,_,_,aw,_,_,_,_⟩:=H.row4;have aa:=Ab (L4 q.ex N H.C.nodes (by omega));rw[← Aa ar] at aa;dsimp only;have aT:(ao.setCell ⟨w.heap.size+1,3,none⟩ (.int .i64 g)).drew.cell? ⟨b,1,none⟩=some Y∧(ao.setCell ⟨w.heap.size+1,3,none⟩ (.int .i64 g)).drew.cell? ⟨w.heap.size+1,3,none⟩=some (.int .i64 g):=⟨aw,av⟩
 clear aQ aR aS av aw;go_wp2_with fail
 go_region_held3 (fun w'=>w'.cell? ⟨b,1,none⟩=some Y∧w'.cell? ⟨w.heap.size+1,3,none⟩=some (.int .i64 g)) (first | assumption | go_keep) ((go_at_call 39;refine (Aa aa).mono ?_;rintro r ax ⟨rfl,ay⟩;have I:=H.below ay;have aU:ax.cell? ⟨b,1,none⟩=some Y∧ax.cell? ⟨w.heap.size+1,3,none⟩=some (.int .i64 g):=⟨I.row4.2.2.2.2.2.2.1,I.row4.2.2.2.1⟩))
 clear ay au S6 H aP y aa aT aU;have az:(0 :Int) < Cf q.ex:=by omega
 generalize aA:Cf q.ex=aB at aK az ⊢;have aV:=Ab aA;clear aA;obtain ⟨o,s,v,y,f,a,i,z,A,E,F⟩:=I.row4;have a4:=a 0;have a5:=a 1;have a6:=a 2;have a7:=a 3;clear f a i;obtain ⟨aC,aD,aE⟩:=I.done R;have aF:=Ab (And.intro aD aE);have aW:=Ab aC;clear aD aE aC;go_wp2_with fail
 refine bodyPost_ret (KJ Tryz.results16 rfl rfl (Aa aW)) rfl ?_;exact ⟨by rw[Aa ar];simp only[EW,AN,Gt,Aa aV,zr];rw[show mx 0 aB=aB from if_pos az];rfl,_,_,_,_,by simp only[Fb,Kq,AN,zp,zr];exact (Aa aF).1,(Aa aF).2⟩
theorem WR {w:World}{B g i c:Nat}{T:List Ae}{N:List Nd}{P:List Int}{nd J:Value}{aa ab:List Value}(ac:Ls w g i c T)(L:i < B)(hl:T.length≤4000)(ad:∀ t∈T,t.text.size≤maxLen)(M:FK w B g (.slice (some ⟨i,0,none⟩) T.length c) N P nd J aa ab){lo hi:Nat}(z:hi≤T.length)(aY:N.length+4001≤65535)(hp:P.length+4001≤65535){t n e:Ae}{d:List Ae}{q:Pt}(hs:Gf T lo hi=t ::n ::e ::d)(ht:see Dq t=true)(ae:G 0 d q):
  Calls Tryz.prog 16 #[.pointer (some ⟨g,0,none⟩),.int .i64 (lo:Int),.int .i64 (hi:Int)] w (StM B g (.slice (some ⟨i,0,none⟩) T.length c) ⟨(t.at_:Int),1,n.text,some q.ex,none⟩ N P nd J w):=by
 obtain ⟨ay,af,ag,aZ⟩:=AX z hs;obtain ⟨az,g5,g6,g7⟩:=AX z ag;obtain ⟨a0,k5,O,a1⟩:=AX z g6;have Q:=Ab ac;have aA:=Ab (show see Dq T[lo]=true from by rw[af];exact ht);have aB:=Ab g5;have hq:q.ex.cnt≤4000:=by have h1:=ae.cnt;have h2:=EP (lo:=lo+1+1+1) z;rw[O] at h2;omega
 have aC:=AZ q.ex;have R:=Ab (Hj L hl ad _ (lo+1+1+1) hi q NLN (by omega) (by omega) (by rw[O];exact ae):Pc B g i c T (lo+1+1+1) hi q);unfold Pc at R;rw[show (((lo+1+1+1 :Nat)):Int)=(lo:Int)+3 from by omega] at R;clear ac af ag g5 g6 k5 O hs ht ad;have A:B≤w.heap.size:=by have:=M.row.lt;have:=M.low;omega
 have ah:=Qo.start M;have E:Below w.heap.size w ((w.alloc (.cells #[.int .i64 0,.string ⟨#[]⟩,.int .i64 0,.int .i64 0] 51)).alloc (.cells #[.int .i64 0,.string ⟨#[]⟩,.int .i64 (-1),.int .i64 (-1)] 51)):=((Below.refl w.heap.size w).alloc NLN _).alloc (by simp) _;go_enter Tryz.func16,Tryz.ntmps16
 go_wp2_with fail
 refine (FW (Aa Q) E (lo) _ (by omega) ay Dq true (Aa aA)).mono ?_;rintro r aD ⟨rfl,S⟩;have aE:=E.trans (S.mono E.size);dsimp only;have U:=ah.below S;have j:=U.set A 0 (.int .i64 1) rfl;have f:=j.set A 1 (.string n.text) rfl;have V:=(Aa Q).of j.C j.K.low L;obtain ⟨_,_,q2,_⟩:=V.at4 (lo+1) az;rw[Aa aB] at q2;have aF:=V.at0;have a2:(lo:Int)+1 < (T.length:Int):=by omega
 obtain ⟨k,l,F,m,b,a,o,p,s,u,y⟩:=U.row4;have aG:=b 0;clear l F m b a o p s u y;obtain ⟨aH,aI,aJ,aK,ai,_,_,_,_,_,_⟩:=j.row4;have aL:=ai 1;clear ah S ai E;go_wp2_with fail
 clear k aG aH aI aJ aK aL q2 aF V j U;generalize (aD.setCell ⟨w.heap.size+1,0,none⟩ (.int .i64 1)).setCell ⟨w.heap.size+1,1,none⟩ (.string n.text)=aM at f ⊢;have aj:=(Aa Q).of f.C f.K.low L;refine (Aa R N P nd J aa ab aM aj f.C (by omega) (by omega)).mono ?_;rintro r ak ⟨rfl,aN,a3,a4,a5,al,ao,_⟩;rw[Al];have S6:=f.call al ao;obtain ⟨H,W⟩:∃ x:Int,x=((N.length+q.ex.cnt - 1 :Nat):Int):=⟨_,rfl⟩
 rw[← W];have ap:=Ab W;have aO:=S6.set A 2 (.int .i64 H) rfl;clear aj al ao W f aE;obtain ⟨k,l,F,m,b,a,o,p,s,u,y⟩:=S6.row4;have a6:=b 2;clear k l m b a o p s u y;have X:=aO.below (Di _);obtain ⟨a7,a8,a9,ba,_,_,bb,_,_,_,_⟩:=X.row4;have I:=Ab (L4 q.ex N X.C.nodes (by omega));rw[← Aa ap] at I;dsimp only;have aP:(Tryz.f39.name== "runtime.NumGoroutine")=false:=by kernel_rfl
 have aQ: Tryz.f39.body.isNone=false:=by kernel_rfl
 generalize aq:Cf q.ex=Y at aC I;have aR:=Ab aq;clear aq;have aS:=Ab ((Aa I).mono (R':=fun e w'=>∃ v,e= .returned v∧(v= .int .i64 Y∧Below (ak.setCell ⟨w.heap.size+1,2,none⟩ (.int .i64 H)).drew.heap.size (ak.setCell ⟨w.heap.size+1,2,none⟩ (.int .i64 H)).drew w')) (fun r w' h=>⟨_,h.1,rfl,h.2⟩));clear I;go_wp2_with fail
 go_region_law (refine Lv rfl 39 _ Tryz.func39 aP aQ _ _ _ rfl aN (.int .i64 H) rfl rfl _ (Aa aS) ?_;rintro bc bd ⟨rfl,ar⟩;have Z:=X.below ar;obtain ⟨k,l,F,m,b,a,o,p,s,u,y⟩:=Z.row4;have aT:=a 0;have aU:=a 1;have aV:=a 2;have aW:=a 3;clear b a o)
 all_goals
  obtain ⟨au,av,aw⟩:=Z.done A;have ax:=Ab (And.intro av aw);have aX:=Ab au;clear av aw au Z ar k l F m p s u y aT aU aV aW;go_wp2_with fail
  refine bodyPost_ret (KJ Tryz.results16 rfl rfl (Aa aX)) rfl ?_;exact ⟨by rw[Aa ap];simp only[EW,Gt,Aa aR];rw[show mx Y 0=Y from if_neg (by omega)];rfl,_,_,_,_,by simp only[Fb,Kq,zp];exact (Aa ax).1,(Aa ax).2⟩
theorem MR {w:World}{B i R c:Nat}{T:List Ae}{N:List Nd}{P:List Int}{nd aC:Value}{aD aE:List Value}(a6:Ls w i R c T)(S:R < B)(hl:T.length≤4000)(aF:∀ t∈T,t.text.size≤maxLen)(aG:FK w B i (.slice (some ⟨R,0,none⟩) T.length c) N P nd aC aD aE){lo hi:Nat}(U:hi≤T.length)(b7:N.length+8001≤65535)(hp:P.length+8001≤65535){t a:Ae}{cs:List Ae}{q:Pt}{aH:List Ae}{aI:Option Ex}(hs:Gf T lo hi=t ::(cs ++a ::aH))(bK:(∃ u,aH= [u]∧see FE u=true∧aI=none)∨∃ u d p,aH=u ::d∧see BA u=true∧G 0 d p∧aI=some p.ex)(ht:see Bf t=true)(ak:G 0 cs q)(a7:see Br a=true):
  Calls Tryz.prog 16 #[.pointer (some ⟨i,0,none⟩),.int .i64 (lo:Int),.int .i64 (hi:Int)] w (StM B i (.slice (some ⟨R,0,none⟩) T.length c) ⟨(t.at_:Int),2,AB [],some q.ex,aI⟩ N P nd aC w):=by
 obtain ⟨a8,aJ,a9,b8⟩:=AX U hs;obtain ⟨g1,g2,g3⟩:=It U a9 (by omega);obtain ⟨ba,g5,g6,g7⟩:=AX U g2;have V:=Ab a6;have bL:=Ab (show see Dq T[lo]=false from by rw[aJ];exact Ag ht (by decide));have bM:=Ab (show see Bf T[lo]=true from by rw[aJ];exact ht);have aK:=Ab (show ∀ k,(h1:lo+1≤k)→(h2:k < lo+1+cs.length)→∃ h:k < T.length,see Br T[k]=false from fun k h1 h2=>⟨by omega,by
  have:=VL (T:=T) (lo:=lo+1) (hi:=lo+1+cs.length) (k:=k) (by omega) h1 h2;rw[g1] at this;exact (ak.free _ this).2⟩)
 have aL:=Ab (show ∃ h:lo+1+cs.length < T.length,see Br T[lo+1+cs.length]=true from ⟨ba,by rw[g5];exact a7⟩);have b9:q.ex.cnt≤4000:=by have h1:=ak.cnt;have h2:=EP (lo:=lo+1) (hi:=lo+1+cs.length) (T:=T) (by omega);rw[g1] at h2;omega
 have bN:=AZ q.ex;obtain ⟨f,bb⟩:∃ f,f=lo+1+cs.length:=⟨_,rfl⟩
 clear g5;rw[← bb] at g1 g2 g3 g6 g7 ba aK aL;have ca:lo+1≤f:=by omega
 clear bb;have aM:=Ab (Hj S hl aF _ (lo+1) f q NLN (by omega) (by omega) (by rw[g1];exact ak):Pc B i R c T (lo+1) f q);unfold Pc at aM;rw[show (((lo+1 :Nat)):Int)=(lo:Int)+1 from by omega] at aM;rcases bK with ⟨u,rfl,hu,rfl⟩ | ⟨u,d,p,rfl,hu,aN,rfl⟩
 case' inl=>
  obtain ⟨bc,ae,af,bO⟩:=AX U g6;have bd:=Ab (show see BA T[f+1]=false from by rw[ae];exact Ag hu (by decide));clear ae af hu
 case' inr=>
  obtain ⟨bc,ae,af,bO⟩:=AX U g6;have bd:=Ab (show see BA T[f+1]=true from by rw[ae];exact hu);have cb:p.ex.cnt≤4000:=by have h1:=aN.cnt;have h2:=EP (lo:=f+1+1) U;rw[af] at h2;omega
  have bP:=AZ p.ex;have al:=Ab (Hj S hl aF _ (f+1+1) hi p NLN (by omega) (by omega) (by rw[af];exact aN):Pc B i R c T (f+1+1) hi p);unfold Pc at al;rw[show (((f+1+1 :Nat)):Int)=(f:Int)+1+1 from by omega] at al;clear ae af hu aN
 all_goals
  clear a6 aJ a9 g1 g2 g6 hs ht aF ak a7;have W:B≤w.heap.size:=by have:=aG.row.lt;have:=aG.low;omega
  have bf:=Qo.start aG;have ao:Below w.heap.size w ((w.alloc (.cells #[.int .i64 0,.string ⟨#[]⟩,.int .i64 0,.int .i64 0] 51)).alloc (.cells #[.int .i64 0,.string ⟨#[]⟩,.int .i64 (-1),.int .i64 (-1)] 51)):=((Below.refl w.heap.size w).alloc NLN _).alloc (by simp) _;go_enter Tryz.func16,Tryz.ntmps16
  go_wp2_with fail
  refine (FW (Aa V) ao (lo) _ (by omega) a8 Dq false (Aa bL)).mono ?_;rintro r cc ⟨rfl,aO⟩;have ap:=ao.trans (aO.mono ao.size);dsimp only;go_wp2_with fail
  refine (FW (Aa V) ap (lo) _ (by omega) a8 Bf true (Aa bM)).mono ?_;rintro r bQ ⟨rfl,aP⟩;have bR:=ap.trans (aP.mono ap.size);dsimp only;have aQ:=(bf.below aO).below aP;obtain ⟨l,m,n,o,g,b,j,s,v,y,z⟩:=aQ.row4;have bS:=g 0;clear m n o g b j s v y z;clear bf aO aP ao ap;go_wp2_with fail
  have A:=aQ.set W 0 (.int .i64 2) rfl;generalize bQ.setCell ⟨w.heap.size+1,0,none⟩ (.int .i64 2)=X at A ⊢;clear aQ l bS bR;have bg:=Ab (show FrI (lo+1) f X (.int .i64 ((lo:Int)+1)) X from ⟨lo+1,NLN,by omega,by rw[zU];rfl,BRN⟩);have bh:=Ab A;have aR:=Ab ((Aa V).of A.C A.K.low S);clear A;go_loopw [10] (fun aS wr=>FrI (lo+1) f X aS wr) (fun aS _=>f - (intOf aS).toNat)
  case atStart=>exact Aa bg
  case round=>
   clear bg;obtain ⟨k,h1,h2,rfl,Y⟩:=hrel;by_cases hk:k < f
   ·obtain ⟨aT,ag⟩:=Aa aK k h1 hk;have aU:=Ab ag;have bT:=Ab (FJ f k hk);have bU:=Ab (fun (w':World) (bV:Below X.heap.size X w')=>show FrI (lo+1) f X (.int .i64 ((k:Int)+1)) w' from ⟨k+1,by omega,by omega,by rw[zU];rfl,bV⟩);clear ag hk;go_wp2_with fail
    refine (G8 (Aa aR) Y k aT Br false (Aa aU)).mono ?_;rintro r bi ⟨rfl,aq⟩;dsimp only;go_wp2_with fail
    exact ⟨Aa bU _ (Y.trans (aq.mono Y.size)),Aa bT⟩
   ·have e:k=f:=by omega
    subst e;obtain ⟨aT,ag⟩:=Aa aL;have aU:=Ab ag;have A:=(Aa bh).below Y;clear ag hk aK aL bh;go_wp2_with fail
    refine (G8 (Aa aR) Y k aT Br true (Aa aU)).mono ?_;rintro r bi ⟨rfl,aq⟩;have ah:=A.below aq;clear A aq aR Y;dsimp only;go_wp2_with fail
    have bj:=(Aa V).of ah.C ah.K.low S;refine (Aa aM N P nd aC aD aE bi bj ah.C (by omega) (by omega)).mono ?_;rintro r bk ⟨rfl,ar,bW,bX,bY,bl,bm,_⟩;rw[Al];have S6:=ah.call bl bm;obtain ⟨Z,aV⟩:∃ x:Int,x=((N.length+q.ex.cnt - 1 :Nat):Int):=⟨_,rfl⟩
    rw[← aV];have au:=Ab aV;have bn:=S6.set W 2 (.int .i64 Z) rfl;clear bj bl bm aV ah;obtain ⟨l,m,n,o,g,b,j,s,v,y,z⟩:=S6.row4;have bZ:=g 2;clear l m o g b j s v y z;have av:=bn.below (Di _);obtain ⟨aW,aX,aw,ax,_,_,ai,_,_,_,_⟩:=av.row4;have aY:=Ab (L4 q.ex N av.C.nodes (by omega));rw[← Aa au] at aY;dsimp only;have b0:(bk.setCell ⟨w.heap.size+1,2,none⟩ (.int .i64 Z)).drew.cell? ⟨i,1,none⟩=some ar∧(bk.setCell ⟨w.heap.size+1,2,none⟩ (.int .i64 Z)).drew.cell? ⟨w.heap.size+1,2,none⟩=some (.int .i64 Z):=⟨ai,aw⟩
    clear aW aX aw ax ai;go_wp2_with fail
    go_region_held3 (fun w'=>w'.cell? ⟨i,1,none⟩=some ar∧w'.cell? ⟨w.heap.size+1,2,none⟩=some (.int .i64 Z)) (first | assumption | go_keep) ((go_at_call 39;refine (Aa aY).mono ?_;rintro r ay ⟨rfl,bo⟩;have aa:=av.below bo;have b1:ay.cell? ⟨i,1,none⟩=some ar∧ay.cell? ⟨w.heap.size+1,2,none⟩=some (.int .i64 Z):=⟨aa.row4.2.2.2.2.2.2.1,aa.row4.2.2.1⟩))
    clear bo bn S6 av bZ n aY b0 b1;generalize bp:Cf q.ex=ab at bN ⊢;have aZ:=Ab bp;clear bp;have bq:=(Aa V).of aa.C aa.K.low S;have br:=Below.refl ay.heap.size ay;go_wp2_with fail
    refine (FW bq br (k+1) _ (by omega) bc BA _ (Aa bd)).mono ?_;rintro r b2 ⟨rfl,bs⟩;have E:=aa.below bs;clear bq br aa bs
    first
    |have cd:=al
     obtain ⟨az,F⟩:∃ M,M=N ++Bw q.ex N.length:=⟨_,rfl⟩
     obtain ⟨bt,H⟩:∃ M,M=P ++E7 q.ex:=⟨_,rfl⟩
     rw[← F,← H] at E;have I:az.length=N.length+q.ex.cnt:=by rw[F,zB,Al]
     have b3:bt.length=P.length+q.ex.cnt:=by rw[H,zB,Ba]
     have bu:=Ab (And.intro F (And.intro H I));clear F H;dsimp only;go_wp2_with fail
     have bv:=(Aa V).of E.C E.K.low S;refine (Aa al az bt ar bW (aD ++bX) (aE ++bY) b2 bv E.C (by omega) (by omega)).mono ?_;rintro r bw ⟨rfl,a0,ce,cf,cg,bx,bz,_⟩;rw[Al];have a1:=E.call bx bz;obtain ⟨ac,a2⟩:∃ x:Int,x=((az.length+p.ex.cnt - 1 :Nat):Int):=⟨_,rfl⟩
     rw[← a2];have a3:=Ab a2;have bA:=a1.set W 3 (.int .i64 ac) rfl;clear bv bx bz a2 E;obtain ⟨l,m,n,o,g,b,j,s,v,y,z⟩:=a1.row4;have b4:=g 3;clear l m n g b j s v y z;have aA:=bA.below (Di _);obtain ⟨aW,aX,aw,ax,_,_,ai,_,_,_,_⟩:=aA.row4;have a4:=Ab (L4 p.ex az aA.C.nodes (by omega));rw[← Aa a3] at a4;dsimp only;have b5:(bw.setCell ⟨w.heap.size+1,3,none⟩ (.int .i64 ac)).drew.cell? ⟨i,1,none⟩=some a0∧(bw.setCell ⟨w.heap.size+1,3,none⟩ (.int .i64 ac)).drew.cell? ⟨w.heap.size+1,3,none⟩=some (.int .i64 ac):=⟨ai,ax⟩
     clear aW aX aw ax ai;go_wp2_with fail
     go_region_held3 (fun w'=>w'.cell? ⟨i,1,none⟩=some a0∧w'.cell? ⟨w.heap.size+1,3,none⟩=some (.int .i64 ac)) (first | assumption | go_keep) ((go_at_call 39;refine (Aa a4).mono ?_;rintro r bB ⟨rfl,bC⟩;have ad:=aA.below bC;have b6:bB.cell? ⟨i,1,none⟩=some a0∧bB.cell? ⟨w.heap.size+1,3,none⟩=some (.int .i64 ac):=⟨ad.row4.2.2.2.2.2.2.1,ad.row4.2.2.2.1⟩))
     clear bC bA a1 aA b4 o a4 b5 b6;clear I b3;generalize bD:Cf p.ex=aB at bP ⊢;have bE:=Ab bD;clear bD;by_cases bF:ab < aB
     ·have a5:=Ab (show mx ab aB=aB from if_pos bF);obtain ⟨l,m,n,o,g,b,j,s,v,y,z⟩:=ad.row4;have bG:=b 0;have bH:=b 1;have bI:=b 2;have bJ:=b 3;clear g b j;obtain ⟨J,L,O⟩:=ad.done W;have Q:=Ab (And.intro L O);have aj:=Ab J;clear L O J;go_wp2_with fail
      refine bodyPost_ret (KJ Tryz.results16 rfl rfl (Aa aj)) rfl ?_;obtain ⟨F,H,I⟩:=Aa bu;exact ⟨by rw[Aa au,Aa a3,I];simp only[EW,AN,Gt,Aa aZ,Aa bE];rw[Aa a5];rfl,_,_,_,_,by simp only[Fb,Kq,AN];rw[← F,← H,← I];exact (Aa Q).1,(Aa Q).2⟩
     ·have a5:=Ab (show mx ab aB=ab from if_neg bF);obtain ⟨l,m,n,o,g,b,j,s,v,y,z⟩:=ad.row4;have bG:=b 0;have bH:=b 1;have bI:=b 2;have bJ:=b 3;clear g b j;obtain ⟨J,L,O⟩:=ad.done W;have Q:=Ab (And.intro L O);have aj:=Ab J;clear L O J;go_wp2_with fail
      refine bodyPost_ret (KJ Tryz.results16 rfl rfl (Aa aj)) rfl ?_;obtain ⟨F,H,I⟩:=Aa bu;exact ⟨by rw[Aa au,Aa a3,I];simp only[EW,AN,Gt,Aa aZ,Aa bE];rw[Aa a5];rfl,_,_,_,_,by simp only[Fb,Kq,AN];rw[← F,← H,← I];exact (Aa Q).1,(Aa Q).2⟩
    |skip
     dsimp only;obtain ⟨l,m,n,o,g,b,j,s,v,y,z⟩:=E.row4;have bG:=b 0;have bH:=b 1;have bI:=b 2;have bJ:=b 3;clear g b j;obtain ⟨J,L,O⟩:=E.done W;have Q:=Ab (And.intro L O);have aj:=Ab J;clear L O J;go_wp2_with fail
     refine bodyPost_ret (KJ Tryz.results16 rfl rfl (Aa aj)) rfl ?_;exact ⟨by rw[Aa au];simp only[EW,Gt,Aa aZ];rw[show mx ab 0=ab from if_neg (by omega)];rfl,_,_,_,_,by simp only[Fb,Kq,zp];exact (Aa Q).1,(Aa Q).2⟩
theorem WS {w:World}{B l m c:Nat}{T:List Ae}{N:List Nd}{P:List Int}{nd o:Value}{v x:List Value}(b:Ls w l m c T)(d:m < B)(hl:T.length≤4000)(f:∀ t∈T,t.text.size≤maxLen)(i:FK w B l (.slice (some ⟨m,0,none⟩) T.length c) N P nd o v x){lo hi:Nat}(j:hi≤T.length)(p:N.length+8001≤65535)(hp:P.length+8001≤65535){s:Ps}(q:SC (Gf T lo hi) s):
  Calls Tryz.prog 16 #[.pointer (some ⟨l,0,none⟩),.int .i64 (lo:Int),.int .i64 (hi:Int)] w (StM B l (.slice (some ⟨m,0,none⟩) T.length c) s.sx N P nd o w):=by
 generalize k:Gf T lo hi=y at q;cases q with
 |let_ h z he g=>exact WR b d hl f i j (by omega) (by omega) k h g
 |when h r u n=>
  cases n with
  |deny a=>exact MR b d hl f i j p hp k (.inl ⟨_,rfl,a,rfl⟩) h r u
  |grant a g=>exact MR b d hl f i j p hp k (.inr ⟨_,_,_,rfl,a,g,rfl⟩) h r u
 |else_ h n=>
  cases n with
  |deny a=>exact LT b d hl f i j k h a
  |grant a g=>exact KK b d hl f i j (by omega) (by omega) k h a g
def pfW (W:World) (b:Nat) (p0 p1 f0 f1:Value):World:=((((W.setCell ⟨b,0,none⟩ p0).setCell ⟨b,1,none⟩ p1).setCell ⟨b+1,0,none⟩ f0).setCell ⟨b+1,1,none⟩ f1).drew
theorem WT (a:World)(b:Nat)(c d f f1:Value)(q:Nat)(h1:q≠b)(h2:q≠b+1):(pfW a b c d f f1).heap[q]? =a.heap[q]? :=by
 show ((((a.setCell ⟨b,0,none⟩ c).setCell ⟨b,1,none⟩ d).setCell ⟨b+1,0,none⟩ f).setCell ⟨b+1,1,none⟩ f1).heap[q]? =_;rw[heap_setCell_other _ _ q _ h2,heap_setCell_other _ _ q _ h2,heap_setCell_other _ _ q _ h1,heap_setCell_other _ _ q _ h1]
theorem Gh {d w:World}{h i j k:Value}(R:Am d w.heap.size #[h,i] 27)(F:Am d (w.heap.size+1) #[j,k] 30)(B:Below w.heap.size w d)(a b c f1:Value):Am (pfW d w.heap.size a b c f1) w.heap.size #[a,b] 27∧Am (pfW d w.heap.size a b c f1) (w.heap.size+1) #[c,f1] 30∧Below w.heap.size w (pfW d w.heap.size a b c f1):=by
 have f:w.heap.size≠w.heap.size+1:=by omega
 have g:w.heap.size+1≠w.heap.size:=by omega
 have h1:=(((R.set 0 a).set 1 b).setFar (p:=⟨w.heap.size+1,0,none⟩) f c).setFar (p:=⟨w.heap.size+1,1,none⟩) f f1;have h2:=(((F.setFar (p:=⟨w.heap.size,0,none⟩) g a).setFar (p:=⟨w.heap.size,1,none⟩) g b).set 0 c).set 1 f1;have h3:=((((B.setCell (p:=⟨w.heap.size,0,none⟩) NLN a).setCell (p:=⟨w.heap.size,1,none⟩) NLN b).setCell (p:=⟨w.heap.size+1,0,none⟩) (z5 _) c).setCell (p:=⟨w.heap.size+1,1,none⟩) (z5 _) f1).drew;exact ⟨⟨h1.out⟩,⟨h2.out⟩,h3⟩
theorem Rb.fault (a at_:Int){w w':World}(h:Below w.heap.size w w'):Rb ([], [], [],a,at_) w (.returned (.tuple #[.agg #[.slice none 0 0,.slice none 0 0],.slice none 0 0,.agg #[.int .i64 a,.int .i64 at_]])) w':=
 ⟨⟨_,_, [], [],_,rfl,Cj.nil _ _,World.ownsRow_nil _ _ _ _,World.ownsRow_nil _ _ _ _,(fun q hq=>by cases hq)⟩,h⟩
theorem DP.suf {ts:List Ae}{x:QR}(d:DP ts x):∀ q,x= .bad q→∃ c,ts=c ++q:=by
 induction d with
 |bad d=>intro q h;cases h;obtain ⟨c,hc,_⟩:=d.suf;exact ⟨c,hc⟩
 |@more ts r s x d hk d2 a=>
  intro q h;cases x with
  |ok T=>cases h
  |bad p=>
   cases h;obtain ⟨c,hc,_⟩:=d.suf;obtain ⟨c2,b⟩:=a q rfl;exact ⟨c ++c2,by rw[hc,zC,← b];rfl⟩
 |last=>intro q h;cases h
 |over d hk=>intro q h;cases h;obtain ⟨c,hc,_⟩:=d.suf;exact ⟨c,hc⟩
theorem Gi {a:World}{b:Nat}{c d f g:Value}(R:Am a b #[c,d] 27)(F:Am a (b+1) #[f,g] 30):(a.cell? ⟨b,0,none⟩=some c∧a.cell? ⟨b,1,none⟩=some d)∧(∀ j,a.frozen? ⟨b,j,none⟩=false)∧(a.cell? ⟨b+1,0,none⟩=some f∧a.cell? ⟨b+1,1,none⟩=some g)∧∀ j,a.frozen? ⟨b+1,j,none⟩=false:=
 ⟨⟨R.cell 0,R.cell 1⟩,fun j=>R.frozen j,⟨F.cell 0,F.cell 1⟩,fun j=>F.frozen j⟩
theorem MS {a:World}{b:Nat}{c d:Value}(F:Am a b #[c,d] 30):a.cell? ⟨b,0,none⟩=some c∧a.cell? ⟨b,1,none⟩=some d:=⟨F.cell 0,F.cell 1⟩
theorem Sa (t:ByteArray)(x:QR)(w:World)(hc:(Ay t).code≠0):
  Calls Tryz.prog 5 #[.string t] w (Rb (IX t x) w):=by
 rw[Jx hc];have h:=Ab (fun d=>Iv t d);generalize Ay t=R at h hc ⊢;obtain ⟨T,a,at_⟩:=R;dsimp only at h hc ⊢;have f:=((Below.refl w.heap.size w).alloc NLN (.cells #[.slice none 0 0,.slice none 0 0] 27)).alloc (by simp) (.cells #[.int .i64 0,.int .i64 0] 30);have i:=(Am.new w #[.slice none 0 0,.slice none 0 0] 27).alloc (.cells #[.int .i64 0,.int .i64 0] 30);have g:=Am.new (w.alloc (.cells #[.slice none 0 0,.slice none 0 0] 27)) #[.int .i64 0,.int .i64 0] 30;simp only[World.size_alloc] at g;go_enter Tryz.func5,Tryz.ntmps5
 go_wp2_with fail
 generalize m:(w.alloc (.cells #[.slice none 0 0,.slice none 0 0] 27)).alloc (.cells #[.int .i64 0,.int .i64 0] 30)=d at f i g ⊢;have v:d.heap.size=w.heap.size+2:=by rw[← m];simp
 clear m;refine (Aa h d).mono ?_;rintro r b ⟨N,O,rfl,P,Q,c⟩;have n:=f.trans (c.mono f.size);have y:=i.after c NLN;have z:=g.after c NLN;have S:w.heap.size+2≤b.heap.size:=by have:=c.size;omega
 clear f i g c v;have U:(a != 0)=true:=by simpa using hc
 clear hc;have o:=Am.new b #[.int .i64 a,.int .i64 at_] 30;have j:=y.alloc (.cells #[.int .i64 a,.int .i64 at_] 30);have k:=z.alloc (.cells #[.int .i64 a,.int .i64 at_] 30);have p:=n.alloc n.size (.cells #[.int .i64 a,.int .i64 at_] 30);dsimp only;go_wp2_with fail
 generalize b.alloc (.cells #[.int .i64 a,.int .i64 at_] 30)=V at o j k p ⊢;obtain ⟨A,a1⟩:=MS o;obtain ⟨⟨B,C⟩,E,⟨F,H⟩,I⟩:=Gi j k;have J:w.heap.size≠w.heap.size+1:=by omega
 have K:w.heap.size+1≠w.heap.size:=by omega
 have L:b.heap.size≠w.heap.size:=by omega
 have M:b.heap.size≠w.heap.size+1:=by omega
 obtain ⟨q,s,u⟩:=Gh j k p (.slice none 0 0) (.slice none 0 0) (.int .i64 a) (.int .i64 at_);have l:=Ab (And.intro q (And.intro s u));clear q s u;go_region_law fail
 all_goals
  clear A a1 B C E F H I J K L M;go_wp2_with fail
  exact bodyPost_ret (G5 Tryz.results5 rfl rfl rfl (Aa l).1 (Aa l).2.1) rfl (Rb.fault _ _ (Aa l).2.2)
theorem Uv (t:ByteArray)(q:List Ae)(w:World)(hc:(Ay t).code=0)(d:DP (Ay t).toks (.bad q)):
  Calls Tryz.prog 5 #[.string t] w (Rb (IX t (.bad q)) w):=by
 rw[LZ hc];have A:=Ab (fun u hu=>(Iu t u hu).1);have al:=Ab (fun u hu=>(Iu t u hu).2);have z:=Ab (GS t);have U:=Ab (fun m=>Iv t m);have V:=Ab (d.run (Aa A));obtain ⟨cs,l⟩:=d.suf q rfl;clear d;generalize Ay t=R at U hc A z V al l ⊢;obtain ⟨T,aD,at_⟩:=R;dsimp only at U hc A z V al l ⊢;subst hc;have ao:YJ T (QR.bad q).res=((cs.length:Nat):Int):=by
  rw[l];simp[QR.res,YJ]
 have ap:=Ab ao;clear ao;cases q with
 |nil=>
  have e1:(Dw t.size ([]:List Ae)).at_=t.size:=rfl;rw[e1];have au:T.length=cs.length:=by rw[l];simp
  have av: ¬ ((cs.length:Int) < (T.length:Int)):=by omega
  have aw:T.length≤4000:=Aa z;clear l e1 au;have h:=((Below.refl w.heap.size w).alloc NLN (.cells #[.slice none 0 0,.slice none 0 0] 27)).alloc (by simp) (.cells #[.int .i64 0,.int .i64 0] 30);have n:=(Am.new w #[.slice none 0 0,.slice none 0 0] 27).alloc (.cells #[.int .i64 0,.int .i64 0] 30);have i:=Am.new (w.alloc (.cells #[.slice none 0 0,.slice none 0 0] 27)) #[.int .i64 0,.int .i64 0] 30;simp only[World.size_alloc] at i;go_enter Tryz.func5,Tryz.ntmps5
  go_wp2_with fail
  generalize B:(w.alloc (.cells #[.slice none 0 0,.slice none 0 0] 27)).alloc (.cells #[.int .i64 0,.int .i64 0] 30)=m at h n i ⊢;have W:m.heap.size=w.heap.size+2:=by rw[← B];simp
  clear B;refine (Aa U m).mono ?_;rintro r a ⟨X,Y,rfl,C,ax,c⟩;have E:=h.trans (c.mono h.size);have F:=n.after c NLN;have H:=i.after c NLN;have ay:w.heap.size+2≤a.heap.size:=by have:=c.size;omega
  clear h n i c W;have I:=Am.new a #[.int .i64 0,.int .i64 (at_:Int)] 30;have o:=F.alloc (.cells #[.int .i64 0,.int .i64 (at_:Int)] 30);have p:=H.alloc (.cells #[.int .i64 0,.int .i64 (at_:Int)] 30);have j:=E.alloc E.size (.cells #[.int .i64 0,.int .i64 (at_:Int)] 30);have k:=World.ownsRow.alloc C (.cells #[.int .i64 0,.int .i64 (at_:Int)] 30);have J:(a.alloc (.cells #[.int .i64 0,.int .i64 (at_:Int)] 30)).heap.size=a.heap.size+1:=by simp
  dsimp only;go_wp2_with fail
  generalize a.alloc (.cells #[.int .i64 0,.int .i64 (at_:Int)] 30)=Z at I o p j k J ⊢;refine (KG T X Y _ Z k (Aa A) (Aa z) _ (Aa V)).mono ?_;rintro r f ⟨rfl,b⟩;have K:=o.after b NLN;have L:=p.after b NLN;have s:=j.trans (b.mono j.size);have M:=Cr k b NLN;have az:a.heap.size+1≤f.heap.size:=by have:=b.size;omega
  clear J F H o p j k I b C;rw[Aa ap];have N:=Am.new f #[.int .i64 4,.int .i64 (t.size:Int)] 30;have v:=K.alloc (.cells #[.int .i64 4,.int .i64 (t.size:Int)] 30);have x:=L.alloc (.cells #[.int .i64 4,.int .i64 (t.size:Int)] 30);have O:=s.alloc s.size (.cells #[.int .i64 4,.int .i64 (t.size:Int)] 30);dsimp only;go_wp2_with fail
  generalize f.alloc (.cells #[.int .i64 4,.int .i64 (t.size:Int)] 30)=aA at N v x O ⊢;clear K L s M;obtain ⟨aa,a1⟩:=MS N;obtain ⟨⟨ab,ac⟩,ad,⟨ae,af⟩,ag⟩:=Gi v x;have ah:w.heap.size≠w.heap.size+1:=by omega
  have ai:w.heap.size+1≠w.heap.size:=by omega
  have aj:f.heap.size≠w.heap.size:=by omega
  have ak:f.heap.size≠w.heap.size+1:=by omega
  obtain ⟨P,Q,S⟩:=Gh v x O (.slice none 0 0) (.slice none 0 0) (.int .i64 4) (.int .i64 (t.size:Int));have y:=Ab (And.intro P (And.intro Q S));clear P Q S;go_region_law fail
  all_goals
   clear aa a1 ab ac ad ae af ag ah ai aj ak;go_wp2_with fail
   exact bodyPost_ret (G5 Tryz.results5 rfl rfl rfl (Aa y).1 (Aa y).2.1) rfl (Rb.fault _ _ (Aa y).2.2)
 |cons u q=>
  have e1:(Dw t.size (u ::q)).at_=u.at_:=rfl;rw[e1];have aB:cs.length < T.length:=by rw[l];simp
  have aC:=Ab (show T[cs.length]=u by simp[l]);have av:(cs.length:Int) < (T.length:Int):=by omega
  have aw:T.length≤4000:=Aa z;clear l e1;have h:=((Below.refl w.heap.size w).alloc NLN (.cells #[.slice none 0 0,.slice none 0 0] 27)).alloc (by simp) (.cells #[.int .i64 0,.int .i64 0] 30);have n:=(Am.new w #[.slice none 0 0,.slice none 0 0] 27).alloc (.cells #[.int .i64 0,.int .i64 0] 30);have i:=Am.new (w.alloc (.cells #[.slice none 0 0,.slice none 0 0] 27)) #[.int .i64 0,.int .i64 0] 30;simp only[World.size_alloc] at i;go_enter Tryz.func5,Tryz.ntmps5
  go_wp2_with fail
  generalize B:(w.alloc (.cells #[.slice none 0 0,.slice none 0 0] 27)).alloc (.cells #[.int .i64 0,.int .i64 0] 30)=m at h n i ⊢;have W:m.heap.size=w.heap.size+2:=by rw[← B];simp
  clear B;refine (Aa U m).mono ?_;rintro r a ⟨X,Y,rfl,C,ax,c⟩;have E:=h.trans (c.mono h.size);have F:=n.after c NLN;have H:=i.after c NLN;have ay:w.heap.size+2≤a.heap.size:=by have:=c.size;omega
  clear h n i c W;have I:=Am.new a #[.int .i64 0,.int .i64 (at_:Int)] 30;have o:=F.alloc (.cells #[.int .i64 0,.int .i64 (at_:Int)] 30);have p:=H.alloc (.cells #[.int .i64 0,.int .i64 (at_:Int)] 30);have j:=E.alloc E.size (.cells #[.int .i64 0,.int .i64 (at_:Int)] 30);have k:=World.ownsRow.alloc C (.cells #[.int .i64 0,.int .i64 (at_:Int)] 30);have J:(a.alloc (.cells #[.int .i64 0,.int .i64 (at_:Int)] 30)).heap.size=a.heap.size+1:=by simp
  dsimp only;go_wp2_with fail
  generalize a.alloc (.cells #[.int .i64 0,.int .i64 (at_:Int)] 30)=Z at I o p j k J ⊢;refine (KG T X Y _ Z k (Aa A) (Aa z) _ (Aa V)).mono ?_;rintro r f ⟨rfl,b⟩;have K:=o.after b NLN;have L:=p.after b NLN;have s:=j.trans (b.mono j.size);have M:=Cr k b NLN;have az:a.heap.size+1≤f.heap.size:=by have:=b.size;omega
  clear J F H o p j k I b C;rw[Aa ap];obtain ⟨aE,aF,aq,hx⟩:=Af M;simp only[Value.slice.injEq] at aq;obtain ⟨rfl,_,rfl⟩:=aq;obtain ⟨g,rfl,aG,ar⟩:=hx (by omega);have aH:=(M.lt g rfl).2;have c3:=ar _ _ (Im T cs.length aB).2.2.2;rw[Aa aC] at c3;have N:=Am.new f #[.int .i64 4,.int .i64 (u.at_:Int)] 30;have v:=K.alloc (.cells #[.int .i64 4,.int .i64 (u.at_:Int)] 30);have x:=L.alloc (.cells #[.int .i64 4,.int .i64 (u.at_:Int)] 30);have O:=s.alloc s.size (.cells #[.int .i64 4,.int .i64 (u.at_:Int)] 30);clear ar hx;dsimp only;go_wp2_with fail
  generalize f.alloc (.cells #[.int .i64 4,.int .i64 (u.at_:Int)] 30)=aA at N v x O ⊢;clear K L s M c3;obtain ⟨aa,a1⟩:=MS N;obtain ⟨⟨ab,ac⟩,ad,⟨ae,af⟩,ag⟩:=Gi v x;have ah:w.heap.size≠w.heap.size+1:=by omega
  have ai:w.heap.size+1≠w.heap.size:=by omega
  have aj:f.heap.size≠w.heap.size:=by omega
  have ak:f.heap.size≠w.heap.size+1:=by omega
  obtain ⟨P,Q,S⟩:=Gh v x O (.slice none 0 0) (.slice none 0 0) (.int .i64 4) (.int .i64 (u.at_:Int));have y:=Ab (And.intro P (And.intro Q S));clear P Q S;go_region_law fail
  all_goals
   clear aa a1 ab ac ad ae af ag ah ai aj ak;go_wp2_with fail
   exact bodyPost_ret (G5 Tryz.results5 rfl rfl rfl (Aa y).1 (Aa y).2.1) rfl (Rb.fault _ _ (Aa y).2.2)
theorem Rb.good {w a w':World}{b:Nat}{j nd c d:Value}{M:List Nd}{g:List Int}{L:List St}{h i:List Value}(C:FK a b b j M g nd c h i)(O:a.ownsRow b 51 4 d L.length (Dm L))(p:w.heap.size+1 < b)(k l m f1:Value)(n:w'=pfW a w.heap.size k l m f1)(o:Below w.heap.size w w'):Rb (M,L,g,0,0) w (.returned (.tuple #[.agg #[nd,d],c,.agg #[.int .i64 0,.int .i64 0]])) w':=by
 have f:∀ q,b≤q→q < a.heap.size→w'.heap[q]? =a.heap[q]? :=fun q h1 _=>by rw[n];exact WT _ _ _ _ _ _ q (by omega) (by omega)
 exact ⟨⟨nd,c,h,i,d,rfl,(C.nodes.blocks f).low (by omega),Cz (Ac O (fun q hq=>f q (O.lt q hq).1 (O.lt q hq).2)) (by omega),Cz (Ac C.places (fun q hq=>f q (C.places.lt q hq).1 (C.places.lt q hq).2)) (by omega),C.apart⟩,o⟩
def WsI (T:List Ae) (o:Option Int) (W4:World) (vi:Value) (wr:World):Prop:=
 ∃ k:Nat,k≤T.length∧vi= .int .i64 (k:Int)∧o=(Kl (Dt (T.drop k))).head?∧Below W4.heap.size W4 wr
theorem YU (i:Nat)(a:List ByteArray)(L:List (Nat × List ByteArray)):(Kl ((i,a) ::L)).head? =if 64 < (Jp a).length then some (i:Int) else (Kl L).head?:=by
 rw[Kl,List.filterMap_cons];dsimp only;split
 ·rename_i h;rw[if_neg (by intro h2;rw[if_pos h2] at h;cases h)];rfl
 ·rename_i j h;by_cases h2: 64 < (Jp a).length
  ·rw[if_pos h2] at h ⊢;injection h with h;rw[← h];rfl
  ·rw[if_neg h2] at h;cases h
def PsI (T:List Ae) (S:List Ps) (g ca nb:Nat) (W4:World) (vs vl:Value) (wr:World):Prop:=
 ∃ (k:Nat) (S1 S2:List Ps) (nd pl:Value) (nv kv:List Value),k≤T.length∧vl= .int .i64 (k:Int)∧S=S1 ++S2∧PC (T.drop k) S2∧IM (S.map Ps.sx)=IM (S2.map Ps.sx)∧wr.ownsRow nb 51 4 vs S1.length (Dm (Ct 0 (S1.map Ps.sx)))∧FK wr nb nb (.slice (some ⟨g,0,none⟩) T.length ca) (A7 0 (S1.map Ps.sx)) (CW (S1.map Ps.sx)) nd pl nv kv∧Below nb W4 wr
theorem SC.at_eq {c:List Ae}{s:Ps}(h:SC c s):∃ t r,c=t ::r∧t.at_=s.at_:=by
 cases h with
 |let_=>exact ⟨_,_,rfl,rfl⟩
 |when=>exact ⟨_,_,rfl,rfl⟩
 |else_=>exact ⟨_,_,rfl,rfl⟩
theorem Sb {T:List Ae}{k:Nat}{c r:List Ae}(h:T.drop k=c ++r):Gf T k (k+c.length)=c:=by
 rw[Gf,List.drop_take,h];simp
theorem WU (t:ByteArray)(S:List Ps)(w:World)(hc:(Ay t).code=0)(d:DP (Ay t).toks (.ok S)):
  Calls Tryz.prog 5 #[.string t] w (Rb (IX t (.ok S)) w):=by
 obtain ⟨b0,b1⟩:∃ b0,b0=IX t (.ok S):=⟨_,rfl⟩
 have aK:=Ab (fun i h=>Jv (S:=S) (i:=i) hc h);have bc:=Ab (fun i h1 h2=>Jw (S:=S) (i:=i) hc h1 h2);have bd:=Ab (fun h1 h2=>Mp (S:=S) hc h1 h2);rw[← b1] at aK bc bd ⊢;clear b1;have aL:=Ab (fun u hu=>(Iu t u hu).1);have aM:=Ab (fun u hu=>(Iu t u hu).2);have aN:=Ab (GS t);have bf:=Ab (fun aO=>Iv t aO);have bg:=Ab (d.run (Aa aL));have ab:=d.cut S rfl;have b2:=d.ne S rfl;clear d;generalize Ay t=R at bf hc aL aN bg aM ab ⊢;obtain ⟨T,dm,at_⟩:=R;dsimp only at bf hc aL aN bg aM ab ⊢;subst hc;have cP:=Ab (show YJ T (QR.ok S).res= -1 from rfl);have dn: 0 < T.length:=by
  cases ab with
  |nil=>exact absurd rfl b2
  |cons ac hu av=>simp;omega
 have b3:=Ab ab;have b5:=Ab ab.sets;have b6:=Ab ab.cnt;have b7:T.length≤4000:=Aa aN;clear ab b2;have aP:=((Below.refl w.heap.size w).alloc NLN (.cells #[.slice none 0 0,.slice none 0 0] 27)).alloc (by simp) (.cells #[.int .i64 0,.int .i64 0] 30);have bh:=(Am.new w #[.slice none 0 0,.slice none 0 0] 27).alloc (.cells #[.int .i64 0,.int .i64 0] 30);have aQ:=Am.new (w.alloc (.cells #[.slice none 0 0,.slice none 0 0] 27)) #[.int .i64 0,.int .i64 0] 30;simp only[World.size_alloc] at aQ;go_enter Tryz.func5,Tryz.ntmps5
 go_wp2_with fail
 generalize b8:(w.alloc (.cells #[.slice none 0 0,.slice none 0 0] 27)).alloc (.cells #[.int .i64 0,.int .i64 0] 30)=aO at aP bh aQ ⊢;have cQ:aO.heap.size=w.heap.size+2:=by rw[← b8];simp
 clear b8;refine (Aa bf aO).mono ?_;rintro r ah ⟨cR,o,rfl,b9,dp,aw⟩;have O:=aP.trans (aw.mono aP.size);have ca:=bh.after aw NLN;have cb:=aQ.after aw NLN;have cc:w.heap.size+2≤ah.heap.size:=by have:=aw.size;omega
 clear aP bh aQ aw cQ;have cd:=Am.new ah #[.int .i64 0,.int .i64 (at_:Int)] 30;have bi:=ca.alloc (.cells #[.int .i64 0,.int .i64 (at_:Int)] 30);have bj:=cb.alloc (.cells #[.int .i64 0,.int .i64 (at_:Int)] 30);have aR:=O.alloc O.size (.cells #[.int .i64 0,.int .i64 (at_:Int)] 30);have aS:=World.ownsRow.alloc b9 (.cells #[.int .i64 0,.int .i64 (at_:Int)] 30);have ce:(ah.alloc (.cells #[.int .i64 0,.int .i64 (at_:Int)] 30)).heap.size=ah.heap.size+1:=by simp
 dsimp only;go_wp2_with fail
 generalize ah.alloc (.cells #[.int .i64 0,.int .i64 (at_:Int)] 30)=cS at cd bi bj aR aS ce ⊢;refine (KG T cR o _ cS aS (Aa aL) (Aa aN) _ (Aa bg)).mono ?_;rintro r z ⟨rfl,ai⟩;have cf:=bi.after ai NLN;have cg:=bj.after ai NLN;have bk:=aR.trans (ai.mono aR.size);have bl:=Cr aS ai NLN;have ch:ah.heap.size+1≤z.heap.size:=by have:=ai.size;omega
 clear ce ca cb bi bj aR aS cd ai b9;rw[Aa cP];obtain ⟨dq,dr,ci,hx⟩:=Af bl;simp only[Value.slice.injEq] at ci;obtain ⟨rfl,_,rfl⟩:=ci;obtain ⟨g,rfl,cj,ck⟩:=hx (by omega);have aT:=(bl.lt g rfl).2;have bm:=bk.alloc bk.size (.cells #[.slice (some ⟨g,0,none⟩) T.length o,.slice none 0 0,.slice none 0 0] 45);have b4:=(Below.refl z.heap.size z).alloc NLN (.cells #[.slice (some ⟨g,0,none⟩) T.length o,.slice none 0 0,.slice none 0 0] 45);have aU:=Am.new z #[.slice (some ⟨g,0,none⟩) T.length o,.slice none 0 0,.slice none 0 0] 45;have bn:=cf.after b4 NLN;have bo:=cg.after b4 NLN;have bp:Ls (z.alloc (.cells #[.slice (some ⟨g,0,none⟩) T.length o,.slice none 0 0,.slice none 0 0] 45)) z.heap.size g o T:=⟨aU.cell 0,fun j u hu=>(b4.cell (p:=⟨g,j,none⟩) aT).trans (ck j u hu),aU.lt,zY aT b4.size⟩
 have aV:FK (z.alloc (.cells #[.slice (some ⟨g,0,none⟩) T.length o,.slice none 0 0,.slice none 0 0] 45)) z.heap.size z.heap.size (.slice (some ⟨g,0,none⟩) T.length o) [] [] (.slice none 0 0) (.slice none 0 0) [] []:=⟨aU,Cj.nil _ _,World.ownsRow_nil _ _ _ _,(fun q hq=>by cases hq),NLN⟩
 have bq:=Ab (And.intro aT cj);clear ck hx b4 aU cf cg bk bl cj;dsimp only;go_wp2_with fail
 generalize z.alloc (.cells #[.slice (some ⟨g,0,none⟩) T.length o,.slice none 0 0,.slice none 0 0] 45)=A at bm bn bo bp aV ⊢;generalize z.heap.size=l at *;have br:Hid ((Kl (S.flatMap Ps.sets)).head? =(Kl (Dt T)).head?):=Ab (by rw[Aa b5]);generalize (Kl (S.flatMap Ps.sets)).head? =ad at br aK bc bd;have ax:=Ab (show WsI T ad A (.int .i64 0) A from ⟨0,by omega,rfl,Aa br,BRN⟩);have aj:=Ab bp;have cl:=Ab aV;have bs:=Ab (And.intro bm (And.intro bn bo));have aW:=Ab (And.intro cc (And.intro ch aV.row.lt));clear bp aV bm bn bo br b5 cc ch aT;go_loopw [10,50] (fun _ bt wr=>WsI T ad A bt wr) (fun _ bt _=>T.length - (intOf bt).toNat)
 case atStart=>exact Aa ax
 case round=>
  clear ax;obtain ⟨k,hk,rfl,ak,f⟩:=hrel;by_cases B:k < T.length
  ·have bu:(k:Int) < (T.length:Int):=by omega
   have aX:=Ab (FJ T.length k B);have y:=zq B;cases al:see Ch T[k]
   ·have bv:=Ab al;have ae:=Ab (fun (w':World) (bw:Below A.heap.size A w')=>show WsI T ad A (.int .i64 ((k:Int)+1)) w' from ⟨k+1,by omega,by rw[zU];rfl,by rw[ak,y,AV al],bw⟩);clear y ak al;go_wp2_with fail
    refine (G8 (Aa aj) f k B Ch false (Aa bv)).mono ?_;rintro r n ⟨rfl,aY⟩;dsimp only;go_wp2_with fail
    exact ⟨Aa ae _ (f.trans (aY.mono f.size)),Aa aX⟩
   ·have bv:=Ab al;have aZ:ad=if 64 < (Jp (Kx (T.drop (k+1)))).length then some (T[k].at_:Int) else (Kl (Dt (T.drop (k+1)))).head?:=by
     rw[ak,y,Dt,if_pos al,YU]
    have bx:=Ab aZ;have bz:=Ab (Qi (T.drop (k+1)) (fun x hx=>Aa aM x (List.mem_of_mem_drop hx)));have cT:(Kx (T.drop (k+1))).length≤4000:=by
     have:=(Aa bz).2;rw[zj] at this;omega
    clear y ak al aZ;go_wp2_with fail
    refine (G8 (Aa aj) f k B Ch true (Aa bv)).mono ?_;rintro r n ⟨rfl,aY⟩;have a0:=f.trans (aY.mono f.size);dsimp only;go_wp2_with fail
    refine (Lt ((Aa aj).below a0) b7 k B).mono ?_;rintro r ds ⟨⟨dt,c7,rfl,bA⟩,cm⟩;have bB:=a0.trans (cm.mono a0.size);generalize Kx (T.drop (k+1))=M at bx bz cT bA ⊢;have cn:=BL.of_owns bA (fun j ao=>by rw[Cw M j ao];exact (Aa bz).1 _ (zP _));clear bA aY cm;dsimp only;go_wp2_with fail
    refine (EI _ _ _ _ _ cn (by omega)).mono ?_;rintro r co ⟨du,dv,a1,rfl,cU,cp,bC⟩;have ay:=bB.trans (cp.mono bB.size);have cq:=Ab (Qg bC);have dw:a1.length≤4000:=by have:=bC.len;omega
    clear bC cn cU cp a0 f bB;dsimp only;by_cases az: 64 < a1.length
    ·have a:(64 :Int) < (a1.length:Int):=by omega
     have V:=Ab (Aa aK _ (show ad=some (T[k].at_:Int) by rw[Aa bx,← Aa cq,if_pos az]));obtain ⟨_,_,_,c3⟩:=((Aa aj).below ay).at4 k B;generalize (T[k].at_:Int)=bD at c3 V;obtain ⟨P,W,X⟩:=Aa bs;have Q:=W.after ay NLN;have U:=X.after ay NLN;have ap:=P.trans (ay.mono P.size);clear P W X;go_wp2_with fail
     obtain ⟨⟨aq,aA⟩,aB,⟨u0,u1⟩,aC⟩:=Gi Q U;have aD:w.heap.size≠w.heap.size+1:=by omega
     have aE:w.heap.size+1≠w.heap.size:=by omega
     obtain ⟨Y,Z,aa⟩:=Gh Q U ap (.slice none 0 0) (.slice none 0 0) (.int .i64 5) (.int .i64 bD);have C:=Ab (And.intro Y (And.intro Z aa));clear Y Z aa;go_region_law fail
     all_goals
      clear aq aA aB u0 u1 aC aD aE c3;go_wp2_with fail
      exact bodyPost_ret (G5 Tryz.results5 rfl rfl rfl (Aa C).1 (Aa C).2.1) rfl (by rw[Aa V];exact Rb.fault _ _ (Aa C).2.2)
    ·have a: ¬ ((64 :Int) < (a1.length:Int)):=by omega
     have ae:=Ab (show WsI T ad A (.int .i64 ((k:Int)+1)) co from ⟨k+1,by omega,by rw[zU];rfl,by rw[Aa bx,← Aa cq,if_neg az],ay⟩);go_wp2_with fail
     exact ⟨Aa ae,Aa aX⟩
  ·have aZ:ad=none:=by rw[ak,List.drop_eq_nil_of_le (by omega)];rfl
   subst aZ;have bu: ¬ ((k:Int) < (T.length:Int)):=by omega
   clear aK ak;have ax:=Ab (show PsI T S g o l A (.slice none 0 0) (.int .i64 0) wr from ⟨0, [],S,_,_,_,_,by omega,rfl,rfl,Aa b3,rfl,World.ownsRow_nil _ _ _ _,(Aa cl).below f,f.mono (by have:=(Aa aW).2.2;omega)⟩);clear f cl b3 B;go_wp2_with fail
   go_loopw [11,12] (fun cV bE wr=>PsI T S g o l A cV bE wr) (fun _ bE _=>T.length - (intOf bE).toNat)
   case atStart=>exact Aa ax
   case round=>
    clear ax;obtain ⟨k,b,cr,nd,dx,dy,dz,hk,rfl,aF,ar,a2,af,E,ag⟩:=hrel;obtain ⟨cs,ct,rfl,-⟩:=Af af;generalize wr=F at *;by_cases B:k < T.length
    ·have bu:(k:Int) < (T.length:Int):=by omega
     obtain ⟨c,r,u,s,aG,y,bF,ac,hu,av⟩:∃ c r u s aG,T.drop k=c ++u ::r∧cr=s ::aG∧SC c s∧see AG u=true∧PC r aG:=by
      generalize bG:T.drop k=bH at ar;cases ar with
      |nil=>have:=congrArg List.length bG;simp at this;omega
      |cons ac hu av=>exact ⟨_,_,_,_,_,rfl,rfl,ac,hu,av⟩
     subst bF;obtain ⟨hi,bI⟩:∃ hi,hi=k+c.length:=⟨_,rfl⟩
     have bJ:Gf T k hi=c:=by rw[bI];exact Sb y
     have bK:hi < T.length:=by
      have:=congrArg List.length y;simp at this;omega
     have aH:T.drop hi=u ::r:=by rw[bI,← List.drop_drop,y];simp
     have cu:T.drop (hi+1)=r:=by
      rw[zq bK] at aH;injection aH
     have a3:T[hi]=u:=by
      rw[zq bK] at aH;injection aH
     have cW:k≤hi:=by omega
     have cv:=Ab (show ∀ j,(h1:k≤j)→(h2:j < hi)→∃ h:j < T.length,see AG T[j]=false from fun j h1 h2=>⟨by omega,by
      have:=VL (T:=T) (lo:=k) (hi:=hi) (k:=j) (by omega) h1 h2;rw[bJ] at this;exact ac.free _ this⟩)
     have cw:=Ab (show see AG T[hi]=true by rw[a3];exact hu);have cX:=Ab (show T[k].at_=s.at_ by
      obtain ⟨dA,aq,e1,e2⟩:=ac.at_eq;rw[e1,List.cons_append,zq B] at y;injection y with y _;rw[y,e2])
     have cY:=Ab (show SC (Gf T k hi) s by rw[bJ];exact ac);have aX:=Ab (show T.length - (intOf (.int .i64 ((hi:Int)+1))).toNat < T.length - (intOf (.int .i64 (k:Int))).toNat by simp[intOf];omega);have bL:=Aa b6;rw[aF,zl,MT,zB] at bL;have cZ:(A7 0 (b.map Ps.sx)).length≤4000:=by rw[CY];omega
     have c0:(CW (b.map Ps.sx)).length≤4000:=by rw[Ge];omega
     have c1:b.length≤4000:=by simp only[List.length_cons] at bL;omega
     have a4:=Pe (Ct 0 (b.map Ps.sx)) ⟨s.sx.kind,s.sx.name,EW s.sx.cond (A7 0 (b.map Ps.sx)).length,EW s.sx.grant ((A7 0 (b.map Ps.sx)).length+AN s.sx.cond)⟩;have a5:=Iw s.sx (b.map Ps.sx) 0;have bM:=KL s.sx (b.map Ps.sx);have eT:=Ix s.sx (b.map Ps.sx) 0;rw[zW,← CY (b.map Ps.sx) 0] at a5 eT;rw[← eT] at a4;have cx:(b ++ [s]).map Ps.sx=b.map Ps.sx ++ [s.sx]:=by simp
     rw[← cx] at a5 bM a4;have bN:=Ab (show IM (S.map Ps.sx)=if 64 < mx (Gt s.sx.cond) (Gt s.sx.grant) then some (s.at_:Int) else IM (aG.map Ps.sx) by rw[a2];rfl);have H:=Ab (show ∀ v aI bO bP bQ bR,¬ 64 < mx (Gt s.sx.cond) (Gt s.sx.grant)→aI.ownsRow l 51 4 v (b.length+1) (Dm (Ct 0 (b.map Ps.sx)) ++ [.int .i64 s.sx.kind,.string s.sx.name,.int .i64 (EW s.sx.cond (A7 0 (b.map Ps.sx)).length),.int .i64 (EW s.sx.grant ((A7 0 (b.map Ps.sx)).length+AN s.sx.cond))])→FK aI l l (.slice (some ⟨g,0,none⟩) T.length o) (A7 0 (b.map Ps.sx) ++Fb s.sx.cond (A7 0 (b.map Ps.sx)).length ++Fb s.sx.grant ((A7 0 (b.map Ps.sx)).length+AN s.sx.cond)) (CW (b.map Ps.sx) ++Kq s.sx.cond ++Kq s.sx.grant) bO bP bQ bR→Below l A aI→PsI T S g o l A v (.int .i64 ((hi:Int)+1)) aI from fun v aI bO bP bQ bR h0 h1 h2 h3=>by
      refine ⟨hi+1,b ++ [s],aG,bO,bP,bQ,bR,by omega,by rw[zU];rfl,by rw[aF];simp,by rw[cu];exact av,by rw[Aa bN,if_neg h0], ?_, ?_,h3⟩
      ·rw[zB,z9,a4];exact h1
      ·rw[a5,bM];exact h2)
     clear a4 a5 bM eT cx a2 bL cu av ac hu a3 bJ y aH aF bI b6;have cy:=(Aa aj).of E ag (Aa bq).1;generalize Dm (Ct 0 (b.map Ps.sx))=c2 at af H;generalize A7 0 (b.map Ps.sx)=M at E H cZ;generalize CW (b.map Ps.sx)=c4 at E H c0;generalize b.length=m at af H c1;clear b;have bS:=Ab cy;have a6:=Ab E;have a7:=Ab af;have c5:=Ab ag;have cz:=Ab (show FrI k hi F (.int .i64 (k:Int)) F from ⟨k,NLN,cW,rfl,BRN⟩);clear cy E af ag;go_wp2_with fail
     go_loopw [13] (fun bT w'=>FrI k hi F bT w') (fun bT _=>hi - (intOf bT).toNat)
     case atStart=>exact Aa cz
     case round=>
      clear cz;obtain ⟨j,h1,h2,rfl,O⟩:=hrel;by_cases ao:j < hi
      ·obtain ⟨c6,cA⟩:=Aa cv j h1 ao;have c8:=Ab cA;have c9:=Ab (FJ hi j ao);have ae:=Ab (fun (w':World) (bw:Below F.heap.size F w')=>show FrI k hi F (.int .i64 ((j:Int)+1)) w' from ⟨j+1,by omega,by omega,by rw[zU];rfl,bw⟩);clear cA ao;go_wp2_with fail
       refine (G8 (Aa bS) O j c6 AG false (Aa c8)).mono ?_;rintro r cB ⟨rfl,a8⟩;dsimp only;go_wp2_with fail
       exact ⟨Aa ae _ (O.trans (a8.mono O.size)),Aa c9⟩
      ·have e:hi=j:=by omega
       subst e;clear ao cv;go_wp2_with fail
       refine (G8 (Aa bS) O hi bK AG true (Aa cw)).mono ?_;rintro r cB ⟨rfl,a8⟩;have f:=O.trans (a8.mono O.size);have bU:=(Aa a6).below f;have cC:=(Aa bS).below f;have cD:=Ac (w':=cB) (Aa a7) (fun q hq=>f.block q ((Aa a7).lt q hq).2);clear a8 O cw;dsimp only;go_wp2_with fail
       refine (WS cC (Aa bq).1 b7 (Aa aM) bU (by omega) (by omega) (by omega) (Aa cY)).mono ?_;rintro r n ⟨rfl,dB,dC,dD,dE,au,bV⟩;have bW:=bV.stmL bU cD;have da:l≤F.heap.size:=by have:=(Aa a6).row.lt;omega
       have aJ:=((Aa c5).trans (f.mono da)).trans bV.low;clear bU cC cD bV f;generalize mx (Gt s.sx.cond) (Gt s.sx.grant)=bH at H bN ⊢;generalize EW s.sx.cond M.length=I at H ⊢;generalize EW s.sx.grant (M.length+AN s.sx.cond)=J at H ⊢;generalize s.sx.kind=K at H ⊢;generalize s.sx.name=N at H ⊢;dsimp only;by_cases az: 64 < bH
       ·have V:=Ab (Aa bc _ (by first | rfl | trivial) (show IM (S.map Ps.sx)=some (s.at_:Int) by rw[Aa bN,if_pos az]))
        rw[← Aa cX] at V;have bX:=(Below.refl n.heap.size n).alloc NLN (.cells #[.int .i64 K,.string N,.int .i64 I,.int .i64 J] 51);obtain ⟨_,_,_,c3⟩:=(((Aa aj).of au aJ (Aa bq).1).below bX).at4 k B;generalize (T[k].at_:Int)=bD at c3 V;obtain ⟨P,W,X⟩:=Aa bs;obtain ⟨cE,cF,cG⟩:=Aa aW;have a9:=aJ.trans (bX.mono (by have:=au.row.lt;omega));have Q:Am _ w.heap.size #[.slice none 0 0,.slice none 0 0] 27:=⟨(a9.block _ (by omega)).trans W.out⟩
        have U:Am _ (w.heap.size+1) #[.int .i64 0,.int .i64 0] 30:=⟨(a9.block _ (by omega)).trans X.out⟩
        have ap:=P.trans (a9.mono (by omega));clear P W X a9 bX cE cF cG au bW aJ H;go_wp2_with fail
        generalize n.alloc (.cells #[.int .i64 K,.string N,.int .i64 I,.int .i64 J] 51)=co at c3 Q U ap ⊢;obtain ⟨⟨aq,aA⟩,aB,⟨u0,u1⟩,aC⟩:=Gi Q U;have aD:w.heap.size≠w.heap.size+1:=by omega
        have aE:w.heap.size+1≠w.heap.size:=by omega
        obtain ⟨Y,Z,aa⟩:=Gh Q U ap (.slice none 0 0) (.slice none 0 0) (.int .i64 6) (.int .i64 bD);have C:=Ab (And.intro Y (And.intro Z aa));clear Y Z aa;go_region_law fail
        all_goals
         clear aq aA aB u0 u1 aC aD aE c3;go_wp2_with fail
         exact bodyPost_ret (G5 Tryz.results5 rfl rfl rfl (Aa C).1 (Aa C).2.1) rfl (by rw[Aa V];exact Rb.fault _ _ (Aa C).2.2)
       ·have ba:=(Below.refl n.heap.size n).alloc NLN (.cells #[.int .i64 K,.string N,.int .i64 I,.int .i64 J] 51);have cH:=au.below ba;have bb:=World.ownsRow.alloc bW (.cells #[.int .i64 K,.string N,.int .i64 I,.int .i64 J] 51);have cI:=World.ownsRow.alloc bb (.cells #[.int .i64 K,.string N,.int .i64 I,.int .i64 J] 51);have bY:=World.news_of_block (heap_alloc_new (n.alloc (.cells #[.int .i64 K,.string N,.int .i64 I,.int .i64 J] 51)) (.cells #[.int .i64 K,.string N,.int .i64 I,.int .i64 J] 51));have cJ:(n.alloc (.cells #[.int .i64 K,.string N,.int .i64 I,.int .i64 J] 51)).heap.size=n.heap.size+1:=by simp
        rw[cJ] at bY;clear cJ;have dF:l < n.heap.size:=au.row.lt;have cK:=aJ.trans (ba.mono (by omega));have dG:n.heap.size≤(n.alloc (.cells #[.int .i64 K,.string N,.int .i64 I,.int .i64 J] 51)).heap.size:=ba.size;clear ba aJ au;obtain ⟨db,dc,dd,de,df⟩:=info_parts VM;go_wp2_with (at_builtin;refine wpList_append_lies _ rfl _ _ 25 rfl l 51 db (.agg #[.int .i64 0,.string ByteArray.empty,.int .i64 0,.int .i64 0]) 4 40 Tryz.underlying25 dc dd de df rfl (by decide) (.slice cs m ct) m c2 rfl cI ⟨n.heap.size+1,0,none⟩ 1 1 [.int .i64 K,.string N,.int .i64 I,.int .i64 J] rfl rfl bY ?q2 (by decide) ?q3 ?q4 ?q5 _ rfl ?_)
        case q2=>first | exact ⟨rfl,rfl,rfl,rfl⟩ | (intro u hu;simp at hu;rcases hu with rfl | rfl | rfl | rfl <;> rfl)
        case q3=>unfold maxLen;omega
        case q4=>omega
        case q5=>first | omega | (simp;omega)
        intro dH dI dJ cL bZ a3 dg;have cM:=Ax bZ;have cN:=cH.other bb cM;have cO:=(cK.alloc (by omega) (.cells #[.int .i64 K,.string N,.int .i64 I,.int .i64 J] 51)).grown bZ (by simp;omega) (fun q hq=>(bb.lt q hq).1);have ae:=Ab (Aa H _ _ _ _ _ _ az cL cN cO);clear cM cN cO cL bZ a3 dg cI bb cH bY cK bW;go_wp2_with fail
        exact ⟨Aa ae,Aa aX⟩
    ·have bF:cr= []:=by
      rw[List.drop_eq_nil_of_le (by omega)] at ar;generalize bG:([]:List Ae)=bH at ar;cases ar with
      |nil=>rfl
      |@cons c r=>have:=congrArg List.length bG;simp at this
     subst bF;rw[zp] at aF;subst aF;have V:=Ab (Aa bd (by first | rfl | trivial) (show IM (S.map Ps.sx)=none by rw[a2];rfl))
     have dh:=Ab (show (Ct 0 (S.map Ps.sx)).length=S.length by rw[Gc,zv]);have bu: ¬ ((k:Int) < (T.length:Int)):=by omega
     obtain ⟨di,dj,rfl,-⟩:=Af E.nodes.own;obtain ⟨dK,dM,rfl,-⟩:=Af E.places;obtain ⟨P,W,X⟩:=Aa bs;obtain ⟨cE,cF,cG⟩:=Aa aW;have Q:Am F w.heap.size #[.slice none 0 0,.slice none 0 0] 27:=⟨(ag.block _ (by omega)).trans W.out⟩
     have U:Am F (w.heap.size+1) #[.int .i64 0,.int .i64 0] 30:=⟨(ag.block _ (by omega)).trans X.out⟩
     have ap:=P.trans (ag.mono (by omega));have d1:F.cell? ⟨l,1,none⟩=some _:=E.row.cell 1;have d2:F.cell? ⟨l,2,none⟩=some _:=E.row.cell 2;have dk:l≠w.heap.size:=by omega
     have dl:l≠w.heap.size+1:=by omega
     have a6:=Ab E;have a7:=Ab af;generalize (A7 0 (S.map Ps.sx))=M at *;generalize (CW (S.map Ps.sx))=c4 at *;generalize (Ct 0 (S.map Ps.sx))=L at *;clear E af ag P W X a2 ar B;go_wp2_with fail
     obtain ⟨⟨aq,aA⟩,aB,⟨u0,u1⟩,aC⟩:=Gi Q U;have aD:w.heap.size≠w.heap.size+1:=by omega
     have aE:w.heap.size+1≠w.heap.size:=by omega
     obtain ⟨Y,Z,aa⟩:=Gh Q U ap (.slice di M.length dj) (.slice cs S.length ct) (.int .i64 0) (.int .i64 0);have C:=Ab (And.intro Y (And.intro Z aa));clear Y Z aa;go_region_law fail
     all_goals
      clear aq aA aB u0 u1 aC aD aE d1 d2 dk dl;go_wp2_with fail
      exact bodyPost_ret (G5 Tryz.results5 rfl rfl rfl (Aa C).1 (Aa C).2.1) rfl (by rw[Aa V];exact Rb.good (Aa a6) (by rw[Aa dh];exact Aa a7) (by have:=Aa aW;omega) _ _ _ _ rfl (Aa C).2.2)
theorem TZ (t:ByteArray)(x:QR)(d:DP (Ay t).toks x)(w:World):
  Calls Tryz.prog 5 #[.string t] w (Rb (IX t x) w):=by
 by_cases hc:(Ay t).code=0
 ·cases x with
  |ok S=>exact WU t S w hc d
  |bad q=>exact Uv t q w hc d
 ·exact Sa t x w hc
end Go.Proofs.YtffkofkjpckmpaaGreatDoor
