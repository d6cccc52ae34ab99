/-
  HU0, HU, HV, HW. Own work.
-/
import Derived.Test.YtchakjeegneeoaaGreatDoorMXBS
import Derived.Test.YtchakjeegneeoaaGreatDoorMXBD
import Derived.Test.YtchakjeegneeoaaGreatDoorMXBK
import Derived.Test.YtchakjeegneeoaaGreatDoorMXBR
import Derived.Test.YtchakjeegneeoaaGreatDoorMXBI
namespace Go.Proofs.YtchakjeegneeoaaGreatDoor
open Go.RowKit
set_option linter.unusedVariables false
theorem Gl {w w':World}{a f c:Nat}{T:List Af}(g:Mb w a f c T)(j:Below w.heap.size w w')(i:Nat)(d:Int)(k:d=(i:Int))(hi:i < T.length)(s:List UInt8)(b:Bool)(h:see s T[i]=b):
  Calls Tryz.prog 25 #[.pointer (some ⟨a,0,none⟩),.int .i64 d,.string (AB s)] w' fun r l=>r= .returned (.bool b)∧Below w'.heap.size w' l:=by
 subst k;exact Iu g j i hi s b h
theorem Nk.rowL {B b:Nat}{f nd c i j:Value}{w w':World}{N:List Nd}{P:List Int}{k l:List Value}(h:Nk B b nd c w i j w')(C:Gh w B b f N P nd c k l){g:Nat}{cs:Array Value}{t:TypeId}(R:Al w g cs t)(h1:t≠54)(h2:t≠68)(h3:t≠3):Al w' g cs t:=
 ⟨(h.block g R.lt (fun e=>by
  have d:=R.out;have a:=C.row.out;rw[e] at d;rw[d] at a;injection a with a;injection a with _ a;exact h1 a) (Ae R C.nodes.own h2) (Ae R C.places h3)).trans R.out⟩
theorem Gh.others {w w':World}{B c:Nat}{i:Value}{N:List Nd}{P:List Int}{nd g:Value}{d f:List Value}(h:Gh w B c i N P nd g d f)(X:Nat→Prop)(b:∀ q,X q→q≠c∧nd.ownBlock≠some q∧g.ownBlock≠some q∧(∀ j,(a:j < d.length)→d[j].ownBlock≠some q)∧∀ j,(a:j < f.length)→f[j].ownBlock≠some q)(hk:∀ q,q < w.heap.size→¬ X q→w'.heap[q]? =w.heap[q]?):Gh w' B c i N P nd g d f:=
 ⟨⟨(hk c h.row.lt (fun e=>(b _ e).1 rfl)).trans h.row.out⟩,
   h.nodes.upto (fun q hq=>hk q (h.nodes.lts.1 q hq).2 (fun e=>(b q e).2.1 hq)) (fun j a q hq=>hk q (h.nodes.lts.2.1 j a q hq).2 (fun e=>(b q e).2.2.2.1 j a hq)) (fun j a q hq=>hk q (h.nodes.lts.2.2 j a q hq).2 (fun e=>(b q e).2.2.2.2 j a hq)),
   Ac h.places (fun q hq=>hk q (h.places.lt q hq).2 (fun e=>(b q e).2.2.1 hq)),h.apart,h.low⟩
theorem Gh.other {w w':World}{B b:Nat}{c:Value}{N:List Nd}{P:List Int}{nd d:Value}{f g:List Value}(h:Gh w B b c N P nd d f g){v:Value}{m:Nat}{i:List Value}{lo:Nat}(O:w.ownsRow lo 60 4 v m i)(hk:∀ q,q < w.heap.size→v.ownBlock≠some q→w'.heap[q]? =w.heap[q]?):Gh w' B b c N P nd d f g:=
 h.others (fun q=>v.ownBlock=some q) (fun q hq=>⟨fun e=>Ae h.row O (by decide) (by rw[hq,e]),fun e=>Ai O h.nodes.own (by decide) q hq e,fun e=>Ai O h.places (by decide) q hq e,fun j a e=>Ai O (h.nodes.names j (by rw[← h.nodes.len];exact a) a) (by decide) q hq e,fun j a e=>Ai O (h.nodes.kids j (by rw[← h.nodes.lenk];exact a) a) (by decide) q hq e⟩) hk
theorem Gh.row_set {w w':World}{B c:Nat}{d:Value}{N:List Nd}{P:List Int}{nd f:Value}{i k:List Value}(h:Gh w B c d N P nd f i k){g:Nat}{cs:Array Value}{t:TypeId}(R:Al w g cs t)(h1:t≠54)(h2:t≠68)(h3:t≠3)(h4:t≠9)(hk:∀ q,q≠g→w'.heap[q]? =w.heap[q]?):Gh w' B c d N P nd f i k:=
 h.others (fun q=>q=g) (fun q hq=>by
  subst hq;refine ⟨fun e=>?_,Ae R h.nodes.own h2,Ae R h.places h3,fun j b=>Ae R (h.nodes.names j (by rw[← h.nodes.len];exact b) b) h4,fun j b=>Ae R (h.nodes.kids j (by rw[← h.nodes.lenk];exact b) b) h3⟩;have l:=R.out;have a:=h.row.out;rw[e] at l;rw[l] at a;injection a with a;injection a with _ a;exact h1 a) (fun q _ hq=>hk q hq)
theorem Nk.stmL {B a:Nat}{d nd b f g:Value}{w w':World}{N:List Nd}{P:List Int}{i j:List Value}(h:Nk B a nd b w f g w')(C:Gh w B a d N P nd b i j){v:Value}{m:Nat}{c:List Value}{lo:Nat}(O:w.ownsRow lo 60 4 v m c):w'.ownsRow lo 60 4 v m c:=
 Ac O (fun q hq=>h.block q (O.lt q hq).2 (fun e=>Ae C.row O (by decide) (by rw[hq,e])) (fun e=>Ai O C.nodes.own (by decide) q hq e) (fun e=>Ai O C.places (by decide) q hq e))
theorem Lt {i:Func}{a u:Tmp}(h:i.results= #[.cell a 60,.tmp u]){tmps:Array Value}{w:World}{b:Nat}{c d f g e:Value}(j:tmps.getD a undef= .pointer (some ⟨b,0,none⟩))(k:tmps.getD u undef=e)
  (R:Al w b #[c,d,f,g] 60):
  (results i tmps).run Tryz.prog w= .ok (.tuple #[.agg #[c,d,f,g],e]) w:=by
 rw[Z4] at j k;have g0:w.cell? ⟨b,0,none⟩=some c:=R.cell 0;have g1:w.cell? ⟨b,1,none⟩=some d:=R.cell 1;have g2:w.cell? ⟨b,2,none⟩=some f:=R.cell 2;have g3:w.cell? ⟨b,3,none⟩=some g:=R.cell 3;simp[results,h,j,k,go_sem,g0,g1,g2,g3]
structure Rt (B nb:Nat) (tv nd pl:Value) (w:World) (N:List Nd) (P:List Int) (nd' pl':Value) (nv kv:List Value) (v0 v1 v2 v3:Value) (w':World):Prop where
 C:Gh w' B nb tv N P nd' pl' nv kv
 K:Nk B nb nd pl w nd' pl' w'
 R:Al w' w.heap.size #[.int .i64 0,.string ⟨#[]⟩,.int .i64 0,.int .i64 0] 60
 S:Al w' (w.heap.size+1) #[v0,v1,v2,v3] 60
theorem Rt.start {B b:Nat}{c nd a:Value}{w:World}{N:List Nd}{P:List Int}{d f:List Value}(C:Gh w B b c N P nd a d f):Rt B b c nd a w N P nd a d f (.int .i64 0) (.string ⟨#[]⟩) (.int .i64 (-1)) (.int .i64 (-1)) ((w.alloc (.cells #[.int .i64 0,.string ⟨#[]⟩,.int .i64 0,.int .i64 0] 60)).alloc (.cells #[.int .i64 0,.string ⟨#[]⟩,.int .i64 (-1),.int .i64 (-1)] 60)):=by
 have hB:B≤w.heap.size:=by have:=C.row.lt;have:=C.low;omega
 have g:=(Below.refl w.heap.size w).alloc NLN (.cells #[.int .i64 0,.string ⟨#[]⟩,.int .i64 0,.int .i64 0] 60);have h:=g.alloc g.size (.cells #[.int .i64 0,.string ⟨#[]⟩,.int .i64 (-1),.int .i64 (-1)] 60);have S0:=Al.new (w.alloc (.cells #[.int .i64 0,.string ⟨#[]⟩,.int .i64 0,.int .i64 0] 60)) #[.int .i64 0,.string ⟨#[]⟩,.int .i64 (-1),.int .i64 (-1)] 60;simp only[World.size_alloc] at S0;exact ⟨C.below h,Nk.of_all h hB,(Al.new w #[.int .i64 0,.string ⟨#[]⟩,.int .i64 0,.int .i64 0] 60).alloc _,S0⟩
theorem Rt.below {B c:Nat}{d nd f g i:Value}{w b w2:World}{N:List Nd}{P:List Int}{j k:List Value}{l m n o:Value}(h:Rt B c d nd f w N P g i j k l m n o b)(a:Below b.heap.size b w2):Rt B c d nd f w N P g i j k l m n o w2:=
 ⟨h.C.below a,h.K.trans (Nk.of_all a (by have:=h.C.row.lt;have:=h.C.low;omega)),h.R.after a NLN,h.S.after a NLN⟩
theorem Rt.call {B a:Nat}{b nd g i j c d:Value}{w k w2:World}{N l:List Nd}{P m:List Int}{t u n o:List Value}{p q r s:Value}(h:Rt B a b nd g w N P i j t u p q r s k)(v:Gh w2 B a b l m c d n o)(f:Nk B a i j k c d w2):Rt B a b nd g w l m c d n o p q r s w2:=
 ⟨v,h.K.trans f,f.rowL h.C h.R (by decide) (by decide) (by decide),f.rowL h.C h.S (by decide) (by decide) (by decide)⟩
theorem Nk.setNew {B a:Nat}{nd b c d:Value}{w w':World}(h:Nk B a nd b w c d w')(hB:B≤w.heap.size){p:Addr}(hp:w.heap.size≤p.block)(u:Value):Nk B a nd b w c d (w'.setCell p u):=
 ⟨h.low.setCell (zD hB hp) u,fun k h1 h2 h3 h4=>(heap_setCell_other w' p k u (by omega)).trans (h.block k h1 h2 h3 h4),h.newN,h.newP⟩
theorem Rt.set {B b:Nat}{c nd d f g:Value}{w a:World}{N:List Nd}{P:List Int}{i k:List Value}{l m n o r s t v:Value}(h:Rt B b c nd d w N P f g i k l m n o a)(hB:B≤w.heap.size)(j:Nat)(u:Value)(x: #[l,m,n,o].setIfInBounds j u= #[r,s,t,v]):Rt B b c nd d w N P f g i k r s t v (a.setCell ⟨w.heap.size+1,j,none⟩ u):=
 ⟨h.C.row_set h.S (by decide) (by decide) (by decide) (by decide) (fun q hq=>heap_setCell_other a ⟨w.heap.size+1,j,none⟩ q u hq),h.K.setNew hB (zJ _) u,h.R.setFar (p:=⟨w.heap.size+1,j,none⟩) (by simp) u,by have:=h.S.set j u;rw[x] at this;exact this⟩
theorem Rt.row4 {B b:Nat}{k nd l c m:Value}{w a:World}{N:List Nd}{P:List Int}{n o:List Value}{d f g i:Value}(h:Rt B b k nd l w N P c m n o d f g i a):a.cell? ⟨w.heap.size+1,0,none⟩=some d∧a.cell? ⟨w.heap.size+1,1,none⟩=some f∧a.cell? ⟨w.heap.size+1,2,none⟩=some g∧a.cell? ⟨w.heap.size+1,3,none⟩=some i∧(∀ j,a.frozen? ⟨w.heap.size+1,j,none⟩=false)∧(∀ j,a.frozen? ⟨w.heap.size,j,none⟩=false)∧a.cell? ⟨b,1,none⟩=some c∧(a.cell? ⟨w.heap.size,0,none⟩=some (.int .i64 0)∧a.cell? ⟨w.heap.size,1,none⟩=some (.string ⟨#[]⟩)∧a.cell? ⟨w.heap.size,2,none⟩=some (.int .i64 0)∧a.cell? ⟨w.heap.size,3,none⟩=some (.int .i64 0)):=
 ⟨h.S.cell 0,h.S.cell 1,h.S.cell 2,h.S.cell 3,fun j=>h.S.frozen j,fun j=>h.R.frozen j,h.C.row.cell 1,h.R.cell 0,h.R.cell 1,h.R.cell 2,h.R.cell 3⟩
theorem Rt.done {B g:Nat}{k nd l i j:Value}{w f:World}{N:List Nd}{P:List Int}{m n:List Value}{a b c d:Value}(h:Rt B g k nd l w N P i j m n a b c d f)(hB:B≤w.heap.size):Al (CH f w.heap.size a b c d) w.heap.size #[a,b,c,d] 60∧Gh (CH f w.heap.size a b c d) B g k N P i j m n∧Nk B g nd l w i j (CH f w.heap.size a b c d):=
 ⟨AD h.R a b c d,h.C.row_set h.R (by decide) (by decide) (by decide) (by decide) (fun q hq=>Jr f w.heap.size q a b c d hq),(((h.K.setNew hB (p:=⟨w.heap.size,0,none⟩) NLN a).setNew hB (p:=⟨w.heap.size,1,none⟩) NLN b).setNew hB (p:=⟨w.heap.size,2,none⟩) NLN c).setNew hB (p:=⟨w.heap.size,3,none⟩) NLN d⟩
theorem WY {T:List Af}{lo hi k:Nat}(a:hi≤T.length)(h1:lo≤k)(h2:k < hi):T[k]'(by omega)∈GD T lo hi:=by
 have e:(GD T lo hi)[k - lo]'(by rw[Fe a];omega)=T[k]'(by omega):=by
  simp only[GD,List.getElem_drop,List.getElem_take]
  congr 1
  omega
 rw[← e];exact zO _
set_option maxRecDepth 100000
set_option maxHeartbeats 6400000
def StM (B nb:Nat) (tv:Value) (s:Sx) (N:List Nd) (P:List Int) (nd pl:Value) (w:World) (r:Ending) (w':World):Prop:=
 r= .returned (.tuple #[.agg #[.int .i64 s.kind,.string s.name,.int .i64 (Gp s.cond N.length),.int .i64 (Gp s.grant (N.length+AH s.cond))],.int .i64 (mx (JZ s.cond) (JZ s.grant))])∧∃ nd' pl' nv' kv',Gh w' B nb tv (N ++Gv s.cond N.length ++Gv s.grant (N.length+AH s.cond)) (P ++Mw s.cond ++Mw s.grant) nd' pl' nv' kv'∧Nk B nb nd pl w nd' pl' w'
def FrI (f n:Nat) (w4:World) (vf:Value) (wr:World):Prop:=
 ∃ k:Nat,f≤k∧k≤n∧vf= .int .i64 (k:Int)∧Below w4.heap.size w4 wr
theorem Mx {w:World}{B d f c:Nat}{T:List Af}{N:List Nd}{P:List Int}{nd v:Value}{W X:List Value}(x:Mb w d f c T)(ag:f < B)(ah:T.length≤4000)(Y:∀ t∈T,t.text.size≤maxLen)(j:Gh w B d (.slice (some ⟨f,0,none⟩) T.length c) N P nd v W X){lo hi:Nat}(y:hi≤T.length){t u:Af}(hs:GD T lo hi= [t,u])(ht:see AJ t=true)(z:see Ga u=true):
  Calls Tryz.prog 28 #[.pointer (some ⟨d,0,none⟩),.int .i64 (lo:Int),.int .i64 (hi:Int)] w (StM B d (.slice (some ⟨f,0,none⟩) T.length c) ⟨(t.at_:Int),3,AB [],none,none⟩ N P nd v w):=by
 obtain ⟨A,k,C,ai⟩:=AT y hs;obtain ⟨Z,g5,g6,g7⟩:=AT y C;have l:=Ab x;have aa:=Ab (show see DK T[lo]=false from by rw[k];exact Ah ht (by decide));have ab:=Ab (show see Bb T[lo]=false from by rw[k];exact Ah ht (by decide));have ac:=Ab (show see Bz T[lo+1]=false from by rw[g5];exact Ah z (by decide));clear x k C g5 g6 hs ht z Y;have hB:B≤w.heap.size:=by have:=j.row.lt;have:=j.low;omega
 have S0:=Rt.start j;have g:Below w.heap.size w ((w.alloc (.cells #[.int .i64 0,.string ⟨#[]⟩,.int .i64 0,.int .i64 0] 60)).alloc (.cells #[.int .i64 0,.string ⟨#[]⟩,.int .i64 (-1),.int .i64 (-1)] 60)):=((Below.refl w.heap.size w).alloc NLN _).alloc (by simp) _;go_enter Tryz.func28,Tryz.ntmps28
 go_wp2_with fail
 refine (Gl (Aa l) g (lo) _ (by omega) A DK false (Aa aa)).mono ?_;rintro r w2 ⟨rfl,m⟩;have h:=g.trans (m.mono g.size);dsimp only;go_wp2_with fail
 refine (Gl (Aa l) h (lo) _ (by omega) A Bb false (Aa ab)).mono ?_;rintro r ad ⟨rfl,n⟩;have E:=h.trans (n.mono h.size);dsimp only;have o:=(S0.below m).below n;obtain ⟨F,H,I,J,i,a,sn,K,L,M,O⟩:=o.row4;have ae:=i 0;clear H I J i a sn K L M O;clear S0 m n g h;go_wp2_with fail
 have q:=o.set hB 0 (.int .i64 3) rfl;have b:=E.setCell (p:=⟨w.heap.size+1,0,none⟩) (zJ _) (.int .i64 3);generalize ad.setCell ⟨w.heap.size+1,0,none⟩ (.int .i64 3)=aj at q b ⊢;clear o F ae E;refine (Gl (Aa l) b (lo+1) _ (by omega) Z Bz false (Aa ac)).mono ?_;rintro r ak ⟨rfl,s⟩;have al:=b.trans (s.mono b.size);dsimp only;have Q:=q.below s;clear q s b;obtain ⟨F,H,I,J,i,a,sn,K,L,M,O⟩:=Q.row4;have ao:=a 0;have ap:=a 1;have aq:=a 2;have ar:=a 3;clear i a sn;obtain ⟨R,S,U⟩:=Q.done hB;have V:=Ab (And.intro S U);have af:=Ab R;clear S U R;go_wp2_with fail
 refine bodyPost_ret (Lt Tryz.results28 rfl rfl (Aa af)) rfl ?_;exact ⟨rfl,_,_,_,_,by simp only[Gv,Mw,zr];exact (Aa V).1,(Aa V).2⟩
theorem Lu {w:World}{B b h c:Nat}{T:List Af}{N:List Nd}{P:List Int}{nd I:Value}{Z aa:List Value}(ab:Mb w b h c T)(ac:h < B)(aE:T.length≤4000)(ad:∀ t∈T,t.text.size≤maxLen)(J:Gh w B b (.slice (some ⟨h,0,none⟩) T.length c) N P nd I Z aa){lo hi:Nat}(L:hi≤T.length)(aV:N.length+4001≤65535)(hp:P.length+4001≤65535){t u:Af}{d:List Af}{q:Pt}(hs:GD T lo hi=t ::u ::d)(ht:see AJ t=true)(ae:see Bz u=true)(af:G 0 d q):
  Calls Tryz.prog 28 #[.pointer (some ⟨b,0,none⟩),.int .i64 (lo:Int),.int .i64 (hi:Int)] w (StM B b (.slice (some ⟨h,0,none⟩) T.length c) ⟨(t.at_:Int),3,AB [],none,some q.ex⟩ N P nd I w):=by
 obtain ⟨ag,M,ah,aW⟩:=AT L hs;obtain ⟨aF,g5,g6,g7⟩:=AT L ah;have k:=Ab ab;have aG:=Ab (show see DK T[lo]=false from by rw[M];exact Ah ht (by decide));have aH:=Ab (show see Bb T[lo]=false from by rw[M];exact Ah ht (by decide));have aI:=Ab (show see Bz T[lo+1]=true from by rw[g5];exact ae);have hq:q.ex.cnt≤4000:=by have h1:=af.cnt;have h2:=Fe (lo:=lo+1+1) L;rw[g6] at h2;omega
 have hd:=Bf q.ex;have O:=Ab (Iv ac aE ad _ (lo+1+1) hi q NLN (by omega) (by omega) (by rw[g6];exact af):Qf B b h c T (lo+1+1) hi q);unfold Qf at O;rw[show (((lo+1+1 :Nat)):Int)=(lo:Int)+1+1 from by omega] at O;clear ab M ah g5 g6 hs ht ae ad;have hB:B≤w.heap.size:=by have:=J.row.lt;have:=J.low;omega
 have S0:=Rt.start J;have l:Below w.heap.size w ((w.alloc (.cells #[.int .i64 0,.string ⟨#[]⟩,.int .i64 0,.int .i64 0] 60)).alloc (.cells #[.int .i64 0,.string ⟨#[]⟩,.int .i64 (-1),.int .i64 (-1)] 60)):=((Below.refl w.heap.size w).alloc NLN _).alloc (by simp) _;go_enter Tryz.func28,Tryz.ntmps28
 go_wp2_with fail
 refine (Gl (Aa k) l (lo) _ (by omega) ag DK false (Aa aG)).mono ?_;rintro r w2 ⟨rfl,Q⟩;have m:=l.trans (Q.mono l.size);dsimp only;go_wp2_with fail
 refine (Gl (Aa k) m (lo) _ (by omega) ag Bb false (Aa aH)).mono ?_;rintro r aJ ⟨rfl,R⟩;have ai:=m.trans (R.mono m.size);dsimp only;have S:=(S0.below Q).below R;obtain ⟨n,o,s,v,f,a,sn,y,z,A,E⟩:=S.row4;have aK:=f 0;clear o s v f a sn y z A E;clear S0 Q R l m;go_wp2_with fail
 have U:=S.set hB 0 (.int .i64 3) rfl;have i:=ai.setCell (p:=⟨w.heap.size+1,0,none⟩) (zJ _) (.int .i64 3);generalize aJ.setCell ⟨w.heap.size+1,0,none⟩ (.int .i64 3)=aX at U i ⊢;clear S n aK ai;refine (Gl (Aa k) i (lo+1) _ (by omega) aF Bz true (Aa aI)).mono ?_;rintro r aL ⟨rfl,V⟩;have aM:=i.trans (V.mono i.size);dsimp only;have j:=U.below V;clear U V i;go_wp2_with fail
 have aj:=(Aa k).of j.C j.K.low ac;refine (Aa O N P nd I Z aa aL aj j.C (by omega) (by omega)).mono ?_;rintro r ak ⟨rfl,W,aY,aZ,a0,al,ao,_⟩;rw[Am];have S6:=j.call al ao;obtain ⟨g,X⟩:∃ x:Int,x=((N.length+q.ex.cnt - 1 :Nat):Int):=⟨_,rfl⟩
 rw[← X];have ap:=Ab X;have aq:=S6.set hB 3 (.int .i64 g) rfl;clear aj al ao X j aM;obtain ⟨n,o,s,v,f,a,sn,y,z,A,E⟩:=S6.row4;have aN:=f 3;clear n o s f a sn y z A E;have F:=aq.below (Gi _);obtain ⟨aO,aP,aQ,ar,_,_,au,_,_,_,_⟩:=F.row4;have Y:=Ab (MT q.ex N F.C.nodes (by omega));rw[← Aa ap] at Y;dsimp only;have aR:(ak.setCell ⟨w.heap.size+1,3,none⟩ (.int .i64 g)).drew.cell? ⟨b,1,none⟩=some W∧(ak.setCell ⟨w.heap.size+1,3,none⟩ (.int .i64 g)).drew.cell? ⟨w.heap.size+1,3,none⟩=some (.int .i64 g):=⟨au,ar⟩
 clear aO aP aQ ar au;go_wp2_with fail
 go_region_held3 (fun w'=>w'.cell? ⟨b,1,none⟩=some W∧w'.cell? ⟨w.heap.size+1,3,none⟩=some (.int .i64 g)) (first | assumption | go_keep) ((go_at_call 48;refine (Aa Y).mono ?_;rintro r av ⟨rfl,aw⟩;have H:=F.below aw;have aS:av.cell? ⟨b,1,none⟩=some W∧av.cell? ⟨w.heap.size+1,3,none⟩=some (.int .i64 g):=⟨H.row4.2.2.2.2.2.2.1,H.row4.2.2.2.1⟩))
 clear aw aq S6 F aN v Y aR aS;have ax:(0 :Int) < Cj q.ex:=by omega
 generalize ay:Cj q.ex=az at hd ax ⊢;have aT:=Ab ay;clear ay;obtain ⟨n,o,s,v,f,a,sn,y,z,A,E⟩:=H.row4;have a1:=a 0;have a2:=a 1;have a3:=a 2;have a4:=a 3;clear f a sn;obtain ⟨aA,aB,aC⟩:=H.done hB;have aD:=Ab (And.intro aB aC);have aU:=Ab aA;clear aB aC aA;go_wp2_with fail
 refine bodyPost_ret (Lt Tryz.results28 rfl rfl (Aa aU)) rfl ?_;exact ⟨by rw[Aa ap];simp only[Gp,AH,JZ,Aa aT,zZ];rw[show mx 0 az=az from if_pos ax];rfl,_,_,_,_,by simp only[Gv,Mw,AH,zr,zZ];exact (Aa aD).1,(Aa aD).2⟩
theorem Yi {w:World}{B g i c:Nat}{T:List Af}{N:List Nd}{P:List Int}{nd H:Value}{Y Z:List Value}(aa:Mb w g i c T)(I:i < B)(av:T.length≤4000)(ab:∀ t∈T,t.text.size≤maxLen)(J:Gh w B g (.slice (some ⟨i,0,none⟩) T.length c) N P nd H Y Z){lo hi:Nat}(y:hi≤T.length)(aV:N.length+4001≤65535)(hp:P.length+4001≤65535){t n e:Af}{d:List Af}{q:Pt}(hs:GD T lo hi=t ::n ::e ::d)(ht:see DK t=true)(ac:G 0 d q):
  Calls Tryz.prog 28 #[.pointer (some ⟨g,0,none⟩),.int .i64 (lo:Int),.int .i64 (hi:Int)] w (StM B g (.slice (some ⟨i,0,none⟩) T.length c) ⟨(t.at_:Int),1,n.text,some q.ex,none⟩ N P nd H w):=by
 obtain ⟨aw,ad,ae,aW⟩:=AT y hs;obtain ⟨ax,g5,g6,g7⟩:=AT y ae;obtain ⟨aX,ay,L,aY⟩:=AT y g6;have M:=Ab aa;have az:=Ab (show see DK T[lo]=true from by rw[ad];exact ht);have aA:=Ab g5;have hq:q.ex.cnt≤4000:=by have h1:=ac.cnt;have h2:=Fe (lo:=lo+1+1+1) y;rw[L] at h2;omega
 have hd:=Bf q.ex;have O:=Ab (Iv I av ab _ (lo+1+1+1) hi q NLN (by omega) (by omega) (by rw[L];exact ac):Qf B g i c T (lo+1+1+1) hi q);unfold Qf at O;rw[show (((lo+1+1+1 :Nat)):Int)=(lo:Int)+3 from by omega] at O;clear aa ad ae g5 g6 ay L hs ht ab;have hB:B≤w.heap.size:=by have:=J.row.lt;have:=J.low;omega
 have S0:=Rt.start J;have z:Below w.heap.size w ((w.alloc (.cells #[.int .i64 0,.string ⟨#[]⟩,.int .i64 0,.int .i64 0] 60)).alloc (.cells #[.int .i64 0,.string ⟨#[]⟩,.int .i64 (-1),.int .i64 (-1)] 60)):=((Below.refl w.heap.size w).alloc NLN _).alloc (by simp) _;go_enter Tryz.func28,Tryz.ntmps28
 go_wp2_with fail
 refine (Gl (Aa M) z (lo) _ (by omega) aw DK true (Aa az)).mono ?_;rintro r w2 ⟨rfl,Q⟩;have aB:=z.trans (Q.mono z.size);dsimp only;have R:=S0.below Q;have j:=R.set hB 0 (.int .i64 1) rfl;have f:=j.set hB 1 (.string n.text) rfl;have S:=(Aa M).of j.C j.K.low I;obtain ⟨_,_,q2,_⟩:=S.at4 (lo+1) ax;rw[Aa aA] at q2;have aC:=S.at0;have aZ:(lo:Int)+1 < (T.length:Int):=by omega
 obtain ⟨k,l,A,m,b,a,sn,o,p,s,u⟩:=R.row4;have aD:=b 0;clear l A m b a sn o p s u;obtain ⟨aE,aF,aG,aH,af,_,_,_,_,_,_⟩:=j.row4;have aI:=af 1;clear S0 Q af z;go_wp2_with fail
 clear k aD aE aF aG aH aI q2 aC S j R;generalize (w2.setCell ⟨w.heap.size+1,0,none⟩ (.int .i64 1)).setCell ⟨w.heap.size+1,1,none⟩ (.string n.text)=aJ at f ⊢;have ag:=(Aa M).of f.C f.K.low I;refine (Aa O N P nd H Y Z aJ ag f.C (by omega) (by omega)).mono ?_;rintro r ah ⟨rfl,aK,a0,a1,a2,ai,aj,_⟩;rw[Am];have S6:=f.call ai aj;obtain ⟨E,U⟩:∃ x:Int,x=((N.length+q.ex.cnt - 1 :Nat):Int):=⟨_,rfl⟩
 rw[← U];have ak:=Ab U;have aL:=S6.set hB 2 (.int .i64 E) rfl;clear ag ai aj U f aB;obtain ⟨k,l,A,m,b,a,sn,o,p,s,u⟩:=S6.row4;have a3:=b 2;clear k l m b a sn o p s u;have V:=aL.below (Gi _);obtain ⟨a4,a5,a6,a7,_,_,a8,_,_,_,_⟩:=V.row4;have F:=Ab (MT q.ex N V.C.nodes (by omega));rw[← Aa ak] at F;dsimp only;have aM:(Tryz.f48.name== "runtime.NumGoroutine")=false:=by kernel_rfl
 have aN: Tryz.f48.body.isNone=false:=by kernel_rfl
 generalize al:Cj q.ex=W at hd F;have aO:=Ab al;clear al;have aP:=Ab ((Aa F).mono (R':=fun e w'=>∃ v,e= .returned v∧(v= .int .i64 W∧Below (ah.setCell ⟨w.heap.size+1,2,none⟩ (.int .i64 E)).drew.heap.size (ah.setCell ⟨w.heap.size+1,2,none⟩ (.int .i64 E)).drew w')) (fun r w' h=>⟨_,h.1,rfl,h.2⟩));clear F;go_wp2_with fail
 go_region_law (refine BO rfl 48 _ Tryz.func48 aM aN _ _ _ rfl aK (.int .i64 E) rfl rfl _ (Aa aP) ?_;rintro a9 ba ⟨rfl,ao⟩;have X:=V.below ao;obtain ⟨k,l,A,m,b,a,sn,o,p,s,u⟩:=X.row4;have aQ:=a 0;have aR:=a 1;have aS:=a 2;have aT:=a 3;clear b a sn)
 all_goals
  obtain ⟨ap,aq,ar⟩:=X.done hB;have au:=Ab (And.intro aq ar);have aU:=Ab ap;clear aq ar ap X ao k l A m o p s u aQ aR aS aT;go_wp2_with fail
  refine bodyPost_ret (Lt Tryz.results28 rfl rfl (Aa aU)) rfl ?_;exact ⟨by rw[Aa ak];simp only[Gp,JZ,Aa aO];rw[show mx W 0=W from if_neg (by omega)];rfl,_,_,_,_,by simp only[Gv,Mw,zr];exact (Aa au).1,(Aa au).2⟩
theorem Of {w:World}{B i Q c:Nat}{T:List Af}{N:List Nd}{P:List Int}{nd aB:Value}{aC aD:List Value}(a5:Mb w i Q c T)(R:Q < B)(a6:T.length≤4000)(aE:∀ t∈T,t.text.size≤maxLen)(aF:Gh w B i (.slice (some ⟨Q,0,none⟩) T.length c) N P nd aB aC aD){lo hi:Nat}(S:hi≤T.length)(b6:N.length+8001≤65535)(hp:P.length+8001≤65535){t a:Af}{cs:List Af}{q:Pt}{aG:List Af}{aH:Option Ex}(hs:GD T lo hi=t ::(cs ++a ::aG))(bJ:(∃ u,aG= [u]∧see Ga u=true∧aH=none)∨∃ u d p,aG=u ::d∧see Bz u=true∧G 0 d p∧aH=some p.ex)(ht:see Bb t=true)(aj:G 0 cs q)(a7:see By a=true):
  Calls Tryz.prog 28 #[.pointer (some ⟨i,0,none⟩),.int .i64 (lo:Int),.int .i64 (hi:Int)] w (StM B i (.slice (some ⟨Q,0,none⟩) T.length c) ⟨(t.at_:Int),2,AB [],some q.ex,aH⟩ N P nd aB w):=by
 obtain ⟨a8,aI,a9,b7⟩:=AT S hs;obtain ⟨g1,g2,g3⟩:=I2 S a9 (by omega);obtain ⟨ba,g5,g6,g7⟩:=AT S g2;have U:=Ab a5;have bK:=Ab (show see DK T[lo]=false from by rw[aI];exact Ah ht (by decide));have bL:=Ab (show see Bb T[lo]=true from by rw[aI];exact ht);have aJ:=Ab (show ∀ k,(h1:lo+1≤k)→(h2:k < lo+1+cs.length)→∃ h:k < T.length,see By T[k]=false from fun k h1 h2=>⟨by omega,by
  have:=WY (T:=T) (lo:=lo+1) (hi:=lo+1+cs.length) (k:=k) (by omega) h1 h2;rw[g1] at this;exact (aj.free _ this).2⟩)
 have aK:=Ab (show ∃ h:lo+1+cs.length < T.length,see By T[lo+1+cs.length]=true from ⟨ba,by rw[g5];exact a7⟩);have b8:q.ex.cnt≤4000:=by have h1:=aj.cnt;have h2:=Fe (lo:=lo+1) (hi:=lo+1+cs.length) (T:=T) (by omega);rw[g1] at h2;omega
 have bM:=Bf q.ex;obtain ⟨f,bb⟩:∃ f,f=lo+1+cs.length:=⟨_,rfl⟩
 clear g5;rw[← bb] at g1 g2 g3 g6 g7 ba aJ aK;have b9:lo+1≤f:=by omega
 clear bb;have aL:=Ab (Iv R a6 aE _ (lo+1) f q NLN (by omega) (by omega) (by rw[g1];exact aj):Qf B i Q c T (lo+1) f q);unfold Qf at aL;rw[show (((lo+1 :Nat)):Int)=(lo:Int)+1 from by omega] at aL;rcases bJ with ⟨u,rfl,ac,rfl⟩ | ⟨u,d,p,rfl,ac,aM,rfl⟩
 case' inl=>
  obtain ⟨bc,ad,ae,bN⟩:=AT S g6;have bd:=Ab (show see Bz T[f+1]=false from by rw[ad];exact Ah ac (by decide));clear ad ae ac
 case' inr=>
  obtain ⟨bc,ad,ae,bN⟩:=AT S g6;have bd:=Ab (show see Bz T[f+1]=true from by rw[ad];exact ac);have ca:p.ex.cnt≤4000:=by have h1:=aM.cnt;have h2:=Fe (lo:=f+1+1) S;rw[ae] at h2;omega
  have bO:=Bf p.ex;have ak:=Ab (Iv R a6 aE _ (f+1+1) hi p NLN (by omega) (by omega) (by rw[ae];exact aM):Qf B i Q c T (f+1+1) hi p);unfold Qf at ak;rw[show (((f+1+1 :Nat)):Int)=(f:Int)+1+1 from by omega] at ak;clear ad ae ac aM
 all_goals
  clear a5 aI a9 g1 g2 g6 hs ht aE aj a7;have hB:B≤w.heap.size:=by have:=aF.row.lt;have:=aF.low;omega
  have S0:=Rt.start aF;have al:Below w.heap.size w ((w.alloc (.cells #[.int .i64 0,.string ⟨#[]⟩,.int .i64 0,.int .i64 0] 60)).alloc (.cells #[.int .i64 0,.string ⟨#[]⟩,.int .i64 (-1),.int .i64 (-1)] 60)):=((Below.refl w.heap.size w).alloc NLN _).alloc (by simp) _;go_enter Tryz.func28,Tryz.ntmps28
  go_wp2_with fail
  refine (Gl (Aa U) al (lo) _ (by omega) a8 DK false (Aa bK)).mono ?_;rintro r w2 ⟨rfl,aN⟩;have ao:=al.trans (aN.mono al.size);dsimp only;go_wp2_with fail
  refine (Gl (Aa U) ao (lo) _ (by omega) a8 Bb true (Aa bL)).mono ?_;rintro r bP ⟨rfl,aO⟩;have bQ:=ao.trans (aO.mono ao.size);dsimp only;have aP:=(S0.below aN).below aO;obtain ⟨j,l,m,n,g,b,sn,o,s,v,y⟩:=aP.row4;have bR:=g 0;clear l m n g b sn o s v y;clear S0 aN aO al ao;go_wp2_with fail
  have z:=aP.set hB 0 (.int .i64 2) rfl;generalize bP.setCell ⟨w.heap.size+1,0,none⟩ (.int .i64 2)=V at z ⊢;clear aP j bR bQ;have bf:=Ab (show FrI (lo+1) f V (.int .i64 ((lo:Int)+1)) V from ⟨lo+1,NLN,by omega,by rw[zd];rfl,BRN⟩);have bg:=Ab z;have aQ:=Ab ((Aa U).of z.C z.K.low R);clear z;go_loopw [10] (fun aR wr=>FrI (lo+1) f V aR wr) (fun aR _=>f - (intOf aR).toNat)
  case atStart=>exact Aa bf
  case round=>
   clear bf;obtain ⟨k,h1,h2,rfl,W⟩:=hrel;by_cases hk:k < f
   ·obtain ⟨aS,af⟩:=Aa aJ k h1 hk;have aT:=Ab af;have bS:=Ab (Gg f k hk);have bT:=Ab (fun (w':World) (bU:Below V.heap.size V w')=>show FrI (lo+1) f V (.int .i64 ((k:Int)+1)) w' from ⟨k+1,by omega,by omega,by rw[zd];rfl,bU⟩);clear af hk;go_wp2_with fail
    refine (Iu (Aa aQ) W k aS By false (Aa aT)).mono ?_;rintro r bh ⟨rfl,ap⟩;dsimp only;go_wp2_with fail
    exact ⟨Aa bT _ (W.trans (ap.mono W.size)),Aa bS⟩
   ·have e:k=f:=by omega
    subst e;obtain ⟨aS,af⟩:=Aa aK;have aT:=Ab af;have z:=(Aa bg).below W;clear af hk aJ aK bg;go_wp2_with fail
    refine (Iu (Aa aQ) W k aS By true (Aa aT)).mono ?_;rintro r bh ⟨rfl,ap⟩;have ag:=z.below ap;clear z ap aQ W;dsimp only;go_wp2_with fail
    have bi:=(Aa U).of ag.C ag.K.low R;refine (Aa aL N P nd aB aC aD bh bi ag.C (by omega) (by omega)).mono ?_;rintro r bj ⟨rfl,aq,bV,bW,bX,bk,bl,_⟩;rw[Am];have S6:=ag.call bk bl;obtain ⟨X,aU⟩:∃ x:Int,x=((N.length+q.ex.cnt - 1 :Nat):Int):=⟨_,rfl⟩
    rw[← aU];have ar:=Ab aU;have bm:=S6.set hB 2 (.int .i64 X) rfl;clear bi bk bl aU ag;obtain ⟨j,l,m,n,g,b,sn,o,s,v,y⟩:=S6.row4;have bY:=g 2;clear j l n g b sn o s v y;have au:=bm.below (Gi _);obtain ⟨aV,aW,av,aw,_,_,ah,_,_,_,_⟩:=au.row4;have aX:=Ab (MT q.ex N au.C.nodes (by omega));rw[← Aa ar] at aX;dsimp only;have bZ:(bj.setCell ⟨w.heap.size+1,2,none⟩ (.int .i64 X)).drew.cell? ⟨i,1,none⟩=some aq∧(bj.setCell ⟨w.heap.size+1,2,none⟩ (.int .i64 X)).drew.cell? ⟨w.heap.size+1,2,none⟩=some (.int .i64 X):=⟨ah,av⟩
    clear aV aW av aw ah;go_wp2_with fail
    go_region_held3 (fun w'=>w'.cell? ⟨i,1,none⟩=some aq∧w'.cell? ⟨w.heap.size+1,2,none⟩=some (.int .i64 X)) (first | assumption | go_keep) ((go_at_call 48;refine (Aa aX).mono ?_;rintro r ax ⟨rfl,bn⟩;have Y:=au.below bn;have b0:ax.cell? ⟨i,1,none⟩=some aq∧ax.cell? ⟨w.heap.size+1,2,none⟩=some (.int .i64 X):=⟨Y.row4.2.2.2.2.2.2.1,Y.row4.2.2.1⟩))
    clear bn bm S6 au bY m aX bZ b0;generalize bo:Cj q.ex=Z at bM ⊢;have aY:=Ab bo;clear bo;have bp:=(Aa U).of Y.C Y.K.low R;have bq:=Below.refl ax.heap.size ax;go_wp2_with fail
    refine (Gl bp bq (k+1) _ (by omega) bc Bz _ (Aa bd)).mono ?_;rintro r b1 ⟨rfl,br⟩;have A:=Y.below br;clear bp bq Y br
    first
    |have cb:=ak
     obtain ⟨ay,E⟩:∃ M,M=N ++BH q.ex N.length:=⟨_,rfl⟩
     obtain ⟨bs,F⟩:∃ M,M=P ++DG q.ex:=⟨_,rfl⟩
     rw[← E,← F] at A;have H:ay.length=N.length+q.ex.cnt:=by rw[E,zA,Am]
     have b2:bs.length=P.length+q.ex.cnt:=by rw[F,zA,Bn]
     have bt:=Ab (And.intro E (And.intro F H));clear E F;dsimp only;go_wp2_with fail
     have bu:=(Aa U).of A.C A.K.low R;refine (Aa ak ay bs aq bV (aC ++bW) (aD ++bX) b1 bu A.C (by omega) (by omega)).mono ?_;rintro r bv ⟨rfl,aZ,cc,cd,ce,bw,bx,_⟩;rw[Am];have a0:=A.call bw bx;obtain ⟨aa,a1⟩:∃ x:Int,x=((ay.length+p.ex.cnt - 1 :Nat):Int):=⟨_,rfl⟩
     rw[← a1];have a2:=Ab a1;have bz:=a0.set hB 3 (.int .i64 aa) rfl;clear bu bw bx a1 A;obtain ⟨j,l,m,n,g,b,sn,o,s,v,y⟩:=a0.row4;have b3:=g 3;clear j l m g b sn o s v y;have az:=bz.below (Gi _);obtain ⟨aV,aW,av,aw,_,_,ah,_,_,_,_⟩:=az.row4;have a3:=Ab (MT p.ex ay az.C.nodes (by omega));rw[← Aa a2] at a3;dsimp only;have b4:(bv.setCell ⟨w.heap.size+1,3,none⟩ (.int .i64 aa)).drew.cell? ⟨i,1,none⟩=some aZ∧(bv.setCell ⟨w.heap.size+1,3,none⟩ (.int .i64 aa)).drew.cell? ⟨w.heap.size+1,3,none⟩=some (.int .i64 aa):=⟨ah,aw⟩
     clear aV aW av aw ah;go_wp2_with fail
     go_region_held3 (fun w'=>w'.cell? ⟨i,1,none⟩=some aZ∧w'.cell? ⟨w.heap.size+1,3,none⟩=some (.int .i64 aa)) (first | assumption | go_keep) ((go_at_call 48;refine (Aa a3).mono ?_;rintro r bA ⟨rfl,bB⟩;have ab:=az.below bB;have b5:bA.cell? ⟨i,1,none⟩=some aZ∧bA.cell? ⟨w.heap.size+1,3,none⟩=some (.int .i64 aa):=⟨ab.row4.2.2.2.2.2.2.1,ab.row4.2.2.2.1⟩))
     clear bB bz a0 az b3 n a3 b4 b5;clear H b2;generalize bC:Cj p.ex=aA at bO ⊢;have bD:=Ab bC;clear bC;by_cases bE:Z < aA
     ·have a4:=Ab (show mx Z aA=aA from if_pos bE);obtain ⟨j,l,m,n,g,b,sn,o,s,v,y⟩:=ab.row4;have bF:=b 0;have bG:=b 1;have bH:=b 2;have bI:=b 3;clear g b sn;obtain ⟨I,J,L⟩:=ab.done hB;have O:=Ab (And.intro J L);have ai:=Ab I;clear J L I;go_wp2_with fail
      refine bodyPost_ret (Lt Tryz.results28 rfl rfl (Aa ai)) rfl ?_;obtain ⟨E,F,H⟩:=Aa bt;exact ⟨by rw[Aa ar,Aa a2,H];simp only[Gp,AH,JZ,Aa aY,Aa bD];rw[Aa a4];rfl,_,_,_,_,by simp only[Gv,Mw,AH];rw[← E,← F,← H];exact (Aa O).1,(Aa O).2⟩
     ·have a4:=Ab (show mx Z aA=Z from if_neg bE);obtain ⟨j,l,m,n,g,b,sn,o,s,v,y⟩:=ab.row4;have bF:=b 0;have bG:=b 1;have bH:=b 2;have bI:=b 3;clear g b sn;obtain ⟨I,J,L⟩:=ab.done hB;have O:=Ab (And.intro J L);have ai:=Ab I;clear J L I;go_wp2_with fail
      refine bodyPost_ret (Lt Tryz.results28 rfl rfl (Aa ai)) rfl ?_;obtain ⟨E,F,H⟩:=Aa bt;exact ⟨by rw[Aa ar,Aa a2,H];simp only[Gp,AH,JZ,Aa aY,Aa bD];rw[Aa a4];rfl,_,_,_,_,by simp only[Gv,Mw,AH];rw[← E,← F,← H];exact (Aa O).1,(Aa O).2⟩
    |skip
     dsimp only;obtain ⟨j,l,m,n,g,b,sn,o,s,v,y⟩:=A.row4;have bF:=b 0;have bG:=b 1;have bH:=b 2;have bI:=b 3;clear g b sn;obtain ⟨I,J,L⟩:=A.done hB;have O:=Ab (And.intro J L);have ai:=Ab I;clear J L I;go_wp2_with fail
     refine bodyPost_ret (Lt Tryz.results28 rfl rfl (Aa ai)) rfl ?_;exact ⟨by rw[Aa ar];simp only[Gp,JZ,Aa aY];rw[show mx Z 0=Z from if_neg (by omega)];rfl,_,_,_,_,by simp only[Gv,Mw,zr];exact (Aa O).1,(Aa O).2⟩
theorem Yj {w:World}{B l m c:Nat}{T:List Af}{N:List Nd}{P:List Int}{nd o:Value}{u v:List Value}(a:Mb w l m c T)(b:m < B)(d:T.length≤4000)(f:∀ t∈T,t.text.size≤maxLen)(i:Gh w B l (.slice (some ⟨m,0,none⟩) T.length c) N P nd o u v){lo hi:Nat}(j:hi≤T.length)(p:N.length+8001≤65535)(hp:P.length+8001≤65535){s:Ps}(sc:SC (GD T lo hi) s):
  Calls Tryz.prog 28 #[.pointer (some ⟨l,0,none⟩),.int .i64 (lo:Int),.int .i64 (hi:Int)] w (StM B l (.slice (some ⟨m,0,none⟩) T.length c) s.sx N P nd o w):=by
 generalize k:GD T lo hi=sp at sc;cases sc with
 |let_ h x he g=>exact Yi a b d f i j (by omega) (by omega) k h g
 |when h q r n=>
  cases n with
  |deny hd=>exact Of a b d f i j p hp k (.inl ⟨_,rfl,hd,rfl⟩) h q r
  |grant hd g=>exact Of a b d f i j p hp k (.inr ⟨_,_,_,rfl,hd,g,rfl⟩) h q r
 |else_ h n=>
  cases n with
  |deny hd=>exact Mx a b d f i j k h hd
  |grant hd g=>exact Lu a b d f i j (by omega) (by omega) k h hd g
def pfW (W:World) (b:Nat) (p0 p1 f0 f1:Value):World:=((((W.setCell ⟨b,0,none⟩ p0).setCell ⟨b,1,none⟩ p1).setCell ⟨b+1,0,none⟩ f0).setCell ⟨b+1,1,none⟩ f1).drew
theorem Yk (W:World)(b:Nat)(a c d f:Value)(q:Nat)(h1:q≠b)(h2:q≠b+1):(pfW W b a c d f).heap[q]? =W.heap[q]? :=by
 show ((((W.setCell ⟨b,0,none⟩ a).setCell ⟨b,1,none⟩ c).setCell ⟨b+1,0,none⟩ d).setCell ⟨b+1,1,none⟩ f).heap[q]? =_;rw[heap_setCell_other _ _ q _ h2,heap_setCell_other _ _ q _ h2,heap_setCell_other _ _ q _ h1,heap_setCell_other _ _ q _ h1]
theorem GG {W w:World}{h i j k:Value}(R:Al W w.heap.size #[h,i] 36)(F:Al W (w.heap.size+1) #[j,k] 28)(B:Below w.heap.size w W)(a b c d:Value):Al (pfW W w.heap.size a b c d) w.heap.size #[a,b] 36∧Al (pfW W w.heap.size a b c d) (w.heap.size+1) #[c,d] 28∧Below w.heap.size w (pfW W w.heap.size a b c d):=by
 have f:w.heap.size≠w.heap.size+1:=by omega
 have g:w.heap.size+1≠w.heap.size:=by omega
 have h1:=(((R.set 0 a).set 1 b).setFar (p:=⟨w.heap.size+1,0,none⟩) f c).setFar (p:=⟨w.heap.size+1,1,none⟩) f d;have h2:=(((F.setFar (p:=⟨w.heap.size,0,none⟩) g a).setFar (p:=⟨w.heap.size,1,none⟩) g b).set 0 c).set 1 d;have h3:=((((B.setCell (p:=⟨w.heap.size,0,none⟩) NLN a).setCell (p:=⟨w.heap.size,1,none⟩) NLN b).setCell (p:=⟨w.heap.size+1,0,none⟩) (zJ _) c).setCell (p:=⟨w.heap.size+1,1,none⟩) (zJ _) d).drew;exact ⟨⟨h1.out⟩,⟨h2.out⟩,h3⟩
theorem UQ.fault (cd at_:Int){w w':World}(h:Below w.heap.size w w'):UQ ([], [], [],cd,at_) w (.returned (.tuple #[.agg #[.slice none 0 0,.slice none 0 0],.slice none 0 0,.agg #[.int .i64 cd,.int .i64 at_]])) w':=
 ⟨⟨_,_, [], [],_,rfl,Bt.nil _ _,World.ownsRow_nil _ _ _ _,World.ownsRow_nil _ _ _ _,(fun q hq=>by cases hq)⟩,h⟩
theorem DP.suf {ts:List Af}{x:QR}(d:DP ts x):∀ q,x= .bad q→∃ c,ts=c ++q:=by
 induction d with
 |bad d=>intro q h;cases h;obtain ⟨c,hc,_⟩:=d.suf;exact ⟨c,hc⟩
 |@more ts r s x d hk d2 a=>
  intro q h;cases x with
  |ok T=>cases h
  |bad p=>
   cases h;obtain ⟨c,hc,_⟩:=d.suf;obtain ⟨c2,b⟩:=a q rfl;exact ⟨c ++c2,by rw[hc,zC,← b];rfl⟩
 |last=>intro q h;cases h
 |over d hk=>intro q h;cases h;obtain ⟨c,hc,_⟩:=d.suf;exact ⟨c,hc⟩
theorem GH {W:World}{b:Nat}{a c d f:Value}(R:Al W b #[a,c] 36)(F:Al W (b+1) #[d,f] 28):(W.cell? ⟨b,0,none⟩=some a∧W.cell? ⟨b,1,none⟩=some c)∧(∀ j,W.frozen? ⟨b,j,none⟩=false)∧(W.cell? ⟨b+1,0,none⟩=some d∧W.cell? ⟨b+1,1,none⟩=some f)∧∀ j,W.frozen? ⟨b+1,j,none⟩=false:=
 ⟨⟨R.cell 0,R.cell 1⟩,fun j=>R.frozen j,⟨F.cell 0,F.cell 1⟩,fun j=>F.frozen j⟩
theorem Og {W:World}{b:Nat}{a c:Value}(F:Al W b #[a,c] 28):W.cell? ⟨b,0,none⟩=some a∧W.cell? ⟨b,1,none⟩=some c:=⟨F.cell 0,F.cell 1⟩
theorem TJ (t:ByteArray)(x:QR)(w:World)(hc:(AI t).code≠0):
  Calls Tryz.prog 10 #[.string t] w (UQ (Ik t x) w):=by
 rw[J5 hc];have f:=Ab (fun W=>Lv t W);generalize AI t=R at f hc ⊢;obtain ⟨T,cd,at_⟩:=R;dsimp only at f hc ⊢;have c:=((Below.refl w.heap.size w).alloc NLN (.cells #[.slice none 0 0,.slice none 0 0] 36)).alloc (by simp) (.cells #[.int .i64 0,.int .i64 0] 28);have g:=(Al.new w #[.slice none 0 0,.slice none 0 0] 36).alloc (.cells #[.int .i64 0,.int .i64 0] 28);have d:=Al.new (w.alloc (.cells #[.slice none 0 0,.slice none 0 0] 36)) #[.int .i64 0,.int .i64 0] 28;simp only[World.size_alloc] at d;go_enter Tryz.func10,Tryz.ntmps10
 go_wp2_with fail
 generalize k:(w.alloc (.cells #[.slice none 0 0,.slice none 0 0] 36)).alloc (.cells #[.int .i64 0,.int .i64 0] 28)=W at c g d ⊢;have s:W.heap.size=w.heap.size+2:=by rw[← k];simp
 clear k;refine (Aa f W).mono ?_;rintro r a ⟨L,M,rfl,N,O,b⟩;have l:=c.trans (b.mono c.size);have u:=g.after b NLN;have v:=d.after b NLN;have P:w.heap.size+2≤a.heap.size:=by have:=b.size;omega
 clear c g d b s;have Q:(cd != 0)=true:=by simpa using hc
 clear hc;have m:=Al.new a #[.int .i64 cd,.int .i64 at_] 28;have h:=u.alloc (.cells #[.int .i64 cd,.int .i64 at_] 28);have i:=v.alloc (.cells #[.int .i64 cd,.int .i64 at_] 28);have n:=l.alloc l.size (.cells #[.int .i64 cd,.int .i64 at_] 28);dsimp only;go_wp2_with fail
 generalize a.alloc (.cells #[.int .i64 cd,.int .i64 at_] 28)=S at m h i n ⊢;obtain ⟨y,a1⟩:=Og m;obtain ⟨⟨z,A⟩,B,⟨C,E⟩,F⟩:=GH h i;have H:w.heap.size≠w.heap.size+1:=by omega
 have I:w.heap.size+1≠w.heap.size:=by omega
 have J:a.heap.size≠w.heap.size:=by omega
 have K:a.heap.size≠w.heap.size+1:=by omega
 obtain ⟨o,p,q⟩:=GG h i n (.slice none 0 0) (.slice none 0 0) (.int .i64 cd) (.int .i64 at_);have j:=Ab (And.intro o (And.intro p q));clear o p q;go_region_law fail
 all_goals
  clear y a1 z A B C E F H I J K;go_wp2_with fail
  exact bodyPost_ret (Is Tryz.results10 rfl rfl rfl (Aa j).1 (Aa j).2.1) rfl (UQ.fault _ _ (Aa j).2.2)
theorem VH (t:ByteArray)(q:List Af)(w:World)(hc:(AI t).code=0)(d:DP (AI t).toks (.bad q)):
  Calls Tryz.prog 10 #[.string t] w (UQ (Ik t (.bad q)) w):=by
 rw[MP hc];have z:=Ab (fun u V=>(I3 t u V).1);have ao:=Ab (fun u V=>(I3 t u V).2);have y:=Ab (Il t);have S:=Ab (fun W=>Lv t W);have U:=Ab (d.run (Aa z));obtain ⟨cs,l⟩:=d.suf q rfl;clear d;generalize AI t=R at S hc z y U ao l ⊢;obtain ⟨T,cd,at_⟩:=R;dsimp only at S hc z y U ao l ⊢;subst hc;have ap:unX T (QR.bad q).res=((cs.length:Nat):Int):=by
  rw[l];simp[QR.res,unX]
 have aq:=Ab ap;clear ap;cases q with
 |nil=>
  have e1:(DV t.size ([]:List Af)).at_=t.size:=rfl;rw[e1];have av:T.length=cs.length:=by rw[l];simp
  have aw: ¬ ((cs.length:Int) < (T.length:Int)):=by omega
  have ax:T.length≤4000:=Aa y;clear l e1 av;have h:=((Below.refl w.heap.size w).alloc NLN (.cells #[.slice none 0 0,.slice none 0 0] 36)).alloc (by simp) (.cells #[.int .i64 0,.int .i64 0] 28);have m:=(Al.new w #[.slice none 0 0,.slice none 0 0] 36).alloc (.cells #[.int .i64 0,.int .i64 0] 28);have i:=Al.new (w.alloc (.cells #[.slice none 0 0,.slice none 0 0] 36)) #[.int .i64 0,.int .i64 0] 28;simp only[World.size_alloc] at i;go_enter Tryz.func10,Tryz.ntmps10
  go_wp2_with fail
  generalize A:(w.alloc (.cells #[.slice none 0 0,.slice none 0 0] 36)).alloc (.cells #[.int .i64 0,.int .i64 0] 28)=W at h m i ⊢;have X:W.heap.size=w.heap.size+2:=by rw[← A];simp
  clear A;refine (Aa S W).mono ?_;rintro r a ⟨Y,Z,rfl,B,ay,c⟩;have C:=h.trans (c.mono h.size);have E:=m.after c NLN;have F:=i.after c NLN;have az:w.heap.size+2≤a.heap.size:=by have:=c.size;omega
  clear h m i c X;have H:=Al.new a #[.int .i64 0,.int .i64 (at_:Int)] 28;have n:=E.alloc (.cells #[.int .i64 0,.int .i64 (at_:Int)] 28);have o:=F.alloc (.cells #[.int .i64 0,.int .i64 (at_:Int)] 28);have j:=C.alloc C.size (.cells #[.int .i64 0,.int .i64 (at_:Int)] 28);have k:=World.ownsRow.alloc B (.cells #[.int .i64 0,.int .i64 (at_:Int)] 28);have I:(a.alloc (.cells #[.int .i64 0,.int .i64 (at_:Int)] 28)).heap.size=a.heap.size+1:=by simp
  dsimp only;go_wp2_with fail
  generalize a.alloc (.cells #[.int .i64 0,.int .i64 (at_:Int)] 28)=aa at H n o j k I ⊢;refine (Lq T Y Z _ aa k (Aa z) (Aa y) _ (Aa U)).mono ?_;rintro r f ⟨rfl,b⟩;have J:=n.after b NLN;have K:=o.after b NLN;have p:=j.trans (b.mono j.size);have L:=Au k b NLN;have aA:a.heap.size+1≤f.heap.size:=by have:=b.size;omega
  clear I E F n o j k H b B;rw[Aa aq];have M:=Al.new f #[.int .i64 4,.int .i64 (t.size:Int)] 28;have s:=J.alloc (.cells #[.int .i64 4,.int .i64 (t.size:Int)] 28);have v:=K.alloc (.cells #[.int .i64 4,.int .i64 (t.size:Int)] 28);have N:=p.alloc p.size (.cells #[.int .i64 4,.int .i64 (t.size:Int)] 28);dsimp only;go_wp2_with fail
  generalize f.alloc (.cells #[.int .i64 4,.int .i64 (t.size:Int)] 28)=aB at M s v N ⊢;clear J K p L;obtain ⟨ab,a1⟩:=Og M;obtain ⟨⟨ac,ad⟩,ae,⟨af,ag⟩,ah⟩:=GH s v;have ai:w.heap.size≠w.heap.size+1:=by omega
  have aj:w.heap.size+1≠w.heap.size:=by omega
  have ak:f.heap.size≠w.heap.size:=by omega
  have al:f.heap.size≠w.heap.size+1:=by omega
  obtain ⟨O,P,Q⟩:=GG s v N (.slice none 0 0) (.slice none 0 0) (.int .i64 4) (.int .i64 (t.size:Int));have x:=Ab (And.intro O (And.intro P Q));clear O P Q;go_region_law fail
  all_goals
   clear ab a1 ac ad ae af ag ah ai aj ak al;go_wp2_with fail
   exact bodyPost_ret (Is Tryz.results10 rfl rfl rfl (Aa x).1 (Aa x).2.1) rfl (UQ.fault _ _ (Aa x).2.2)
 |cons u q=>
  have e1:(DV t.size (u ::q)).at_=u.at_:=rfl;rw[e1];have aC:cs.length < T.length:=by rw[l];simp
  have aD:=Ab (show T[cs.length]=u by simp[l]);have aw:(cs.length:Int) < (T.length:Int):=by omega
  have ax:T.length≤4000:=Aa y;clear l e1;have h:=((Below.refl w.heap.size w).alloc NLN (.cells #[.slice none 0 0,.slice none 0 0] 36)).alloc (by simp) (.cells #[.int .i64 0,.int .i64 0] 28);have m:=(Al.new w #[.slice none 0 0,.slice none 0 0] 36).alloc (.cells #[.int .i64 0,.int .i64 0] 28);have i:=Al.new (w.alloc (.cells #[.slice none 0 0,.slice none 0 0] 36)) #[.int .i64 0,.int .i64 0] 28;simp only[World.size_alloc] at i;go_enter Tryz.func10,Tryz.ntmps10
  go_wp2_with fail
  generalize A:(w.alloc (.cells #[.slice none 0 0,.slice none 0 0] 36)).alloc (.cells #[.int .i64 0,.int .i64 0] 28)=W at h m i ⊢;have X:W.heap.size=w.heap.size+2:=by rw[← A];simp
  clear A;refine (Aa S W).mono ?_;rintro r a ⟨Y,Z,rfl,B,ay,c⟩;have C:=h.trans (c.mono h.size);have E:=m.after c NLN;have F:=i.after c NLN;have az:w.heap.size+2≤a.heap.size:=by have:=c.size;omega
  clear h m i c X;have H:=Al.new a #[.int .i64 0,.int .i64 (at_:Int)] 28;have n:=E.alloc (.cells #[.int .i64 0,.int .i64 (at_:Int)] 28);have o:=F.alloc (.cells #[.int .i64 0,.int .i64 (at_:Int)] 28);have j:=C.alloc C.size (.cells #[.int .i64 0,.int .i64 (at_:Int)] 28);have k:=World.ownsRow.alloc B (.cells #[.int .i64 0,.int .i64 (at_:Int)] 28);have I:(a.alloc (.cells #[.int .i64 0,.int .i64 (at_:Int)] 28)).heap.size=a.heap.size+1:=by simp
  dsimp only;go_wp2_with fail
  generalize a.alloc (.cells #[.int .i64 0,.int .i64 (at_:Int)] 28)=aa at H n o j k I ⊢;refine (Lq T Y Z _ aa k (Aa z) (Aa y) _ (Aa U)).mono ?_;rintro r f ⟨rfl,b⟩;have J:=n.after b NLN;have K:=o.after b NLN;have p:=j.trans (b.mono j.size);have L:=Au k b NLN;have aA:a.heap.size+1≤f.heap.size:=by have:=b.size;omega
  clear I E F n o j k H b B;rw[Aa aq];obtain ⟨aE,aF,ar,hx⟩:=Ad L;simp only[Value.slice.injEq] at ar;obtain ⟨rfl,_,rfl⟩:=ar;obtain ⟨g,rfl,aG,au⟩:=hx (by omega);have aH:=(L.lt g rfl).2;have c3:=au _ _ (Ka T cs.length aC).2.2.2;rw[Aa aD] at c3;have M:=Al.new f #[.int .i64 4,.int .i64 (u.at_:Int)] 28;have s:=J.alloc (.cells #[.int .i64 4,.int .i64 (u.at_:Int)] 28);have v:=K.alloc (.cells #[.int .i64 4,.int .i64 (u.at_:Int)] 28);have N:=p.alloc p.size (.cells #[.int .i64 4,.int .i64 (u.at_:Int)] 28);clear au hx;dsimp only;go_wp2_with fail
  generalize f.alloc (.cells #[.int .i64 4,.int .i64 (u.at_:Int)] 28)=aB at M s v N ⊢;clear J K p L c3;obtain ⟨ab,a1⟩:=Og M;obtain ⟨⟨ac,ad⟩,ae,⟨af,ag⟩,ah⟩:=GH s v;have ai:w.heap.size≠w.heap.size+1:=by omega
  have aj:w.heap.size+1≠w.heap.size:=by omega
  have ak:f.heap.size≠w.heap.size:=by omega
  have al:f.heap.size≠w.heap.size+1:=by omega
  obtain ⟨O,P,Q⟩:=GG s v N (.slice none 0 0) (.slice none 0 0) (.int .i64 4) (.int .i64 (u.at_:Int));have x:=Ab (And.intro O (And.intro P Q));clear O P Q;go_region_law fail
  all_goals
   clear ab a1 ac ad ae af ag ah ai aj ak al;go_wp2_with fail
   exact bodyPost_ret (Is Tryz.results10 rfl rfl rfl (Aa x).1 (Aa x).2.1) rfl (UQ.fault _ _ (Aa x).2.2)
theorem UQ.good {w a w':World}{b:Nat}{h nd c d:Value}{M:List Nd}{Q:List Int}{L:List St}{f g:List Value}(C:Gh a b b h M Q nd c f g)(O:a.ownsRow b 60 4 d L.length (Cy L))(o:w.heap.size+1 < b)(i j k l:Value)(m:w'=pfW a w.heap.size i j k l)(n:Below w.heap.size w w'):UQ (M,L,Q,0,0) w (.returned (.tuple #[.agg #[nd,d],c,.agg #[.int .i64 0,.int .i64 0]])) w':=by
 have kp:∀ q,b≤q→q < a.heap.size→w'.heap[q]? =a.heap[q]? :=fun q h1 _=>by rw[m];exact Yk _ _ _ _ _ _ q (by omega) (by omega)
 exact ⟨⟨nd,c,f,g,d,rfl,(C.nodes.blocks kp).low (by omega),DO (Ac O (fun q hq=>kp q (O.lt q hq).1 (O.lt q hq).2)) (by omega),DO (Ac C.places (fun q hq=>kp q (C.places.lt q hq).1 (C.places.lt q hq).2)) (by omega),C.apart⟩,n⟩
def WsI (T:List Af) (o:Option Int) (W4:World) (vi:Value) (wr:World):Prop:=
 ∃ k:Nat,k≤T.length∧vi= .int .i64 (k:Int)∧o=(Mu (DN (T.drop k))).head?∧Below W4.heap.size W4 wr
theorem AaD (i:Nat)(a:List ByteArray)(L:List (Nat × List ByteArray)):(Mu ((i,a) ::L)).head? =if 64 < (MO a).length then some (i:Int) else (Mu L).head?:=by
 rw[Mu,List.filterMap_cons];dsimp only;split
 ·rename_i h;rw[if_neg (by intro h2;rw[if_pos h2] at h;cases h)];rfl
 ·rename_i j h;by_cases h2: 64 < (MO a).length
  ·rw[if_pos h2] at h ⊢;injection h with h;rw[← h];rfl
  ·rw[if_neg h2] at h;cases h
def PsI (T:List Af) (S:List Ps) (g ca nb:Nat) (W4:World) (vs vl:Value) (wr:World):Prop:=
 ∃ (k:Nat) (S1 S2:List Ps) (nd pl:Value) (nv kv:List Value),k≤T.length∧vl= .int .i64 (k:Int)∧S=S1 ++S2∧PC (T.drop k) S2∧JO (S.map Ps.sx)=JO (S2.map Ps.sx)∧wr.ownsRow nb 60 4 vs S1.length (Cy (Cu 0 (S1.map Ps.sx)))∧Gh wr nb nb (.slice (some ⟨g,0,none⟩) T.length ca) (AK 0 (S1.map Ps.sx)) (Dm (S1.map Ps.sx)) nd pl nv kv∧Below nb W4 wr
theorem SC.at_eq {c:List Af}{s:Ps}(h:SC c s):∃ t r,c=t ::r∧t.at_=s.at_:=by
 cases h with
 |let_=>exact ⟨_,_,rfl,rfl⟩
 |when=>exact ⟨_,_,rfl,rfl⟩
 |else_=>exact ⟨_,_,rfl,rfl⟩
theorem TM {T:List Af}{k:Nat}{c r:List Af}(h:T.drop k=c ++r):GD T k (k+c.length)=c:=by
 rw[GD,List.drop_take,h];simp
theorem Yl (t:ByteArray)(S:List Ps)(w:World)(hc:(AI t).code=0)(d:DP (AI t).toks (.ok S)):
  Calls Tryz.prog 10 #[.string t] w (UQ (Ik t (.ok S)) w):=by
 obtain ⟨bY,bZ⟩:∃ bY,bY=Ik t (.ok S):=⟨_,rfl⟩
 have aK:=Ab (fun i h=>J3 (S:=S) (i:=i) hc h);have ba:=Ab (fun i h1 h2=>J4 (S:=S) (i:=i) hc h1 h2);have bb:=Ab (fun h1 h2=>Q8 (S:=S) hc h1 h2);rw[← bZ] at aK ba bb ⊢;clear bZ;have aL:=Ab (fun u f=>(I3 t u f).1);have aM:=Ab (fun u f=>(I3 t u f).2);have aN:=Ab (Il t);have bc:=Ab (fun W=>Lv t W);have bd:=Ab (d.run (Aa aL));have ad:=d.cut S rfl;have b0:=d.ne S rfl;clear d;generalize AI t=R at bc hc aL aN bd aM ad ⊢;obtain ⟨T,cd,at_⟩:=R;dsimp only at bc hc aL aN bd aM ad ⊢;subst hc;have cO:=Ab (show unX T (QR.ok S).res= -1 from rfl);have dl: 0 < T.length:=by
  cases ad with
  |nil=>exact absurd rfl b0
  |cons sc f av=>simp;omega
 have b1:=Ab ad;have b2:=Ab ad.sets;have b3:=Ab ad.cnt;have b5:T.length≤4000:=Aa aN;clear ad b0;have aO:=((Below.refl w.heap.size w).alloc NLN (.cells #[.slice none 0 0,.slice none 0 0] 36)).alloc (by simp) (.cells #[.int .i64 0,.int .i64 0] 28);have bf:=(Al.new w #[.slice none 0 0,.slice none 0 0] 36).alloc (.cells #[.int .i64 0,.int .i64 0] 28);have aP:=Al.new (w.alloc (.cells #[.slice none 0 0,.slice none 0 0] 36)) #[.int .i64 0,.int .i64 0] 28;simp only[World.size_alloc] at aP;go_enter Tryz.func10,Tryz.ntmps10
 go_wp2_with fail
 generalize b6:(w.alloc (.cells #[.slice none 0 0,.slice none 0 0] 36)).alloc (.cells #[.int .i64 0,.int .i64 0] 28)=W at aO bf aP ⊢;have cP:W.heap.size=w.heap.size+2:=by rw[← b6];simp
 clear b6;refine (Aa bc W).mono ?_;rintro r ah ⟨cQ,o,rfl,b7,dm,aw⟩;have O:=aO.trans (aw.mono aO.size);have b8:=bf.after aw NLN;have b9:=aP.after aw NLN;have ca:w.heap.size+2≤ah.heap.size:=by have:=aw.size;omega
 clear aO bf aP aw cP;have cb:=Al.new ah #[.int .i64 0,.int .i64 (at_:Int)] 28;have bg:=b8.alloc (.cells #[.int .i64 0,.int .i64 (at_:Int)] 28);have bh:=b9.alloc (.cells #[.int .i64 0,.int .i64 (at_:Int)] 28);have aQ:=O.alloc O.size (.cells #[.int .i64 0,.int .i64 (at_:Int)] 28);have aR:=World.ownsRow.alloc b7 (.cells #[.int .i64 0,.int .i64 (at_:Int)] 28);have cc:(ah.alloc (.cells #[.int .i64 0,.int .i64 (at_:Int)] 28)).heap.size=ah.heap.size+1:=by simp
 dsimp only;go_wp2_with fail
 generalize ah.alloc (.cells #[.int .i64 0,.int .i64 (at_:Int)] 28)=cS at cb bg bh aQ aR cc ⊢;refine (Lq T cQ o _ cS aR (Aa aL) (Aa aN) _ (Aa bd)).mono ?_;rintro r z ⟨rfl,ai⟩;have ce:=bg.after ai NLN;have cf:=bh.after ai NLN;have bi:=aQ.trans (ai.mono aQ.size);have bj:=Au aR ai NLN;have cg:ah.heap.size+1≤z.heap.size:=by have:=ai.size;omega
 clear cc b8 b9 bg bh aQ aR cb ai b7;rw[Aa cO];obtain ⟨dn,dp,ch,hx⟩:=Ad bj;simp only[Value.slice.injEq] at ch;obtain ⟨rfl,_,rfl⟩:=ch;obtain ⟨g,rfl,ci,cj⟩:=hx (by omega);have aS:=(bj.lt g rfl).2;have bk:=bi.alloc bi.size (.cells #[.slice (some ⟨g,0,none⟩) T.length o,.slice none 0 0,.slice none 0 0] 54);have b4:=(Below.refl z.heap.size z).alloc NLN (.cells #[.slice (some ⟨g,0,none⟩) T.length o,.slice none 0 0,.slice none 0 0] 54);have aT:=Al.new z #[.slice (some ⟨g,0,none⟩) T.length o,.slice none 0 0,.slice none 0 0] 54;have bl:=ce.after b4 NLN;have bm:=cf.after b4 NLN;have bn:Mb (z.alloc (.cells #[.slice (some ⟨g,0,none⟩) T.length o,.slice none 0 0,.slice none 0 0] 54)) z.heap.size g o T:=⟨aT.cell 0,fun j u f=>(b4.cell (p:=⟨g,j,none⟩) aS).trans (cj j u f),aT.lt,zM aS b4.size⟩
 have aU:Gh (z.alloc (.cells #[.slice (some ⟨g,0,none⟩) T.length o,.slice none 0 0,.slice none 0 0] 54)) z.heap.size z.heap.size (.slice (some ⟨g,0,none⟩) T.length o) [] [] (.slice none 0 0) (.slice none 0 0) [] []:=⟨aT,Bt.nil _ _,World.ownsRow_nil _ _ _ _,(fun q hq=>by cases hq),NLN⟩
 have bo:=Ab (And.intro aS ci);clear cj hx b4 aT ce cf bi bj ci;dsimp only;go_wp2_with fail
 generalize z.alloc (.cells #[.slice (some ⟨g,0,none⟩) T.length o,.slice none 0 0,.slice none 0 0] 54)=A at bk bl bm bn aU ⊢;generalize z.heap.size=l at *;have bp:Hid ((Mu (S.flatMap Ps.sets)).head? =(Mu (DN T)).head?):=Ab (by rw[Aa b2]);generalize (Mu (S.flatMap Ps.sets)).head? =ae at bp aK ba bb;have ax:=Ab (show WsI T ae A (.int .i64 0) A from ⟨0,by omega,rfl,Aa bp,BRN⟩);have aj:=Ab bn;have ck:=Ab aU;have bq:=Ab (And.intro bk (And.intro bl bm));have aV:=Ab (And.intro ca (And.intro cg aU.row.lt));clear bn aU bk bl bm bp b2 ca cg aS;go_loopw [10,50] (fun _ br wr=>WsI T ae A br wr) (fun _ br _=>T.length - (intOf br).toNat)
 case atStart=>exact Aa ax
 case round=>
  clear ax;obtain ⟨k,hk,rfl,ak,b⟩:=hrel;by_cases B:k < T.length
  ·have bs:(k:Int) < (T.length:Int):=by omega
   have aW:=Ab (Gg T.length k B);have y:=zg B;cases al:see Cp T[k]
   ·have bt:=Ab al;have af:=Ab (fun (w':World) (bu:Below A.heap.size A w')=>show WsI T ae A (.int .i64 ((k:Int)+1)) w' from ⟨k+1,by omega,by rw[zd];rfl,by rw[ak,y,AP al],bu⟩);clear y ak al;go_wp2_with fail
    refine (Iu (Aa aj) b k B Cp false (Aa bt)).mono ?_;rintro r n ⟨rfl,aX⟩;dsimp only;go_wp2_with fail
    exact ⟨Aa af _ (b.trans (aX.mono b.size)),Aa aW⟩
   ·have bt:=Ab al;have aY:ae=if 64 < (MO (Lg (T.drop (k+1)))).length then some (T[k].at_:Int) else (Mu (DN (T.drop (k+1)))).head?:=by
     rw[ak,y,DN,if_pos al,AaD]
    have bv:=Ab aY;have bw:=Ab (Rl (T.drop (k+1)) (fun x hx=>Aa aM x (List.mem_of_mem_drop hx)));have cT:(Lg (T.drop (k+1))).length≤4000:=by
     have:=(Aa bw).2;rw[zp] at this;omega
    clear y ak al aY;go_wp2_with fail
    refine (Iu (Aa aj) b k B Cp true (Aa bt)).mono ?_;rintro r n ⟨rfl,aX⟩;have aZ:=b.trans (aX.mono b.size);dsimp only;go_wp2_with fail
    refine (Mc ((Aa aj).below aZ) b5 k B).mono ?_;rintro r dq ⟨⟨dr,c7,rfl,bx⟩,cl⟩;have bz:=aZ.trans (cl.mono aZ.size);generalize Lg (T.drop (k+1))=M at bv bw cT bx ⊢;have cm:=Bg.of_owns bx (fun j ao=>by rw[Cv M j ao];exact (Aa bw).1 _ (zO _));clear bx aX cl;dsimp only;go_wp2_with fail
    refine (Kl _ _ _ _ _ cm (by omega)).mono ?_;rintro r cn ⟨ds,dt,a0,rfl,cU,co,bA⟩;have ay:=bz.trans (co.mono bz.size);have cp:=Ab (VA bA);have du:a0.length≤4000:=by have:=bA.len;omega
    clear bA cm cU co aZ b bz;dsimp only;by_cases az: 64 < a0.length
    ·have a:(64 :Int) < (a0.length:Int):=by omega
     have X:=Ab (Aa aK _ (show ae=some (T[k].at_:Int) by rw[Aa bv,← Aa cp,if_pos az]));obtain ⟨_,_,_,c3⟩:=((Aa aj).below ay).at4 k B;generalize (T[k].at_:Int)=bB at c3 X;obtain ⟨P,Y,Z⟩:=Aa bq;have U:=Y.after ay NLN;have V:=Z.after ay NLN;have ap:=P.trans (ay.mono P.size);clear P Y Z;go_wp2_with fail
     obtain ⟨⟨aq,aA⟩,aB,⟨u0,u1⟩,aC⟩:=GH U V;have aD:w.heap.size≠w.heap.size+1:=by omega
     have aE:w.heap.size+1≠w.heap.size:=by omega
     obtain ⟨aa,ab,ac⟩:=GG U V ap (.slice none 0 0) (.slice none 0 0) (.int .i64 5) (.int .i64 bB);have C:=Ab (And.intro aa (And.intro ab ac));clear aa ab ac;go_region_law fail
     all_goals
      clear aq aA aB u0 u1 aC aD aE c3;go_wp2_with fail
      exact bodyPost_ret (Is Tryz.results10 rfl rfl rfl (Aa C).1 (Aa C).2.1) rfl (by rw[Aa X];exact UQ.fault _ _ (Aa C).2.2)
    ·have a: ¬ ((64 :Int) < (a0.length:Int)):=by omega
     have af:=Ab (show WsI T ae A (.int .i64 ((k:Int)+1)) cn from ⟨k+1,by omega,by rw[zd];rfl,by rw[Aa bv,← Aa cp,if_neg az],ay⟩);go_wp2_with fail
     exact ⟨Aa af,Aa aW⟩
  ·have aY:ae=none:=by rw[ak,List.drop_eq_nil_of_le (by omega)];rfl
   subst aY;have bs: ¬ ((k:Int) < (T.length:Int)):=by omega
   clear aK ak;have ax:=Ab (show PsI T S g o l A (.slice none 0 0) (.int .i64 0) wr from ⟨0, [],S,_,_,_,_,by omega,rfl,rfl,Aa b1,rfl,World.ownsRow_nil _ _ _ _,(Aa ck).below b,b.mono (by have:=(Aa aV).2.2;omega)⟩);clear b ck b1 B;go_wp2_with fail
   go_loopw [11,12] (fun cV bC wr=>PsI T S g o l A cV bC wr) (fun _ bC _=>T.length - (intOf bC).toNat)
   case atStart=>exact Aa ax
   case round=>
    clear ax;obtain ⟨k,S1,cq,nd,dv,dw,dx,hk,rfl,aF,ar,a1,ag,E,hB⟩:=hrel;obtain ⟨cr,cs,rfl,-⟩:=Ad ag;generalize wr=F at *;by_cases B:k < T.length
    ·have bs:(k:Int) < (T.length:Int):=by omega
     obtain ⟨c,r,u,s,aG,y,bD,sc,f,av⟩:∃ c r u s aG,T.drop k=c ++u ::r∧cq=s ::aG∧SC c s∧see AC u=true∧PC r aG:=by
      generalize bE:T.drop k=bF at ar;cases ar with
      |nil=>have:=congrArg List.length bE;simp at this;omega
      |cons sc f av=>exact ⟨_,_,_,_,_,rfl,rfl,sc,f,av⟩
     subst bD;obtain ⟨hi,bG⟩:∃ hi,hi=k+c.length:=⟨_,rfl⟩
     have bH:GD T k hi=c:=by rw[bG];exact TM y
     have bI:hi < T.length:=by
      have:=congrArg List.length y;simp at this;omega
     have aH:T.drop hi=u ::r:=by rw[bG,← List.drop_drop,y];simp
     have ct:T.drop (hi+1)=r:=by
      rw[zg bI] at aH;injection aH
     have hat:T[hi]=u:=by
      rw[zg bI] at aH;injection aH
     have cW:k≤hi:=by omega
     have cu:=Ab (show ∀ j,(h1:k≤j)→(h2:j < hi)→∃ h:j < T.length,see AC T[j]=false from fun j h1 h2=>⟨by omega,by
      have:=WY (T:=T) (lo:=k) (hi:=hi) (k:=j) (by omega) h1 h2;rw[bH] at this;exact sc.free _ this⟩)
     have cv:=Ab (show see AC T[hi]=true by rw[hat];exact f);have cX:=Ab (show T[k].at_=s.at_ by
      obtain ⟨dy,aq,e1,e2⟩:=sc.at_eq;rw[e1,List.cons_append,zg B] at y;injection y with y _;rw[y,e2])
     have cY:=Ab (show SC (GD T k hi) s by rw[bH];exact sc);have aW:=Ab (show T.length - (intOf (.int .i64 ((hi:Int)+1))).toNat < T.length - (intOf (.int .i64 (k:Int))).toNat by simp[intOf];omega);have bJ:=Aa b3;rw[aF,zU,JS,zA] at bJ;have cZ:(AK 0 (S1.map Ps.sx)).length≤4000:=by rw[Do];omega
     have c0:(Dm (S1.map Ps.sx)).length≤4000:=by rw[GB];omega
     have c1:S1.length≤4000:=by simp only[List.length_cons] at bJ;omega
     have a2:=Qh (Cu 0 (S1.map Ps.sx)) ⟨s.sx.kind,s.sx.name,Gp s.sx.cond (AK 0 (S1.map Ps.sx)).length,Gp s.sx.grant ((AK 0 (S1.map Ps.sx)).length+AH s.sx.cond)⟩;have a3:=k9 s.sx (S1.map Ps.sx) 0;have bK:=Lw s.sx (S1.map Ps.sx);have eT:=IP s.sx (S1.map Ps.sx) 0;rw[zX,← Do (S1.map Ps.sx) 0] at a3 eT;rw[← eT] at a2;have cw:(S1 ++ [s]).map Ps.sx=S1.map Ps.sx ++ [s.sx]:=by simp
     rw[← cw] at a3 bK a2;have bL:=Ab (show JO (S.map Ps.sx)=if 64 < mx (JZ s.sx.cond) (JZ s.sx.grant) then some (s.at_:Int) else JO (aG.map Ps.sx) by rw[a1];rfl);have H:=Ab (show ∀ v aI bM bN bO bP,¬ 64 < mx (JZ s.sx.cond) (JZ s.sx.grant)→aI.ownsRow l 60 4 v (S1.length+1) (Cy (Cu 0 (S1.map Ps.sx)) ++ [.int .i64 s.sx.kind,.string s.sx.name,.int .i64 (Gp s.sx.cond (AK 0 (S1.map Ps.sx)).length),.int .i64 (Gp s.sx.grant ((AK 0 (S1.map Ps.sx)).length+AH s.sx.cond))])→Gh aI l l (.slice (some ⟨g,0,none⟩) T.length o) (AK 0 (S1.map Ps.sx) ++Gv s.sx.cond (AK 0 (S1.map Ps.sx)).length ++Gv s.sx.grant ((AK 0 (S1.map Ps.sx)).length+AH s.sx.cond)) (Dm (S1.map Ps.sx) ++Mw s.sx.cond ++Mw s.sx.grant) bM bN bO bP→Below l A aI→PsI T S g o l A v (.int .i64 ((hi:Int)+1)) aI from fun v aI bM bN bO bP h0 h1 h2 h3=>by
      refine ⟨hi+1,S1 ++ [s],aG,bM,bN,bO,bP,by omega,by rw[zd];rfl,by rw[aF];simp,by rw[ct];exact av,by rw[Aa bL,if_neg h0], ?_, ?_,h3⟩
      ·rw[zA,z7,a2];exact h1
      ·rw[a3,bK];exact h2)
     clear a2 a3 bK eT cw a1 bJ ct av sc f hat bH y aH aF bG b3;have cx:=(Aa aj).of E hB (Aa bo).1;generalize Cy (Cu 0 (S1.map Ps.sx))=c2 at ag H;generalize AK 0 (S1.map Ps.sx)=M at E H cZ;generalize Dm (S1.map Ps.sx)=Q at E H c0;generalize S1.length=m at ag H c1;clear S1;have bQ:=Ab cx;have a4:=Ab E;have a5:=Ab ag;have c4:=Ab hB;have cy:=Ab (show FrI k hi F (.int .i64 (k:Int)) F from ⟨k,NLN,cW,rfl,BRN⟩);clear cx E ag hB;go_wp2_with fail
     go_loopw [13] (fun bR w'=>FrI k hi F bR w') (fun bR _=>hi - (intOf bR).toNat)
     case atStart=>exact Aa cy
     case round=>
      clear cy;obtain ⟨j,h1,h2,rfl,O⟩:=hrel;by_cases ao:j < hi
      ·obtain ⟨c5,cz⟩:=Aa cu j h1 ao;have c6:=Ab cz;have c8:=Ab (Gg hi j ao);have af:=Ab (fun (w':World) (bu:Below F.heap.size F w')=>show FrI k hi F (.int .i64 ((j:Int)+1)) w' from ⟨j+1,by omega,by omega,by rw[zd];rfl,bu⟩);clear cz ao;go_wp2_with fail
       refine (Iu (Aa bQ) O j c5 AC false (Aa c6)).mono ?_;rintro r cA ⟨rfl,a6⟩;dsimp only;go_wp2_with fail
       exact ⟨Aa af _ (O.trans (a6.mono O.size)),Aa c8⟩
      ·have e:hi=j:=by omega
       subst e;clear ao cu;go_wp2_with fail
       refine (Iu (Aa bQ) O hi bI AC true (Aa cv)).mono ?_;rintro r cA ⟨rfl,a6⟩;have b:=O.trans (a6.mono O.size);have bS:=(Aa a4).below b;have cB:=(Aa bQ).below b;have cC:=Ac (w':=cA) (Aa a5) (fun q hq=>b.block q ((Aa a5).lt q hq).2);clear a6 O cv;dsimp only;go_wp2_with fail
       refine (Yj cB (Aa bo).1 b5 (Aa aM) bS (by omega) (by omega) (by omega) (Aa cY)).mono ?_;rintro r n ⟨rfl,dz,dA,dB,dC,au,bT⟩;have bU:=bT.stmL bS cC;have c9:l≤F.heap.size:=by have:=(Aa a4).row.lt;omega
       have aJ:=((Aa c4).trans (b.mono c9)).trans bT.low;clear bS cB cC bT b;generalize mx (JZ s.sx.cond) (JZ s.sx.grant)=bF at H bL ⊢;generalize Gp s.sx.cond M.length=I at H ⊢;generalize Gp s.sx.grant (M.length+AH s.sx.cond)=J at H ⊢;generalize s.sx.kind=K at H ⊢;generalize s.sx.name=N at H ⊢;dsimp only;by_cases az: 64 < bF
       ·have X:=Ab (Aa ba _ (by first | rfl | trivial) (show JO (S.map Ps.sx)=some (s.at_:Int) by rw[Aa bL,if_pos az]))
        rw[← Aa cX] at X;have bV:=(Below.refl n.heap.size n).alloc NLN (.cells #[.int .i64 K,.string N,.int .i64 I,.int .i64 J] 60);obtain ⟨_,_,_,c3⟩:=(((Aa aj).of au aJ (Aa bo).1).below bV).at4 k B;generalize (T[k].at_:Int)=bB at c3 X;obtain ⟨P,Y,Z⟩:=Aa bq;obtain ⟨cD,cE,cF⟩:=Aa aV;have a7:=aJ.trans (bV.mono (by have:=au.row.lt;omega));have U:Al _ w.heap.size #[.slice none 0 0,.slice none 0 0] 36:=⟨(a7.block _ (by omega)).trans Y.out⟩
        have V:Al _ (w.heap.size+1) #[.int .i64 0,.int .i64 0] 28:=⟨(a7.block _ (by omega)).trans Z.out⟩
        have ap:=P.trans (a7.mono (by omega));clear P Y Z a7 bV cD cE cF au bU aJ H;go_wp2_with fail
        generalize n.alloc (.cells #[.int .i64 K,.string N,.int .i64 I,.int .i64 J] 60)=cn at c3 U V ap ⊢;obtain ⟨⟨aq,aA⟩,aB,⟨u0,u1⟩,aC⟩:=GH U V;have aD:w.heap.size≠w.heap.size+1:=by omega
        have aE:w.heap.size+1≠w.heap.size:=by omega
        obtain ⟨aa,ab,ac⟩:=GG U V ap (.slice none 0 0) (.slice none 0 0) (.int .i64 6) (.int .i64 bB);have C:=Ab (And.intro aa (And.intro ab ac));clear aa ab ac;go_region_law fail
        all_goals
         clear aq aA aB u0 u1 aC aD aE c3;go_wp2_with fail
         exact bodyPost_ret (Is Tryz.results10 rfl rfl rfl (Aa C).1 (Aa C).2.1) rfl (by rw[Aa X];exact UQ.fault _ _ (Aa C).2.2)
       ·have a8:=(Below.refl n.heap.size n).alloc NLN (.cells #[.int .i64 K,.string N,.int .i64 I,.int .i64 J] 60);have cG:=au.below a8;have a9:=World.ownsRow.alloc bU (.cells #[.int .i64 K,.string N,.int .i64 I,.int .i64 J] 60);have cH:=World.ownsRow.alloc a9 (.cells #[.int .i64 K,.string N,.int .i64 I,.int .i64 J] 60);have bW:=World.news_of_block (heap_alloc_new (n.alloc (.cells #[.int .i64 K,.string N,.int .i64 I,.int .i64 J] 60)) (.cells #[.int .i64 K,.string N,.int .i64 I,.int .i64 J] 60));have cI:(n.alloc (.cells #[.int .i64 K,.string N,.int .i64 I,.int .i64 J] 60)).heap.size=n.heap.size+1:=by simp
        rw[cI] at bW;clear cI;have dD:l < n.heap.size:=au.row.lt;have cJ:=aJ.trans (a8.mono (by omega));have dE:n.heap.size≤(n.alloc (.cells #[.int .i64 K,.string N,.int .i64 I,.int .i64 J] 60)).heap.size:=a8.size;clear a8 aJ au;obtain ⟨da,db,dc,dd,de⟩:=info_parts WZ;go_wp2_with (at_builtin;refine wpList_append_lies _ rfl _ _ 23 rfl l 60 da (.agg #[.int .i64 0,.string ByteArray.empty,.int .i64 0,.int .i64 0]) 4 40 Tryz.underlying23 db dc dd de rfl (by decide) (.slice cr m cs) m c2 rfl cH ⟨n.heap.size+1,0,none⟩ 1 1 [.int .i64 K,.string N,.int .i64 I,.int .i64 J] rfl rfl bW ?q2 (by decide) ?q3 ?q4 ?q5 _ rfl ?_)
        case q2=>first | exact ⟨rfl,rfl,rfl,rfl⟩ | (intro u f;simp at f;rcases f with rfl | rfl | rfl | rfl <;> rfl)
        case q3=>unfold maxLen;omega
        case q4=>omega
        case q5=>first | omega | (simp;omega)
        intro g9 dF dG cK bX hat df;have cL:=Bd bX;have cM:=cG.other a9 cL;have cN:=(cJ.alloc (by omega) (.cells #[.int .i64 K,.string N,.int .i64 I,.int .i64 J] 60)).grown bX (by simp;omega) (fun q hq=>(a9.lt q hq).1);have af:=Ab (Aa H _ _ _ _ _ _ az cK cM cN);clear cL cM cN cK bX hat df cH a9 cG bW cJ bU;go_wp2_with fail
        exact ⟨Aa af,Aa aW⟩
    ·have bD:cq= []:=by
      rw[List.drop_eq_nil_of_le (by omega)] at ar;generalize bE:([]:List Af)=bF at ar;cases ar with
      |nil=>rfl
      |@cons c r=>have:=congrArg List.length bE;simp at this
     subst bD;rw[zr] at aF;subst aF;have X:=Ab (Aa bb (by first | rfl | trivial) (show JO (S.map Ps.sx)=none by rw[a1];rfl))
     have dg:=Ab (show (Cu 0 (S.map Ps.sx)).length=S.length by rw[Fy,zV]);have bs: ¬ ((k:Int) < (T.length:Int)):=by omega
     obtain ⟨dh,di,rfl,-⟩:=Ad E.nodes.own;obtain ⟨dH,dI,rfl,-⟩:=Ad E.places;obtain ⟨P,Y,Z⟩:=Aa bq;obtain ⟨cD,cE,cF⟩:=Aa aV;have U:Al F w.heap.size #[.slice none 0 0,.slice none 0 0] 36:=⟨(hB.block _ (by omega)).trans Y.out⟩
     have V:Al F (w.heap.size+1) #[.int .i64 0,.int .i64 0] 28:=⟨(hB.block _ (by omega)).trans Z.out⟩
     have ap:=P.trans (hB.mono (by omega));have d1:F.cell? ⟨l,1,none⟩=some _:=E.row.cell 1;have d2:F.cell? ⟨l,2,none⟩=some _:=E.row.cell 2;have dj:l≠w.heap.size:=by omega
     have dk:l≠w.heap.size+1:=by omega
     have a4:=Ab E;have a5:=Ab ag;generalize (AK 0 (S.map Ps.sx))=M at *;generalize (Dm (S.map Ps.sx))=Q at *;generalize (Cu 0 (S.map Ps.sx))=L at *;clear E ag hB P Y Z a1 ar B;go_wp2_with fail
     obtain ⟨⟨aq,aA⟩,aB,⟨u0,u1⟩,aC⟩:=GH U V;have aD:w.heap.size≠w.heap.size+1:=by omega
     have aE:w.heap.size+1≠w.heap.size:=by omega
     obtain ⟨aa,ab,ac⟩:=GG U V ap (.slice dh M.length di) (.slice cr S.length cs) (.int .i64 0) (.int .i64 0);have C:=Ab (And.intro aa (And.intro ab ac));clear aa ab ac;go_region_law fail
     all_goals
      clear aq aA aB u0 u1 aC aD aE d1 d2 dj dk;go_wp2_with fail
      exact bodyPost_ret (Is Tryz.results10 rfl rfl rfl (Aa C).1 (Aa C).2.1) rfl (by rw[Aa X];exact UQ.good (Aa a4) (by rw[Aa dg];exact Aa a5) (by have:=Aa aV;omega) _ _ _ _ rfl (Aa C).2.2)
theorem VI (t:ByteArray)(x:QR)(d:DP (AI t).toks x)(w:World):
  Calls Tryz.prog 10 #[.string t] w (UQ (Ik t x) w):=by
 by_cases hc:(AI t).code=0
 ·cases x with
  |ok S=>exact Yl t S w hc d
  |bad q=>exact VH t q w hc d
 ·exact TJ t x w hc
end Go.Proofs.YtchakjeegneeoaaGreatDoor
