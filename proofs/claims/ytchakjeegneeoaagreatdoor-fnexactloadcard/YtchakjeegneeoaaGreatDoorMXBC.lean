/-
  ONB, GF. Own work.
-/
import Derived.Test.YtchakjeegneeoaaGreatDoorMXBB
import Derived.Test.YtchakjeegneeoaaGreatDoorMXAE
import Derived.Test.YtchakjeegneeoaaGreatDoorVPH
import Derived.Test.YtchakjeegneeoaaGreatDoorMXAH
import Derived.Test.YtchakjeegneeoaaGreatDoorMXAT
import Derived.Test.YtchakjeegneeoaaGreatDoorMXAD
namespace Go.Proofs.YtchakjeegneeoaaGreatDoor
open Go.RowKit
set_option linter.unusedVariables false
def Lk (x:Nd) (u k:Value):List Value:= [.int .i64 x.op,.int .i64 x.num,.string x.text,u,k]
def JY:List Nd→List Value→List Value→List Value
 |x ::N,u ::nv,k ::kv=>Lk x u k ++JY N nv kv
 |_,_,_=> []
theorem MU:∀ (N:List Nd) (a b:List Value),a.length=N.length→b.length=N.length→(JY N a b).length=N.length * 5
 | [],_,_,_,_=>by simp[JY]
 |x ::N, [],_,h,_=>by simp at h
 |x ::N,_ ::_, [],_,h=>by simp at h
 |x ::N,u ::a,k ::b,h,h'=>by
  have:=MU N a b (by simpa using h) (by simpa using h');simp only[JY,Lk,zA,List.length_cons,List.length_nil,this];omega
theorem TX:∀ (N:List Nd) (a b:List Value) (x:Nd) (u k:Value),a.length=N.length→b.length=N.length→JY (N ++ [x]) (a ++ [u]) (b ++ [k])=JY N a b ++Lk x u k
 | [], [], [],x,u,k,_,_=>by simp[JY]
 | [],_ ::_,_,x,u,k,h,_=>by simp at h
 | [], [],_ ::_,x,u,k,_,h=>by simp at h
 |y ::N, [],_,x,u,k,h,_=>by simp at h
 |y ::N,_ ::_, [],x,u,k,_,h=>by simp at h
 |y ::N,z ::a,t ::b,x,u,k,h,h'=>by
  have:=TX N a b x u k (by simpa using h) (by simpa using h');simp only[List.cons_append,JY,this,zC]
theorem Ll:∀ (N:List Nd) (a b:List Value) (j:Nat) (h:j < N.length) (c:j < a.length) (h2:j < b.length),∀ r,r < 5→(JY N a b)[j * 5+r]? =(Lk N[j] a[j] b[j])[r]?
 |x ::N,u ::a,k ::b,0,_,_,_,r,hr=>by
  rw[JY,Nat.zero_mul,zX,List.getElem?_append_left (by simp[Lk];omega)];rfl
 |x ::N,u ::a,k ::b,j+1,h,c,h2,r,hr=>by
  have d:=Ll N a b j (by simpa using h) (by simpa using c) (by simpa using h2) r hr;rw[JY,Z7 (by simp[Lk];omega)];have e:(j+1) * 5+r - (Lk x u k).length=j * 5+r:=by simp[Lk];omega
  rw[e,d];rfl
 | [],_,_,_,h,_,_,_,_=>absurd h (by simp)
 |_ ::_, [],_,_,_,h,_,_,_=>absurd h (by simp)
 |_ ::_,_ ::_, [],_,_,_,h,_,_=>absurd h (by simp)
theorem Xe:∀ (N:List Nd) (a b:List Value) (j:Nat) (h:j < N.length) (c:a.length=N.length) (f:b.length=N.length) (y:Nd),JY (N.set j y) a b=(((JY N a b).set (j * 5) (.int .i64 y.op)).set (j * 5+1) (.int .i64 y.num)).set (j * 5+2) (.string y.text)
 |x ::N,u ::a,k ::b,0,_,_,_,y=>by simp[JY,Lk]
 |x ::N,u ::a,k ::b,j+1,h,c,f,y=>by
  have l:=Xe N a b j (by simpa using h) (by simpa using c) (by simpa using f) y;have e:∀ (d:List Value) i v,(Lk x u k ++d).set ((j+1) * 5+i) v=Lk x u k ++d.set (j * 5+i) v:=fun d i v=>by
   rw[yD _ _ (by simp[Lk];omega)]
   congr 2
   simp[Lk];omega
  simp only[z0,JY];rw[l];have g:=e (JY N a b) 0 (.int .i64 y.op);simp only[zZ] at g;rw[g,e,e]
 | [],_,_,_,h,_,_,_=>absurd h (by simp)
 |_ ::_, [],_,_,_,c,_,_=>by simp at c
 |_ ::_,_ ::_, [],_,_,_,c,_=>by simp at c
structure Bt (w:World) (lo:Nat) (v:Value) (N:List Nd) (nv kv:List Value):Prop where
 len:nv.length=N.length
 lenk:kv.length=N.length
 own:w.ownsRow lo 68 5 v N.length (JY N nv kv)
 names:∀ j,(h:j < N.length)→(h':j < nv.length)→w.ownsRow lo 9 1 nv[j] N[j].names.length (N[j].names.map Value.string)
 kids:∀ j,(h:j < N.length)→(h':j < kv.length)→w.ownsRow lo 3 1 kv[j] N[j].kids.length (Ar N[j].kids)
 apart:∀ i j,(hij:i < j)→(h:j < nv.length)→∀ q,(nv[i]'(by omega)).ownBlock=some q→nv[j].ownBlock≠some q
 apartk:∀ i j,(hij:i < j)→(h:j < kv.length)→∀ q,(kv[i]'(by omega)).ownBlock=some q→kv[j].ownBlock≠some q
theorem Bt.nil (w:World)(lo:Nat):Bt w lo (.slice none 0 0) [] [] []:=
 ⟨rfl,rfl,World.ownsRow_nil _ _ _ _,fun j h=>absurd h (by simp),fun j h=>absurd h (by simp),fun i j _ h=>absurd h (by simp),fun i j _ h=>absurd h (by simp)⟩
theorem Ac {w w':World}{a:Nat}{e:TypeId}{size n:Nat}{v:Value}{b:List Value}(h:w.ownsRow a e size v n b)(hd:∀ q,v.ownBlock=some q→w'.heap[q]? =w.heap[q]?):w'.ownsRow a e size v n b:=by
 refine ⟨h.1, ?_⟩;rcases h.2 with h2 | ⟨g,cap,d,c,f,i,h4⟩
 ·exact .inl h2
 ·exact .inr ⟨g,cap,d,c,f,(hd g (by rw[c];rfl)).trans i,h4⟩
theorem Bt.lts {w:World}{lo:Nat}{v:Value}{N:List Nd}{b c:List Value}(h:Bt w lo v N b c):(∀ q,v.ownBlock=some q→lo≤q∧q < w.heap.size)∧(∀ j,(a:j < b.length)→∀ q,b[j].ownBlock=some q→lo≤q∧q < w.heap.size)∧∀ j,(a:j < c.length)→∀ q,c[j].ownBlock=some q→lo≤q∧q < w.heap.size:=
 ⟨h.own.lt,fun j a=>(h.names j (by rw[← h.len];exact a) a).lt,fun j a=>(h.kids j (by rw[← h.lenk];exact a) a).lt⟩
theorem Bt.upto {w w':World}{lo:Nat}{v:Value}{N:List Nd}{c d:List Value}(h:Bt w lo v N c d)(h1:∀ q,v.ownBlock=some q→w'.heap[q]? =w.heap[q]?)(h2:∀ j,(a:j < c.length)→∀ q,c[j].ownBlock=some q→w'.heap[q]? =w.heap[q]?)(h3:∀ j,(a:j < d.length)→∀ q,d[j].ownBlock=some q→w'.heap[q]? =w.heap[q]?):Bt w' lo v N c d:=
 ⟨h.len,h.lenk,Ac h.own h1,fun j a b=>Ac (h.names j a b) (h2 j b),fun j a b=>Ac (h.kids j a b) (h3 j b),h.apart,h.apartk⟩
theorem Bt.blocks {w w':World}{lo:Nat}{v:Value}{N:List Nd}{b c:List Value}(h:Bt w lo v N b c)(hd:∀ k,lo≤k→k < w.heap.size→w'.heap[k]? =w.heap[k]?):Bt w' lo v N b c:=
 h.upto (fun q hq=>hd q (h.lts.1 q hq).1 (h.lts.1 q hq).2) (fun j a q hq=>hd q (h.lts.2.1 j a q hq).1 (h.lts.2.1 j a q hq).2) (fun j a q hq=>hd q (h.lts.2.2 j a q hq).1 (h.lts.2.2 j a q hq).2)
theorem Ai {w:World}{B f n i size j:Nat}{e e':TypeId}{v v':Value}{k xs':List Value}(h:w.ownsRow B e size v n k)(l:w.ownsRow f e' j v' i xs')(m:e≠e'):∀ q,v.ownBlock=some q→v'.ownBlock≠some q:=fun q hq b=>by
 rcases h.2 with ⟨c,_⟩ | ⟨g,cap,r,c,_,o,_⟩
 ·rw[c] at hq;cases hq
 rcases l.2 with ⟨d,_⟩ | ⟨p,s,t,d,_,a,_⟩
 ·rw[d] at b;cases b
 rw[c] at hq;rw[d] at b;obtain rfl:g=q:=by simpa[Value.ownBlock] using hq
 obtain rfl:p=g:=by simpa[Value.ownBlock] using b
 rw[o] at a;injection a with a;injection a with _ a;exact m a
theorem Bt.upd {w w':World}{lo:Nat}{v:Value}{N:List Nd}{a b:List Value}(h:Bt w lo v N a b)(j:Nat)(m:j < N.length)(n:j < a.length)(o:j < b.length)(y:Nd)
  (d:w'.ownsRow lo 68 5 v N.length (JY (N.set j y) a b))(f:w'.ownsRow lo 9 1 a[j] y.names.length (y.names.map Value.string))(g:w'.ownsRow lo 3 1 b[j] y.kids.length (Ar y.kids))
  (k:∀ i,(hi:i < a.length)→i≠j→∀ q,a[i].ownBlock=some q→w'.heap[q]? =w.heap[q]?)(l:∀ i,(hi:i < b.length)→i≠j→∀ q,b[i].ownBlock=some q→w'.heap[q]? =w.heap[q]?):Bt w' lo v (N.set j y) a b:=
 ⟨by rw[List.length_set];exact h.len,by rw[List.length_set];exact h.lenk,by rw[List.length_set];exact d,fun i hi c=>by
  rw[List.getElem_set];split
  ·rename_i e;subst e;exact f
  ·rename_i e;exact Ac (h.names i (by simpa using hi) c) (k i c (fun e'=>e e'.symm)),fun i hi c=>by
  rw[List.getElem_set];split
  ·rename_i e;subst e;exact g
  ·rename_i e;exact Ac (h.kids i (by simpa using hi) c) (l i c (fun e'=>e e'.symm)),h.apart,h.apartk⟩
def Xf (k m p:Nat):Nd:=⟨((k:Nat):Int),((k+1 :Nat):Int),BL (k+2),Dy (k+3) m,Ca (k+3+m) p⟩
def Mz (x:Nd):Nat:=x.names.length+x.kids.length
def Qm:Nat→List Nd→List Nd
 |_, []=> []
 |k,x ::N=>Xf k x.names.length x.kids.length ::Qm (k+3+Mz x) N
def Ei (k:Nat) (N:List Nd) (j:Nat):Nat:=k+3 * j+((N.take j).map Mz).sum
theorem Fi:∀ (k:Nat) (N:List Nd),(Qm k N).length=N.length
 |_, []=>rfl
 |k,x ::N=>by simp[Qm,Fi]
theorem Ol (k:Nat)(N:List Nd)(j:Nat)(h:j < N.length):Ei k N (j+1)=Ei k N j+3+Mz N[j]:=by
 rw[Ei,Ei,zf h,zU,List.sum_append];simp;omega
theorem TZ (k:Nat)(N:List Nd):Ei k N 0=k:=by simp[Ei]
theorem Ua (k:Nat)(N:List Nd)(j:Nat)(h:j≤N.length):Ei k N j≤Ei k N N.length:=by
 have:∀ d,j+d≤N.length→Ei k N j≤Ei k N (j+d):=by
  intro d
  induction d with
  |zero=>intro _;exact NLN
  |succ d a=>intro hd;have:=a (by omega);have:=Ol k N (j+d) (by omega);rw[← Nat.add_assoc];omega
 have:=this (N.length - j) (by omega)
 rwa[show j+(N.length - j)=N.length by omega] at this
theorem VS:∀ (k:Nat) (N:List Nd) (j:Nat) (h:j < N.length) (a:j < (Qm k N).length),(Qm k N)[j]=Xf (Ei k N j) N[j].names.length N[j].kids.length
 |k,x ::N,0,_,_=>by simp[Qm,Ei]
 |k,x ::N,j+1,h,a=>by
  have b:=VS (k+3+Mz x) N j (by simpa using h) (by simpa[Qm] using a);simp only[Qm,List.getElem_cons_succ];rw[b]
  congr 1
  simp only[Ei,List.take_succ_cons,List.map_cons,List.sum_cons];omega
def Fj (k:Nat) (N:List Nd) (j:Nat):List Nd:=(Qm k N).take j ++N.drop j
theorem YB (k:Nat)(N:List Nd):Fj k N 0=N:=by simp[Fj]
theorem YC (k:Nat)(N:List Nd):Fj k N N.length=Qm k N:=by rw[Fj,Z6,zr,zq (by rw[Fi];exact NLN)]
theorem AaX (k:Nat)(N:List Nd)(j:Nat)(h:j≤N.length):(Fj k N j).length=N.length:=by
 rw[Fj,zA,zb,zp,Fi];omega
theorem Acn (k:Nat)(N:List Nd)(j:Nat)(h:j < N.length)(b:j < (Fj k N j).length):(Fj k N j)[j]=N[j]:=by
 have a:((Qm k N).take j).length=j:=by rw[zb,Fi];omega
 simp only[Fj];rw[List.getElem_append_right (by omega)];simp only[a,Nat.sub_self,List.getElem_drop,zZ]
theorem AaY (k:Nat)(N:List Nd)(j:Nat)(h:j < N.length):(Fj k N j).set j (Xf (Ei k N j) N[j].names.length N[j].kids.length)=Fj k N (j+1):=by
 have a:((Qm k N).take j).length=j:=by rw[zb,Fi];omega
 rw[Fj,zg h,yD _ _ (by omega),a,Nat.sub_self,zw,Fj,zf (by rw[Fi];exact h),VS k N j h,zC];rfl
def InN (v:Value) (nv kv:List Value) (hi:Nat):Prop:=(∀ q,v.ownBlock=some q→q < hi)∧(∀ j,(hj:j < nv.length)→∀ q,nv[j].ownBlock=some q→q < hi)∧∀ j,(hj:j < kv.length)→∀ q,kv[j].ownBlock=some q→q < hi
def AaZ (w w':World) (v:Value) (nv kv:List Value):Prop:=∀ q,q < w.heap.size→v.ownBlock≠some q→(∀ j,(hj:j < nv.length)→nv[j].ownBlock≠some q)→(∀ j,(hj:j < kv.length)→kv[j].ownBlock≠some q)→w'.heap[q]? =w.heap[q]?
def okN (x:Nd):Prop:=x.names.length≤1048576∧x.kids.length≤1048576∧∀ s∈x.names,s.size≤maxLen
set_option maxHeartbeats 1600000
def eT (tl:Nat):Af:=⟨0,0,AB [],tl⟩
def DV (tl:Nat):List Af→Af
 | []=>eT tl
 |t ::_=>t
structure Pp (w:World) (pb g c:Nat) (T:List Af) (tl:Nat) (ts:List Af) (k:Nat):Prop where
 row:Al w pb #[.slice (some ⟨g,0,none⟩) (T.length+1) c,.int .i64 (k:Int)] 99
 toks:w.ownsRow 0 51 4 (.slice (some ⟨g,0,none⟩) (T.length+1) c) (T.length+1) (GA (T ++ [eT tl]))
 drop:T.drop k=ts
 len:k+ts.length=T.length
 small:T.length≤4000
theorem Pp.hd {w:World}{f g c:Nat}{T:List Af}{a:Nat}{ts:List Af}{k:Nat}(h:Pp w f g c T a ts k):k < (T ++ [eT a]).length∧∀ hk,(T ++ [eT a])[k]'hk=DV a ts:=by
 have b:=h.len;refine ⟨by simp;omega,fun hk=>?_⟩;cases ts with
 |nil=>
  have e:k=T.length:=by simpa using b
  subst e;simp[DV]
 |cons t r=>
  have d:k < T.length:=by simp at b;omega
  rw[zx d];have:=zg d;rw[h.drop] at this;injection this with h1 h2;exact h1.symm
theorem Pp.cells {w:World}{d g c:Nat}{T:List Af}{a:Nat}{ts:List Af}{k:Nat}(h:Pp w d g c T a ts k):
  w.cell? ⟨g,k * 4,none⟩=some (.int .i64 (DV a ts).kind)∧w.cell? ⟨g,k * 4+1,none⟩=some (.int .i64 (DV a ts).num)∧w.cell? ⟨g,k * 4+2,none⟩=some (.string (DV a ts).text)∧w.cell? ⟨g,k * 4+3,none⟩=some (.int .i64 ((DV a ts).at_:Int)):=by
 obtain ⟨hk,he⟩:=h.hd;obtain ⟨b,e1,e2,e3⟩:=Ka (T ++ [eT a]) k hk;rw[he hk] at b e1 e2 e3;have f:k < T.length+1:=by simpa using hk
 exact ⟨(h.toks.cellAt _ (by omega)).trans b,(h.toks.cellAt _ (by omega)).trans e1,(h.toks.cellAt _ (by omega)).trans e2,(h.toks.cellAt _ (by omega)).trans e3⟩
theorem Pp.ne {w:World}{a g c:Nat}{T:List Af}{b:Nat}{ts:List Af}{k:Nat}(h:Pp w a g c T b ts k):g≠a:=fun e=>Ae h.row h.toks (by decide) (by rw[e];rfl)
theorem Pp.lt {w:World}{a g c:Nat}{T:List Af}{b:Nat}{ts:List Af}{k:Nat}(h:Pp w a g c T b ts k):g < w.heap.size:=(h.toks.lt g rfl).2
theorem Pp.below {w w':World}{a g c:Nat}{T:List Af}{b:Nat}{ts:List Af}{k:Nat}(h:Pp w a g c T b ts k)(d:Below w.heap.size w w'):Pp w' a g c T b ts k:=
 ⟨h.row.after d NLN,Ac h.toks (fun q hq=>d.block q (h.toks.lt q hq).2),h.drop,h.len,h.small⟩
theorem Pp.drew {w:World}{a g c:Nat}{T:List Af}{b:Nat}{ts:List Af}{k:Nat}(h:Pp w a g c T b ts k):Pp w.drew a g c T b ts k:=h.below (Below.refl w.heap.size w).drew
theorem Vs {W:World}{b:Nat}{g i j k:Value}{t:TypeId}(h:Al W b #[g,i,j,k] t)(a c d f:Value):
  ((((W.setCell ⟨b,0,none⟩ a).setCell ⟨b,1,none⟩ c).setCell ⟨b,2,none⟩ d).setCell ⟨b,3,none⟩ f).drew.cell? ⟨b,0,none⟩=some a∧((((W.setCell ⟨b,0,none⟩ a).setCell ⟨b,1,none⟩ c).setCell ⟨b,2,none⟩ d).setCell ⟨b,3,none⟩ f).drew.cell? ⟨b,1,none⟩=some c∧
  ((((W.setCell ⟨b,0,none⟩ a).setCell ⟨b,1,none⟩ c).setCell ⟨b,2,none⟩ d).setCell ⟨b,3,none⟩ f).drew.cell? ⟨b,2,none⟩=some d∧((((W.setCell ⟨b,0,none⟩ a).setCell ⟨b,1,none⟩ c).setCell ⟨b,2,none⟩ d).setCell ⟨b,3,none⟩ f).drew.cell? ⟨b,3,none⟩=some f:=by
 have R:Al ((((W.setCell ⟨b,0,none⟩ a).setCell ⟨b,1,none⟩ c).setCell ⟨b,2,none⟩ d).setCell ⟨b,3,none⟩ f).drew b #[a,c,d,f] t:=⟨(AD h a c d f).out⟩
 obtain ⟨g0,g1,g2,g3,_⟩:=AX R;exact ⟨g0,g1,g2,g3⟩
theorem WN {c:Func}{a:Tmp}(h:c.results= #[.cell a 51]){tmps:Array Value}{w:World}{b:Nat}{d f g i:Value}(j:tmps.getD a undef= .pointer (some ⟨b,0,none⟩))
  (g0:w.cell? ⟨b,0,none⟩=some d)(g1:w.cell? ⟨b,1,none⟩=some f)(g2:w.cell? ⟨b,2,none⟩=some g)(g3:w.cell? ⟨b,3,none⟩=some i):
  (results c tmps).run Tryz.prog w= .ok (.agg #[d,f,g,i]) w:=by
 rw[Z4] at j;simp[results,h,j,go_sem,g0,g1,g2,g3]
def Dq (t:Af):Value:= .agg #[.int .i64 t.kind,.int .i64 t.num,.string t.text,.int .i64 (t.at_:Int)]
theorem BK {w:World}{f g c:Nat}{T:List Af}{d:Nat}{ts:List Af}{k:Nat}(h:Pp w f g c T d ts k):
  Calls Tryz.prog 117 #[.pointer (some ⟨f,0,none⟩)] w fun e w'=>e= .returned (Dq (DV d ts))∧Below w.heap.size w w':=by
 have i:=(Below.refl w.heap.size w).alloc NLN (.cells #[.int .i64 0,.int .i64 0,.string ⟨#[]⟩,.int .i64 0] 51);have j:=Al.new w #[.int .i64 0,.int .i64 0,.string ⟨#[]⟩,.int .i64 0] 51;have a:=h.below i;obtain ⟨c0,c1,c2,c3⟩:=a.cells;have l:=a.row.cell 0;have m:=a.row.cell 1;have o:=h.len;have p:(k:Int) < ((T.length+1 :Nat):Int):=by omega
 have q:=h.lt;have r:=h.row.lt;obtain ⟨s,d1,d2,d3,u⟩:=AX j;simp only[zu,zi,zc] at l m;generalize DV d ts=t at c0 c1 c2 c3 ⊢;clear h a;go_enter Tryz.func117,Tryz.ntmps117
 go_wp2_with fail
 generalize w.alloc (.cells #[.int .i64 0,.int .i64 0,.string ⟨#[]⟩,.int .i64 0] 51)=W at *;go_region
 go_wp2_with fail
 have n:=Ao (b:=w.heap.size) i NLN (.int .i64 t.kind) (.int .i64 t.num) (.string t.text) (.int .i64 (t.at_:Int));obtain ⟨g0,g1,g2,g3⟩:=Vs j (.int .i64 t.kind) (.int .i64 t.num) (.string t.text) (.int .i64 (t.at_:Int));exact bodyPost_ret (WN Tryz.results117 rfl g0 g1 g2 g3) rfl ⟨rfl,n.drew⟩
theorem Aj.setNewP {lo hi:Nat}{w w':World}(T:Aj lo hi w w')(p:Addr)(u:Value)(hp:w.heap.size≤p.block):Aj lo hi w (w'.setCell p u):=
 ⟨T.os,T.tape,T.output,by simp;exact T.size,fun k h1 h2=>(heap_setCell_other w' p k u (by omega)).trans (T.block k h1 h2)⟩
theorem Aj.put4P {lo hi:Nat}{w w':World}{b:Nat}(T:Aj lo hi w w')(hp:w.heap.size≤b)(a c d f:Value):Aj lo hi w (CH w' b a c d f):=
 (((T.setNewP ⟨b,0,none⟩ a hp).setNewP ⟨b,1,none⟩ c hp).setNewP ⟨b,2,none⟩ d hp).setNewP ⟨b,3,none⟩ f hp
theorem Aj.allP {lo hi:Nat}{w a w2:World}(T:Aj lo hi w a)(h:Below a.heap.size a w2):Aj lo hi w w2:=T.trans (Aj.of_below h NLN)
theorem Pp.next {w:World}{a g c:Nat}{T:List Af}{b:Nat}{t:Af}{r:List Af}{k:Nat}(h:Pp w a g c T b (t ::r) k){w':World}(d:Al w' a #[.slice (some ⟨g,0,none⟩) (T.length+1) c,.int .i64 ((k:Int)+1)] 99)(ht:Aj a (a+1) w w'):Pp w' a g c T b r (k+1):=by
 have f:=h.len;have hd:=h.drop;refine ⟨by rw[show ((k+1 :Nat):Int)=(k:Int)+1 by omega];exact d,Ac h.toks (fun q hq=>?_), ?_,by simp at f;omega,h.small⟩
 ·have e:g=q:=by simpa[Value.ownBlock] using hq
  have i:=h.ne;exact ht.block q (by rw[← e];exact h.lt) (by omega)
 ·rw[← List.drop_drop,hd];rfl
theorem BZ {w:World}{a g c:Nat}{T:List Af}{u:Nat}{t:Af}{r:List Af}{k:Nat}(h:Pp w a g c T u (t ::r) k):
  Calls Tryz.prog 142 #[.pointer (some ⟨a,0,none⟩)] w fun e w'=>e= .returned (Dq t)∧Pp w' a g c T u r (k+1)∧Aj a (a+1) w w':=by
 have d:=(Below.refl w.heap.size w).alloc NLN (.cells #[.int .i64 0,.int .i64 0,.string ⟨#[]⟩,.int .i64 0] 51);have n:=Al.new w #[.int .i64 0,.int .i64 0,.string ⟨#[]⟩,.int .i64 0] 51;have f:=h.below d;obtain ⟨c0,c1,c2,c3⟩:=f.cells;have v:=f.row.cell 0;have i:=f.row.cell 1;have O:=h.len;have P:(k:Int) < ((T.length+1 :Nat):Int):=by omega
 have Q:=h.lt;have R:=h.row.lt;obtain ⟨x,d1,d2,d3,y⟩:=AX n;simp only[zu,zi,zc] at v i;have z:=d.alloc d.size (.cells #[.int .i64 0,.int .i64 0,.string ⟨#[]⟩,.int .i64 0] 51);have l:=h.below z;obtain ⟨A,e1,e2,e3⟩:=l.cells;have B:=l.row.cell 0;have C:=l.row.cell 1;simp only[zu,zi,zc] at B C;have E:(w.alloc (.cells #[.int .i64 0,.int .i64 0,.string ⟨#[]⟩,.int .i64 0] 51)).heap.size=w.heap.size+1:=by simp
 go_enter Tryz.func142,Tryz.ntmps142
 go_wp2_with fail
 go_region
 dsimp only[DV] at *;have o:=(d.alloc d.size (.cells #[.int .i64 t.kind,.int .i64 t.num,.string t.text,.int .i64 (t.at_:Int)] 51)).drew;have m:=h.below o;have q:=((n.alloc (.cells #[.int .i64 t.kind,.int .i64 t.num,.string t.text,.int .i64 (t.at_:Int)] 51)).after BRN.drew NLN)
 have s:=(Al.new (w.alloc (.cells #[.int .i64 0,.int .i64 0,.string ⟨#[]⟩,.int .i64 0] 51)) #[.int .i64 t.kind,.int .i64 t.num,.string t.text,.int .i64 (t.at_:Int)] 51).after BRN.drew NLN;rw[E] at s;generalize ((w.alloc (.cells #[.int .i64 0,.int .i64 0,.string ⟨#[]⟩,.int .i64 0] 51)).alloc (.cells #[.int .i64 t.kind,.int .i64 t.num,.string t.text,.int .i64 (t.at_:Int)] 51)).drew=X at o m q s ⊢;clear c0 c1 c2 c3 v i x d1 d2 d3 y A e1 e2 e3 B C l f n d z E;have i:=m.row.cell 1;have S:=fun j=>m.row.frozen j;simp only[zu,zi,zc] at i;obtain ⟨x,d1,d2,d3,y⟩:=AX q;obtain ⟨A,e1,e2,e3,U⟩:=AX s;have K:w.heap.size≠a:=by omega
 have V:w.heap.size+1≠a:=by omega
 have L:a≠w.heap.size:=by omega
 have W:a≠w.heap.size+1:=by omega
 go_wp2_with fail
 have M:wrap64 ((k:Int)+1)=(k:Int)+1:=by
  have hs:=h.small;have:k≤4000:=by omega
  simp[wrap64];omega
 rw[M];have F:=m.row.set 1 (.int .i64 ((k:Int)+1));have T1:=(Aj.of_below (lo:=a) (hi:=a+1) o NLN).trans (Aj.setCell X ⟨a,1,none⟩ (.int .i64 ((k:Int)+1)) NLN (Z3 _));have H:=q.setFar (p:=⟨a,1,none⟩) K (.int .i64 ((k:Int)+1));generalize X.setCell ⟨a,1,none⟩ (.int .i64 ((k:Int)+1))=I at F T1 H ⊢;have N:Al (CH I w.heap.size (.int .i64 t.kind) (.int .i64 t.num) (.string t.text) (.int .i64 (t.at_:Int))) a _ 99:=⟨(Jr I w.heap.size a _ _ _ _ L).trans F.out⟩
 have J:=T1.put4P (b:=w.heap.size) NLN (.int .i64 t.kind) (.int .i64 t.num) (.string t.text) (.int .i64 (t.at_:Int));obtain ⟨g0,g1,g2,g3,_⟩:=AX (AD H (.int .i64 t.kind) (.int .i64 t.num) (.string t.text) (.int .i64 (t.at_:Int)));simp only[CH] at g0 g1 g2 g3;exact bodyPost_ret (WN Tryz.results142 rfl g0 g1 g2 g3) rfl ⟨rfl,h.next N J,J⟩
end Go.Proofs.YtchakjeegneeoaaGreatDoor
