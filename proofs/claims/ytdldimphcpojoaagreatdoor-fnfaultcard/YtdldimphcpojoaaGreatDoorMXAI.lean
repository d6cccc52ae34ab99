/-
  VPC, VPE, VPF, VPG, VPH, ONA, ONB. Own work.
-/
import Derived.Test.YtdldimphcpojoaaGreatDoorMXAH
import Derived.Test.YtdldimphcpojoaaGreatDoorMXAJ
import Derived.Test.YtdldimphcpojoaaGreatDoorMXAK
import Derived.Test.YtdldimphcpojoaaGreatDoorMXAL
namespace Go.Proofs.YtdldimphcpojoaaGreatDoor
open Go.RowKit
set_option linter.unusedVariables false
def Zp (x:Nd):Bool:=
 if x.op=1 then decide (0≤x.num) && decide (x.text.size=0) && decide (x.names.length=0)
 else if x.op=2 then DU x.text && decide (x.num=0) && decide (x.names.length=0)
 else if x.op=3 then decide (x.num=0∨x.num=1) && decide (x.text.size=0) && decide (x.names.length=0)
 else if x.op=4 then Le x.names && decide (x.num=0) && decide (x.text.size=0)
 else if x.op=5 then Dt x.text && decide (x.num=0) && decide (x.names.length=0)
 else if x.op=6∨x.op=7 then false
 else decide (x.num=0) && decide (x.text.size=0) && decide (x.names.length=0)
theorem Ry (x:Nd):By x=(decide ((x.kids.length:Int)=GT x.op) && Zp x):=rfl
theorem GL {w:World}{b:Nat}{a c d f:Value}{t:TypeId}(R:An w b #[a,c,d,f] t):w.cell? ⟨b,0,none⟩=some a∧w.cell? ⟨b,1,none⟩=some c∧w.cell? ⟨b,2,none⟩=some d∧w.cell? ⟨b,3,none⟩=some f∧∀ j,w.frozen? ⟨b,j,none⟩=false:=
 ⟨by simpa using R.cell 0,by simpa using R.cell 1,by simpa using R.cell 2,by simpa using R.cell 3,fun j=>R.frozen j⟩
structure VE (w:World) (a:Option Addr) (n c:Nat) (L:List St):Prop where
 len:L.length=n
 small:n≤1048576
 sizes:∀ s∈L,s.name.size≤1048576
 cells:∀ j,(h:j < L.length)→∃ b off,a=some ⟨b,off,none⟩∧b < w.heap.size∧w.cell? ⟨b,off+j * 4,none⟩=some (.int .i64 L[j].kind)∧w.cell? ⟨b,off+j * 4+1,none⟩=some (.string L[j].name)∧w.cell? ⟨b,off+j * 4+2,none⟩=some (.int .i64 L[j].cond)∧w.cell? ⟨b,off+j * 4+3,none⟩=some (.int .i64 L[j].grant)
theorem VE.below {w w':World}{B:Nat}{a:Option Addr}{n c:Nat}{L:List St}(h:VE w a n c L)(d:Below B w w')(m:w.heap.size≤B):VE w' a n c L:=
 ⟨h.len,h.small,h.sizes,fun j i=>by
  obtain ⟨b,f,k,hl,l,c1,c2,c3⟩:=h.cells j i;have g:b < B:=by omega
  exact ⟨b,f,k,Nat.lt_of_lt_of_le hl d.size,(d.cell (p:=⟨b,f+j * 4,none⟩) g).trans l,(d.cell (p:=⟨b,f+j * 4+1,none⟩) g).trans c1,(d.cell (p:=⟨b,f+j * 4+2,none⟩) g).trans c2,(d.cell (p:=⟨b,f+j * 4+3,none⟩) g).trans c3⟩⟩
theorem XI:(Tryz.prog.info? 3).map (fun i=>(i.zero,i.size,i.bytes))=some (some (.int .i64 0),1,8):=by kernel_rfl
def AN (L:List Int):List Value:=L.map (Value.int .i64)
theorem CL (w:World)(v:Value)(t:TypeId)(b:Nat)(a:b=w.heap.size):∀ j u,([v]:List Value)[j]? =some u→(w.alloc (.cells #[v] t)).cell? ((⟨b,0,none⟩:Addr).add j)=some u:=fun j u h=>by
 subst a;have c:j=0:=by
  have:=(List.getElem?_eq_some_iff.1 h).1;simp at this;exact this
 subst c;rw[← h];simp[Addr.add]
theorem An.grown {w w':World}{b:Nat}{cs:Array Value}{t:TypeId}{row:Option Nat}(h:An w b cs t)(a:w.grownBy w' row)(c:some b=row→False):An w' b cs t:=⟨(a.block b h.lt c).trans h.out⟩
def V4 (w:World) (b o:Nat) (x:Nd):Prop:=∃ an nn cn ak nk ck,w.cell? ⟨b,o,none⟩=some (.int .i64 x.op)∧w.cell? ⟨b,o+1,none⟩=some (.int .i64 x.num)∧w.cell? ⟨b,o+2,none⟩=some (.string x.text)∧w.cell? ⟨b,o+3,none⟩=some (.slice an nn cn)∧w.cell? ⟨b,o+4,none⟩=some (.slice ak nk ck)∧Bg w an nn cn x.names∧Jj w ak nk ck x.kids
structure Hj (w:World) (a:Option Addr) (n c:Nat) (L:List Nd):Prop where
 len:L.length=n
 small:n≤1048576
 sizes:∀ x∈L,x.text.size≤1048576
 cells:∀ j,(h:j < L.length)→∃ b off,a=some ⟨b,off,none⟩∧b < w.heap.size∧V4 w b (off+j * 5) L[j]
theorem V4.below {w w':World}{B b a:Nat}{x:Nd}(h:V4 w b a x)(hl:b < w.heap.size)(c:Below B w w')(f:w.heap.size≤B):V4 w' b a x:=by
 obtain ⟨an,nn,g,i,j,k,l,c1,c2,c3,c4,m,n⟩:=h;have d:b < B:=by omega
 exact ⟨an,nn,g,i,j,k,(c.cell (p:=⟨b,a,none⟩) d).trans l,(c.cell (p:=⟨b,a+1,none⟩) d).trans c1,(c.cell (p:=⟨b,a+2,none⟩) d).trans c2,(c.cell (p:=⟨b,a+3,none⟩) d).trans c3,(c.cell (p:=⟨b,a+4,none⟩) d).trans c4,m.below c f,n.below c f⟩
theorem Hj.below {w w':World}{B:Nat}{a:Option Addr}{n c:Nat}{L:List Nd}(h:Hj w a n c L)(d:Below B w w')(f:w.heap.size≤B):Hj w' a n c L:=
 ⟨h.len,h.small,h.sizes,fun j g=>by
  obtain ⟨b,i,k,hl,hc⟩:=h.cells j g;exact ⟨b,i,k,Nat.lt_of_lt_of_le hl d.size,hc.below hl d f⟩⟩
structure Sa (w:World):Prop where
 lt: 13 < w.heap.size
 cells:∀ k,w.cell? ⟨13,k,none⟩=Ia[k]?
theorem Sa.below {w w':World}{B:Nat}(h:Sa w)(a:Below B w w')(b:w.heap.size≤B):Sa w':=
 ⟨Nat.lt_of_lt_of_le h.lt a.size,fun k=>(a.cell (p:=⟨13,k,none⟩) (Nat.lt_of_lt_of_le h.lt b)).trans (h.cells k)⟩
theorem Lu (L:List Nd):L.all By=true↔∀ j,(h:j < L.length)→By L[j]=true:=by
 rw[List.all_eq_true];constructor
 ·intro h j a;exact h _ (List.getElem_mem a)
 ·intro h x hx;obtain ⟨j,a,rfl⟩:=List.getElem_of_mem hx;exact h j a
def GH (x:Nd) (u k:Value):List Value:= [.int .i64 x.op,.int .i64 x.num,.string x.text,u,k]
def Ir:List Nd→List Value→List Value→List Value
 | x ::N,u ::nv,k ::kv=>GH x u k ++Ir N nv kv
 | _,_,_=> []
theorem Su:∀ (N:List Nd) (a b:List Value),a.length=N.length→b.length=N.length→(Ir N a b).length=N.length * 5
 | [],_,_,_,_=>by simp[Ir]
 | x ::N, [],_,h,_=>by simp at h
 | x ::N,_ ::_, [],_,h=>by simp at h
 | x ::N,u ::a,k ::b,h,h'=>by
  have:=Su N a b (by simpa using h) (by simpa using h');simp only[Ir,GH,List.length_append,List.length_cons,List.length_nil,this];omega
theorem Pf:∀ (N:List Nd) (a b:List Value) (x:Nd) (u k:Value),a.length=N.length→b.length=N.length→Ir (N ++ [x]) (a ++ [u]) (b ++ [k])=Ir N a b ++GH x u k
 | [], [], [],x,u,k,_,_=>by simp[Ir]
 | [],_ ::_,_,x,u,k,h,_=>by simp at h
 | [], [],_ ::_,x,u,k,_,h=>by simp at h
 | y ::N, [],_,x,u,k,h,_=>by simp at h
 | y ::N,_ ::_, [],x,u,k,_,h=>by simp at h
 | y ::N,z ::a,t ::b,x,u,k,h,h'=>by
  have:=Pf N a b x u k (by simpa using h) (by simpa using h');simp only[List.cons_append,Ir,this,List.append_assoc]
theorem MZ:∀ (N:List Nd) (a b:List Value) (j:Nat) (h:j < N.length) (c:j < a.length) (h2:j < b.length),∀ r,r < 5→(Ir N a b)[j * 5+r]? =(GH N[j] a[j] b[j])[r]?
 | x ::N,u ::a,k ::b,0,_,_,_,r,hr=>by
  rw[Ir,Nat.zero_mul,Nat.zero_add,List.getElem?_append_left (by simp[GH];omega)];rfl
 | x ::N,u ::a,k ::b,j+1,h,c,h2,r,hr=>by
  have d:=MZ N a b j (by simpa using h) (by simpa using c) (by simpa using h2) r hr;rw[Ir,List.getElem?_append_right (by simp[GH];omega)];have e:(j+1) * 5+r - (GH x u k).length=j * 5+r:=by simp[GH];omega
  rw[e,d];rfl
 | [],_,_,_,h,_,_,_,_=>absurd h (by simp)
 | _ ::_, [],_,_,_,h,_,_,_=>absurd h (by simp)
 | _ ::_,_ ::_, [],_,_,_,h,_,_=>absurd h (by simp)
structure BY (w:World) (lo:Nat) (v:Value) (N:List Nd) (nv kv:List Value):Prop where
 len:nv.length=N.length
 lenk:kv.length=N.length
 own:w.ownsRow lo 114 5 v N.length (Ir N nv kv)
 names:∀ j,(h:j < N.length)→(h':j < nv.length)→w.ownsRow lo 9 1 nv[j] N[j].names.length (N[j].names.map Value.string)
 kids:∀ j,(h:j < N.length)→(h':j < kv.length)→w.ownsRow lo 3 1 kv[j] N[j].kids.length (AN N[j].kids)
 apart:∀ i j,(hij:i < j)→(h:j < nv.length)→∀ q,(nv[i]'(by omega)).ownBlock=some q→nv[j].ownBlock≠some q
 apartk:∀ i j,(hij:i < j)→(h:j < kv.length)→∀ q,(kv[i]'(by omega)).ownBlock=some q→kv[j].ownBlock≠some q
theorem BY.nil (w:World)(lo:Nat):BY w lo (.slice none 0 0) [] [] []:=
 ⟨rfl,rfl,World.ownsRow_nil _ _ _ _,fun j h=>absurd h (by simp),fun j h=>absurd h (by simp),fun i j _ h=>absurd h (by simp),fun i j _ h=>absurd h (by simp)⟩
theorem Ac {w w':World}{a:Nat}{e:TypeId}{size n:Nat}{v:Value}{b:List Value}(h:w.ownsRow a e size v n b)(d:∀ q,v.ownBlock=some q→w'.heap[q]? =w.heap[q]?):w'.ownsRow a e size v n b:=by
 refine ⟨h.1, ?_⟩;rcases h.2 with h2 | ⟨g,cap,f,c,i,j,h4⟩
 ·exact .inl h2
 ·exact .inr ⟨g,cap,f,c,i,(d g (by rw[c];rfl)).trans j,h4⟩
theorem BY.lts {w:World}{lo:Nat}{v:Value}{N:List Nd}{b c:List Value}(h:BY w lo v N b c):(∀ q,v.ownBlock=some q→lo≤q∧q < w.heap.size)∧(∀ j,(a:j < b.length)→∀ q,b[j].ownBlock=some q→lo≤q∧q < w.heap.size)∧∀ j,(a:j < c.length)→∀ q,c[j].ownBlock=some q→lo≤q∧q < w.heap.size:=
 ⟨h.own.lt,fun j a=>(h.names j (by rw[← h.len];exact a) a).lt,fun j a=>(h.kids j (by rw[← h.lenk];exact a) a).lt⟩
theorem BY.upto {w w':World}{lo:Nat}{v:Value}{N:List Nd}{c d:List Value}(h:BY w lo v N c d)(h1:∀ q,v.ownBlock=some q→w'.heap[q]? =w.heap[q]?)(h2:∀ j,(a:j < c.length)→∀ q,c[j].ownBlock=some q→w'.heap[q]? =w.heap[q]?)(h3:∀ j,(a:j < d.length)→∀ q,d[j].ownBlock=some q→w'.heap[q]? =w.heap[q]?):BY w' lo v N c d:=
 ⟨h.len,h.lenk,Ac h.own h1,fun j a b=>Ac (h.names j a b) (h2 j b),fun j a b=>Ac (h.kids j a b) (h3 j b),h.apart,h.apartk⟩
theorem BY.blocks {w w':World}{lo:Nat}{v:Value}{N:List Nd}{c d:List Value}(h:BY w lo v N c d)(b:∀ k,lo≤k→k < w.heap.size→w'.heap[k]? =w.heap[k]?):BY w' lo v N c d:=
 h.upto (fun q hq=>b q (h.lts.1 q hq).1 (h.lts.1 q hq).2) (fun j a q hq=>b q (h.lts.2.1 j a q hq).1 (h.lts.2.1 j a q hq).2) (fun j a q hq=>b q (h.lts.2.2 j a q hq).1 (h.lts.2.2 j a q hq).2)
theorem Al {w:World}{B B' n i size j:Nat}{e e':TypeId}{v f:Value}{k l:List Value}(h:w.ownsRow B e size v n k)(m:w.ownsRow B' e' j f i l)(o:e≠e'):∀ q,v.ownBlock=some q→f.ownBlock≠some q:=fun q hq b=>by
 rcases h.2 with ⟨c,_⟩ | ⟨g,cap,s,c,_,p,_⟩
 ·rw[c] at hq;cases hq
 rcases m.2 with ⟨d,_⟩ | ⟨r,t,u,d,_,a,_⟩
 ·rw[d] at b;cases b
 rw[c] at hq;rw[d] at b;obtain rfl:g=q:=by simpa[Value.ownBlock] using hq
 obtain rfl:r=g:=by simpa[Value.ownBlock] using b
 rw[p] at a;injection a with a;injection a with _ a;exact o a
def Zo (v:Value) (nv kv:List Value) (hi:Nat):Prop:=(∀ q,v.ownBlock=some q→q < hi)∧(∀ j,(hj:j < nv.length)→∀ q,nv[j].ownBlock=some q→q < hi)∧∀ j,(hj:j < kv.length)→∀ q,kv[j].ownBlock=some q→q < hi
def YV (x:Nd):Prop:=x.names.length≤1048576∧x.kids.length≤1048576∧∀ s∈x.names,s.size≤maxLen
end Go.Proofs.YtdldimphcpojoaaGreatDoor
