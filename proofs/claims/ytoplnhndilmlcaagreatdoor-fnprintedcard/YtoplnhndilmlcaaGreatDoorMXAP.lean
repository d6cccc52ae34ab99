/-
  LTO, LTP, LTL, LTN, LTR, LTS, QL. Own work.
-/
import Derived.Test.YtoplnhndilmlcaaGreatDoorMXAO
import Derived.Test.YtoplnhndilmlcaaGreatDoorMXAJ
import Derived.Test.YtoplnhndilmlcaaGreatDoorMXAQ
import Derived.Test.YtoplnhndilmlcaaGreatDoorMXAK
import Derived.Test.YtoplnhndilmlcaaGreatDoorMXAR
namespace Go.Proofs.YtoplnhndilmlcaaGreatDoor
open Go.RowKit
set_option linter.unusedVariables false
theorem A7 {w:World}{b:Nat}{e:TypeId}{size g n cap:Nat}{c:List Value}(h:w.ownsRow b e size (.slice (some ⟨g,0,none⟩) n cap) n c)(j:Nat)(u:Value):(w.setCell ⟨g,j,none⟩ u).ownsRow b e size (.slice (some ⟨g,0,none⟩) n cap) n (c.set j u):=by
 refine ⟨by rw[List.length_set];exact h.1, ?_⟩;rcases h.2 with ⟨a,_⟩ | ⟨l,m,d,a,f,i,k,hm,hs,ht⟩
 ·cases a
 ·cases a;refine .inr ⟨g,cap,d.setIfInBounds j u,rfl,f,heap_setCell_same w g j d e u i,k,hm,by simpa using hs, ?_⟩;rw[Array.toList_setIfInBounds,List.take_set,ht]
theorem LT:∀ (N:List Nd) (c d:List Value) (j:Nat) (h:j < N.length) (f:c.length=N.length) (l:d.length=N.length) (y:Nd) (a b:Value),DA (N.set j y) (c.set j a) (d.set j b)=(((((DA N c d).set (j * 5) (.int .i64 y.op)).set (j * 5+1) (.int .i64 y.num)).set (j * 5+2) (.string y.text)).set (j * 5+3) a).set (j * 5+4) b
 | x ::N,u ::c,k ::d,0,_,_,_,y,a,b=>by simp[DA,Gi]
 | x ::N,u ::c,k ::d,j+1,h,f,l,y,a,b=>by
  have n:=LT N c d j (by simpa using h) (by simpa using f) (by simpa using l) y a b;have e:∀ (g:List Value) i v,(Gi x u k ++g).set ((j+1) * 5+i) v=Gi x u k ++g.set (j * 5+i) v:=fun g i v=>by
   rw[List.set_append_right _ _ (by simp[Gi];omega)]
   congr 2
   simp[Gi];omega
  simp only[List.set_cons_succ,DA];rw[n];have m:=e (DA N c d) 0 (.int .i64 y.op);simp only[Nat.add_zero] at m;rw[m,e,e,e,e]
 | [],_,_,_,h,_,_,_,_,_=>absurd h (by simp)
 | _ ::_, [],_,_,_,f,_,_,_,_=>by simp at f
 | _ ::_,_ ::_, [],_,_,_,f,_,_,_=>by simp at f
theorem NR:∀ (S:List St) (j:Nat) (h:j < S.length) (s:St),AR (S.set j s)=((((AR S).set (j * 4) (.int .i64 s.kind)).set (j * 4+1) (.string s.name)).set (j * 4+2) (.int .i64 s.cond)).set (j * 4+3) (.int .i64 s.grant)
 | x ::S,0,_,s=>by simp[AR]
 | x ::S,j+1,h,s=>by
  have d:=NR S j (by simpa using h) s;have c:∀ (y:St) (a:List St),AR (y ::a)= [.int .i64 y.kind,.string y.name,.int .i64 y.cond,.int .i64 y.grant] ++AR a:=fun y a=>by simp[AR]
  have e:∀ (a:List Value) i v,([Value.int .i64 x.kind,.string x.name,.int .i64 x.cond,.int .i64 x.grant] ++a).set ((j+1) * 4+i) v= [.int .i64 x.kind,.string x.name,.int .i64 x.cond,.int .i64 x.grant] ++a.set (j * 4+i) v:=fun a i v=>by
   rw[List.set_append_right _ _ (by simp;omega)]
   congr 2
   simp;omega
  rw[List.set_cons_succ,c,d,c];have b:=e (AR S) 0 (.int .i64 s.kind);simp only[Nat.add_zero] at b;rw[b,e,e,e]
 | [],_,h,_=>absurd h (by simp)
def XC (w:World) (x:Nd) (u k:Value):Prop:=∃ an cn ak ck,u= .slice an x.names.length cn∧k= .slice ak x.kids.length ck∧Bb w an x.names.length cn x.names∧Do w ak x.kids.length ck x.kids
theorem XC.below {w w':World}{B:Nat}{x:Nd}{u k:Value}(h:XC w x u k)(a:Below B w w')(b:w.heap.size≤B):XC w' x u k:=by
 obtain ⟨an,c,d,f,e1,e2,h1,h2⟩:=h;exact ⟨an,c,d,f,e1,e2,h1.below a b,h2.below a b⟩
theorem A6.vw {w:World}{lo:Nat}{v:Value}{N:List Nd}{b c:List Value}(h:A6 w lo v N b c)(ok:∀ x∈N,okN x)(j:Nat)(a:j < N.length)(h1:j < b.length)(h2:j < c.length):XC w N[j] b[j] c[j]:=by
 obtain ⟨an,l,hu⟩:=AK (h.names j a h1);obtain ⟨m,n,d⟩:=AK (h.kids j a h2);have f:=h.names j a h1;have g:=h.kids j a h2;rw[hu] at f;rw[d] at g;have k:=ok _ (List.getElem_mem a);refine ⟨an,l,m,n,hu,d,Bb.of_owns f (fun i hi=>?_),BN g rfl k.2.1⟩;rw[Cz _ i hi];exact k.2.2 _ (List.getElem_mem hi)
theorem Aa6 {w:World}{lo n c:Nat}{a:Option Addr}{N:List Nd}{b d:List Value}(own:w.ownsRow lo 80 5 (.slice a n c) n (DA N b d))(o:N.length=n)(len:b.length=N.length)(lenk:d.length=N.length)(hs:n≤1048576)(ok:∀ x∈N,x.text.size≤1048576)(v:∀ j,(h:j < N.length)→(h1:j < b.length)→(h2:j < d.length)→XC w N[j] b[j] d[j]):Fe w a n c N:=by
 refine ⟨o,hs,fun x hx=>ok x hx,fun j k=>?_⟩;have p:j < b.length:=by rw[len];exact k
 have q:j < d.length:=by rw[lenk];exact k
 have f:=Ii N b d j k p q;have r:=f 0 (by decide);have s:=f 1 (by decide);have t:=f 2 (by decide);have l:=f 3 (by decide);have m:=f 4 (by decide);simp only[Gi,Nat.add_zero,List.getElem?_cons_zero,List.getElem?_cons_succ] at r s t l m;obtain ⟨g,y⟩:∃ g,a=some ⟨g,0,none⟩:=by
  rcases own.2 with ⟨_,h0⟩ | ⟨g,cap,H,u,_⟩
  ·omega
  ·simp only[Value.slice.injEq] at u;exact ⟨g,u.1⟩
 subst y;subst o;have I:=Pm N b d len lenk;have cell:∀ i,i < 5→w.cell? ⟨g,0+j * 5+i,none⟩=(DA N b d)[j * 5+i]? :=fun i hi=>by
  rw[Nat.zero_add];exact own.cellAt (g:=g) (n:=N.length) (j * 5+i) (by omega)
 obtain ⟨an,z,A,B,hu,C,E,F⟩:=v j k p q;rw[hu] at l;rw[C] at m;exact ⟨g,0,rfl,(own.lt g rfl).2,an,_,z,A,_,B,(cell 0 (by omega)).trans r,(cell 1 (by omega)).trans s,(cell 2 (by omega)).trans t,(cell 3 (by omega)).trans l,(cell 4 (by omega)).trans m,E,F⟩
def YX (lo:Nat) (w:World) (a:Option Addr) (n c:Nat) (N:List Nd):Prop:=∀ W:World,(∀ q,lo≤q→W.heap[q]? =w.heap[q]?)→Fe W a n c N
def Zp (lo:Nat) (w:World) (a:Option Addr) (n c:Nat) (L:List St):Prop:=∀ W:World,(∀ q,lo≤q→W.heap[q]? =w.heap[q]?)→KU W a n c L
theorem LU {w:World}{lo b n c:Nat}{a:Option Addr}{N:List Nd}{d f:List Value}(own:w.ownsRow b 80 5 (.slice a n c) n (DA N d f))(k:lo≤b)(l:N.length=n)(len:d.length=N.length)(lenk:f.length=N.length)(hs:n≤1048576)(ok:∀ x∈N,x.text.size≤1048576)(m:∀ g:World,(∀ q,lo≤q→g.heap[q]? =w.heap[q]?)→∀ j,(h:j < N.length)→(h1:j < d.length)→(h2:j < f.length)→XC g N[j] d[j] f[j]):YX lo w a n c N:=fun g i=>
 Aa6 (Ac own (fun q hq=>i q (Nat.le_trans k (own.lt q hq).1))) l len lenk hs ok (m g i)
theorem LV {w:World}{lo b n c:Nat}{a:Option Addr}{L:List St}(h:w.ownsRow b 51 4 (.slice a n c) n (AR L))(d:lo≤b)(f:L.length=n)(g:n≤1048576)(ok:∀ s∈L,s.name.size≤1048576):Zp lo w a n c L:=fun j i=>
 GD (Ac h (fun q hq=>i q (Nat.le_trans d (h.lt q hq).1))) f g ok
theorem LW {w:World}{p:Array Oper}{q:List Oper}{d:Oper}{a:Act}{r:Exit→Act→World→Prop}(v:d.guard=none)(s x:Operand)(t:TypeId)
  (y:d.op= .call { callee:= .builtin .append,args:=#[s,x],argTypes:=#[t,t] })(e:TypeId)(i:TypeInfo)(l:Value)(size m:Nat)(ht: Tryz.prog.underlying t=some (.slice e))(hi: Tryz.prog.info? e=some i)(A:i.zero=some l)
  (B:i.size=size)(C:i.bytes=m)(E:l.cells.size=size)(F: 0 < size)(lo n c:Nat)(z:Option Addr)(b:List Value)(hs:a.eval s= .slice none 0 0)(hx:a.eval x= .slice z n c)(hq:w.ownsRow lo e size (.slice z n c) n b)(h1:∀ u∈b,u.oneCell'=true)(K:n≤maxLen)(H:n * m≤140737488355328)
  (h:∀ f w',w'.ownsRow w.heap.size e size f n b→Below w.heap.size w w'→wpList Tryz.prog p r q (a.put d.dst f) w'):wpList Tryz.prog p r (d ::q) a w:=by
 rcases hq.2 with ⟨o,h0⟩ | ⟨g,cap,L,o,M,N,O,hm,P,Q⟩
 ·cases o;have hy:b= []:=List.eq_nil_of_length_eq_zero (by have:=hq.1;simpa using this);subst hy;exact wpList_append_own_none v s x t y w.heap.size e i size ht hi _ 0 [] hs (World.ownsRow_nil _ _ _ _) hx (h _ w (World.ownsRow_nil _ _ _ _) BRN)
 ·cases o;refine wpList_append_own _ v s x t y w.heap.size e i l size m ht hi A B C E F (.slice none 0 0) 0 [] hs (World.ownsRow_nil _ _ _ _) ⟨g,0,none⟩ n c b hx hq.1 (fun j u hu=>?_) h1 (by omega) (by rw[Nat.zero_add];exact H) NLN (fun f w' h2 h3 _=>h f w' (by simpa using h2) (BRN.grown h3 NLN (fun k hk=>by cases hk)));have I:j < n * size:=by have:=(List.getElem?_eq_some_iff.1 hu).1;rw[hq.1] at this;exact this
  have J:(⟨g,0,none⟩:Addr).add j=⟨g,j,none⟩:=by by_cases e:j=0 <;> simp[Addr.add,e]
  rw[J,hq.cellAt j I,hu]
theorem Uw:∀ (N:List Nd) (c d:List Value) (u:Value),u∈DA N c d→(∃ f,u= .int .i64 f)∨(∃ s,u= .string s)∨u∈c∨u∈d
 | [],_,_,u,h=>by simp[DA] at h
 | _ ::_, [],_,u,h=>by simp[DA] at h
 | _ ::_,_ ::_, [],u,h=>by simp[DA] at h
 | x ::N,a ::c,b ::d,u,h=>by
  rw[DA,List.mem_append] at h;rcases h with h | h
  ·simp only[Gi,List.mem_cons,List.not_mem_nil,or_false] at h;rcases h with h | h | h | h | h
   ·exact .inl ⟨_,h⟩
   ·exact .inl ⟨_,h⟩
   ·exact .inr (.inl ⟨_,h⟩)
   ·exact .inr (.inr (.inl (by rw[h];simp)))
   ·exact .inr (.inr (.inr (by rw[h];simp)))
  ·rcases Uw N c d u h with h | h | h | h
   ·exact .inl h
   ·exact .inr (.inl h)
   ·exact .inr (.inr (.inl (List.mem_cons_of_mem _ h)))
   ·exact .inr (.inr (.inr (List.mem_cons_of_mem _ h)))
theorem A6.one {w:World}{lo:Nat}{v:Value}{N:List Nd}{b c:List Value}(h:A6 w lo v N b c):∀ u∈DA N b c,u.oneCell'=true:=fun u hu=>by
 rcases Uw N b c u hu with ⟨f,rfl⟩ | ⟨s,rfl⟩ | hm | hm
 ·rfl
 ·rfl
 ·obtain ⟨j,a,rfl⟩:=List.getElem_of_mem hm;obtain ⟨an,d,e⟩:=AK (h.names j (by rw[← h.len];exact a) a);rw[e];rfl
 ·obtain ⟨j,a,rfl⟩:=List.getElem_of_mem hm;obtain ⟨an,d,e⟩:=AK (h.kids j (by rw[← h.lenk];exact a) a);rw[e];rfl
theorem XD (S:List St):∀ u∈AR S,u.oneCell'=true:=fun u hu=>by
 simp only[AR,List.mem_flatMap,List.mem_cons,List.not_mem_nil,or_false] at hu;obtain ⟨s,_,h | h | h | h⟩:=hu <;> rw[h] <;> rfl
theorem Zq:(Tryz.prog.info? 80).map (fun i=>(i.zero,i.size,i.bytes))=some (some (.agg #[.int .i64 0,.int .i64 0,.string ByteArray.empty,.slice none 0 0,.slice none 0 0]),5,80):=by kernel_rfl
theorem NP.len {zs:List Int}{L:Wz} :∀ {k p q:Nat} {N M:List Nd},NP zs L k p N q M→M.length=N.length+k
 | 0,_,_,_,_,h=>by cases h
 | 1,_,_,_,_,h=>by obtain ⟨y,_,rfl⟩:=h;simp
 | k+2,_,_,_,_,h=>by
  obtain ⟨a,a1,rfl⟩:=h;have:=NP.len a1;simp;omega
def Na (d:Nat):Nat→Nat→List Nd→List St→Nat→List Nd→List St→Prop
 | 0,p,N,S,q,M,T=>q=p∧M=N∧T=S
 | k+1,p,N,S,q,M,T=>∃ p1 N1,NP [] [] d p N p1 N1∧Na d k p1 N1 (S ++ [⟨2,⟨#[]⟩,Ay N1,-1⟩]) q M T
theorem Na.unique {d:Nat} :∀ {k p q a:Nat} {N M b:List Nd} {S T c:List St},Na d k p N S q M T→Na d k p N S a b c→q=a∧M=b∧T=c
 | 0,_,_,_,_,_,_,_,_,_,h,h'=>⟨by rw[h.1,h'.1],by rw[h.2.1,h'.2.1],by rw[h.2.2,h'.2.2]⟩
 | k+1,_,_,_,_,_,_,_,_,_,h,h'=>by
  obtain ⟨f,g,a1,a2⟩:=h;obtain ⟨i,j,b1,b2⟩:=h';obtain ⟨rfl,rfl⟩:=a1.unique b1;exact Na.unique a2 b2
def Aa4 (k:Nat):Nat:=if k≤1 then 600+k else if k≤3 then 2 else 63
def Aa5 (k:Nat):Nat:=if k≤1 then 1 else if k≤3 then 62+k else 64
def QN (k:Nat) (M:List Nd) (T:List St):Prop:=
 ∃ q N S,Na (Aa5 k) (Aa4 k - 1) 0 [] [] q N S∧if 3 < k then ∃ q2,NP [] [] (28+k) q N q2 M∧T=S ++ [⟨2,⟨#[]⟩,Ay M,-1⟩] ++ [⟨3,⟨#[]⟩,-1,-1⟩] else M=N∧T=S ++ [⟨3,⟨#[]⟩,-1,-1⟩]
theorem QN.unique {k:Nat}{M a:List Nd}{T b:List St}(h:QN k M T)(d:QN k a b):M=a∧T=b:=by
 obtain ⟨q,N,S,a1,a2⟩:=h;obtain ⟨f,g,i,b1,b2⟩:=d;obtain ⟨rfl,rfl,rfl⟩:=a1.unique b1;split at a2
 ·rename_i c;rw[if_pos c] at b2;obtain ⟨r,c1,c2⟩:=a2;obtain ⟨j,d1,d2⟩:=b2;obtain ⟨rfl,rfl⟩:=c1.unique d1;exact ⟨rfl,by rw[c2,d2]⟩
 ·rename_i c;rw[if_neg c] at b2;exact ⟨by rw[a2.1,b2.1],by rw[a2.2,b2.2]⟩
theorem Pl {B R k b g:Nat}{a:Option Addr}{n c:Nat}{zs:List Int}{wild:Bool}{p:Nat}{N:List Nd}{L:List (ByteArray × Int)}{nd lt:Value}{S:List St}{h:Value}{w f d:World}{l m o:Int}{nm:ByteArray}{g7 c7:Nat}(G:FV B R k a n c zs wild p N L nd lt f)(P:Uv f B b S h)(Z:Aj f g #[.slice none 0 0,.slice none 0 0] 26)(y:Below B w f)(z:B≤b)(h0:g≠b)(r:Obj)(A:nm.size≤1048576)(t:(f.alloc r).grownBy d h.ownBlock)(u:d.ownsRow B 51 4 (.slice (some ⟨g7,0,none⟩) (S.length+1) c7) (S.length+1) (AR S ++ [.int .i64 l,.string nm,.int .i64 m,.int .i64 o])):
  FV B R k a n c zs wild p N L nd lt (d.setCell ⟨b,1,none⟩ (.slice (some ⟨g7,0,none⟩) (S.length+1) c7))∧Uv (d.setCell ⟨b,1,none⟩ (.slice (some ⟨g7,0,none⟩) (S.length+1) c7)) B b (S ++ [⟨l,nm,m,o⟩]) (.slice (some ⟨g7,0,none⟩) (S.length+1) c7)∧Aj (d.setCell ⟨b,1,none⟩ (.slice (some ⟨g7,0,none⟩) (S.length+1) c7)) g #[.slice none 0 0,.slice none 0 0] 26∧Below B w (d.setCell ⟨b,1,none⟩ (.slice (some ⟨g7,0,none⟩) (S.length+1) c7)):=by
 have C:=G.lt.1.1;have E:=(Below.refl B f).alloc C r;have v:Below B f d:=E.grown t (by simp;omega) (fun q hq=>(P.st.lt q hq).1);have gk:=Ao t;have F:=G.others v 51 (fun q=>h.ownBlock=some q) (fun q hq=> .inr ⟨_,_,_,_,_,hq,P.st⟩) (by decide) (by decide) (by decide) (by decide) (by decide) (by decide) (fun q h1 h2=>gk q h1 h2);have i:Aj d b #[.slice none 0 0,h] 26:=⟨(gk b P.row.lt (Ad P.row P.st (by decide))).trans P.row.out⟩
 have H:Aj d g #[.slice none 0 0,.slice none 0 0] 26:=⟨(gk g Z.lt (Ad Z P.st (by decide))).trans Z.out⟩
 have j:∀ q,q≠b→(d.setCell ⟨b,1,none⟩ (.slice (some ⟨g7,0,none⟩) (S.length+1) c7)).heap[q]? =d.heap[q]? :=fun q hq=>heap_setCell_other d ⟨b,1,none⟩ q _ hq;have x:Below B d (d.setCell ⟨b,1,none⟩ (.slice (some ⟨g7,0,none⟩) (S.length+1) c7)):=(Below.refl B d).setCell (p:=⟨b,1,none⟩) z _;refine ⟨F.others x 26 (fun q=>q=b) (fun q hq=> .inl ⟨#[.slice none 0 0,h],by rw[hq];exact i⟩) (by decide) (by decide) (by decide) (by decide) (by decide) (by decide) (fun q _ hq=>j q hq),⟨i.set 1 _, ?_,fun s hs=>?_⟩,⟨(j g h0).trans H.out⟩,(y.trans v).trans x⟩
 ·rw[Io,List.length_append];exact Ac u (fun q hq=>j q (fun e=>Ad i u (by decide) (by rw[hq,e])))
 ·rcases List.mem_append.1 hs with hs | hs
  ·exact P.good s hs
  ·rw[List.mem_singleton.1 hs];exact A
def I7 (c:Int) (s:St):St:=
 if c / 3 % 7=0 then ⟨wrap64 (1+s.kind.tmod 3),s.name,s.cond,s.grant⟩
 else if c / 3 % 7=1 then ⟨s.kind,⟨#[105,102]⟩,s.cond,s.grant⟩
 else if c / 3 % 7=2 then ⟨s.kind,s.name,wrap64 (s.cond+1),s.grant⟩
 else if c / 3 % 7=3 then ⟨s.kind,s.name,s.cond,wrap64 (s.grant - 1)⟩
 else if c / 3 % 7=4 then ⟨s.kind,s.name,-1,s.grant⟩
 else if c / 3 % 7=5 then ⟨s.kind,⟨#[]⟩,s.cond,s.grant⟩
 else s
def Fa (zs:List Int) (p:Nat) (c:Int) (i:Nat) (x:Nd):Nd:=
 if c / 3 % 10=0 then ⟨wrap64 (1+(wrap64 (x.op+c)).tmod 28),x.num,x.text,x.names,x.kids⟩
 else if c / 3 % 10=1 then ⟨x.op,-1,x.text,x.names,x.kids⟩
 else if c / 3 % 10=2 then ⟨x.op,wrap64 (x.num+1),x.text,x.names,x.kids⟩
 else if c / 3 % 10=3 then ⟨x.op,x.num,x.text ++⟨#[97]⟩,x.names,x.kids⟩
 else if c / 3 % 10=4 then ⟨x.op,x.num,x.text,(Ft zs p x.names).1,x.kids⟩
 else if c / 3 % 10=5 then ⟨x.op,x.num,x.text,x.names,((i:Int) - 1) ::x.kids⟩
 else if c / 3 % 10=6 then ⟨x.op,x.num,x.text,x.names,x.kids.map fun k=>wrap64 (k - 1)⟩
 else if c / 3 % 10=7 then ⟨x.op,x.num,x.text,x.names, []⟩
 else if c / 3 % 10=8 then x
 else ⟨x.op,x.num,⟨#[116,104,101,110]⟩,x.names,x.kids⟩
def Tf:Nd:=⟨1,0,⟨#[]⟩, [], []⟩
def Iq (zs:List Int) (p:Nat) (N:List Nd) (S:List St):List Nd × List St:=
 let c:=(nx zs p).1
 let i:=(nx zs (nx zs p).2).1
 let p2:=(nx zs (nx zs p).2).2
 if c % 3=0∧0 < S.length then
  let j:=(i % (S.length:Int)).toNat
  (N,if c / 3 % 7=6 then S ++ [S.getD j ⟨0,⟨#[]⟩,0,0⟩] else S.set j (I7 c (S.getD j ⟨0,⟨#[]⟩,0,0⟩)))
 else if N.length=0 then (N ++ [Tf],S)
 else
  let j:=(i % (N.length:Int)).toNat
  (if c / 3 % 10=8 then N ++ [N.getD j Tf] else N.set j (Fa zs p2 c j (N.getD j Tf)),S)
def Nb (zs:List Int) (N:List Nd) (S:List St):Prop:=
 if 250≤(nx zs 0).1 then QN ((nx zs 0).1 - 250).toNat N S
 else ∃ M T,M7 zs (decide ((nx zs 0).1 % 4=3)) (nx zs 0).2 M T∧if (nx zs 0).1 % 5=4 then (N,S)=Iq zs (zs.length / 2) M T else N=M∧S=T
theorem Nb.unique {zs:List Int}{N b:List Nd}{S d:List St}(h:Nb zs N S)(a:Nb zs b d):N=b∧S=d:=by
 unfold Nb at h a;split at h
 ·rename_i c;rw[if_pos c] at a;exact h.unique a
 ·rename_i c;rw[if_neg c] at a;obtain ⟨M,T,a1,a2⟩:=h;obtain ⟨f,g,b1,b2⟩:=a;obtain ⟨rfl,rfl⟩:=a1.unique b1;split at a2
  ·rename_i c;rw[if_pos c] at b2;exact Prod.mk.inj (a2.trans b2.symm)
  ·rename_i c;rw[if_neg c] at b2;exact ⟨a2.1.trans b2.1.symm,a2.2.trans b2.2.symm⟩
theorem Ja {w c:World}{R lo:Nat}{v:Value}{N:List Nd}{f g:List Value}{i:Array Value}(a:A6 w lo v N f g)(k:Aj w R i 63)(T:Ai R (R+1) w c):A6 c lo v N f g:=by
 have d:∀ {e:TypeId} {size n:Nat} {u:Value} {l:List Value},w.ownsRow lo e size u n l→63≠e→∀ q,u.ownBlock=some q→c.heap[q]? =w.heap[q]? :=fun h m q hq=>T.block q (h.lt q hq).2 (by
  have:q≠R:=fun e=>Ad k h m (by rw[hq,e]);omega)
 exact a.upto (fun q hq=>d a.own (by decide) q hq) (fun j b q hq=>d (a.names j (by rw[← a.len];exact b) b) (by decide) q hq) (fun j b q hq=>d (a.kids j (by rw[← a.lenk];exact b) b) (by decide) q hq)
theorem GZ {w a b:World}{R lo:Nat}{v:Value}{N:List Nd}{c d:List Value}{f:Array Value}(g:A6 w lo v N c d)(i:Aj w R f 63)(T:Ai R (R+1) w a)(j:∀ q,lo≤q→b.heap[q]? =a.heap[q]?):A6 b lo v N c d:=
 (Ja g i T).blocks (fun k h _=>j k h)
theorem XF {w a:World}{R lo b c1:Nat}{v:Value}{N:List Nd}{d f:List Value}{i:Array Value}{g:Option Addr}(c:A6 w lo v N d f)(ok:∀ x∈N,Sl x)(o:N.length≤100000)(k:Aj w R i 63)(T:Ai R (R+1) w a)(l:a.ownsRow b 80 5 (.slice g N.length c1) N.length (DA N d f))(m:lo≤b):YX lo a g N.length c1 N:=
 LU l m rfl c.len c.lenk (by omega) (fun x hx=>Nat.le_trans (ok x hx).2.1 (by decide)) (fun p n j h h1 h2=>(GZ c k T n).vw (fun x hx=>(ok x hx).1) j h h1 h2)
def stW (w5:World) (g j:Nat) (s:St):World:=
 (((w5.setCell ⟨g,j * 4,none⟩ (.int .i64 s.kind)).setCell ⟨g,j * 4+1,none⟩ (.string s.name)).setCell ⟨g,j * 4+2,none⟩ (.int .i64 s.cond)).setCell ⟨g,j * 4+3,none⟩ (.int .i64 s.grant)
theorem Ir {w a:World}{R lo b b1 c1 c2 g2:Nat}{v:Value}{N:List Nd}{S:List St}{f g:List Value}{n:Array Value}{c:Option Addr}(o:A6 w lo v N f g)(ok:∀ x∈N,Sl x)(r:N.length≤100000)(H:S.length≤701)(t:∀ s∈S,s.name.size≤1048576)(u:Aj w R n 63)(T:Ai R (R+1) w a)(k:a.ownsRow b 80 5 (.slice c N.length c1) N.length (DA N f g))(i:a.ownsRow b1 51 4 (.slice (some ⟨g2,0,none⟩) S.length c2) S.length (AR S))(y:w.heap.size≤b1)(z:lo≤w.heap.size)(A:lo≤b)(j:Nat)(B:j < S.length)(s:St)(hs:s.name.size≤1048576):
  YX lo (stW a g2 j s) c N.length c1 N∧Zp lo (stW a g2 j s) (some ⟨g2,0,none⟩) (S.set j s).length c2 (S.set j s)∧Ai R (R+1) w (stW a g2 j s):=by
 have d:w.heap.size≤g2:=by have:=(i.lt g2 rfl).1;omega
 have C:Below w.heap.size a (stW a g2 j s):=((((Below.refl w.heap.size a).setCell (p:=⟨g2,j * 4,none⟩) d _).setCell (p:=⟨g2,j * 4+1,none⟩) d _).setCell (p:=⟨g2,j * 4+2,none⟩) d _).setCell (p:=⟨g2,j * 4+3,none⟩) d _;have l:=T.then_below C NLN;have E:∀ q,(Value.slice c N.length c1).ownBlock=some q→q≠g2:=fun q hq e=>Ak k i (by decide) q hq (by rw[e];rfl);have F:(stW a g2 j s).ownsRow b 80 5 (.slice c N.length c1) N.length (DA N f g):=Ac k (fun q hq=>by
  have:=E q hq;unfold stW;rw[heap_setCell_other _ _ q _ this,heap_setCell_other _ _ q _ this,heap_setCell_other _ _ q _ this,heap_setCell_other _ _ q _ this])
 have m:=A7 (A7 (A7 (A7 i (j * 4) (.int .i64 s.kind)) (j * 4+1) (.string s.name)) (j * 4+2) (.int .i64 s.cond)) (j * 4+3) (.int .i64 s.grant);rw[← NR S j B s] at m;refine ⟨XF o ok r u l F A, ?_,l⟩;rw[List.length_set];exact LV m (Nat.le_trans z y) (by rw[List.length_set]) (by omega) (fun x hx=>by
  rcases List.mem_or_eq_of_mem_set hx with h | h
  ·exact t x h
  ·rw[h];exact hs)
theorem JG {zs:List Int}{p a b:Nat}{y i:Int}{N:List Nd}{S:List St}{j:Nat}(c:nx zs p=(y,a))(d:nx zs a=(i,b))(h:y % 3=0∧0 < S.length)(f:j=(i % (S.length:Int)).toNat)(g:j < S.length)(h6: ¬ y / 3 % 7=6):(N,S.set j (I7 y S[j]))=Iq zs p N S:=by
 unfold Iq;rw[c];dsimp only;rw[d];dsimp only;rw[if_pos h,if_neg h6,← f,List.getD_eq_getElem?_getD,List.getElem?_eq_getElem g];rfl
theorem Zs {zs:List Int}{p a b:Nat}{y i:Int}{N:List Nd}{S:List St}{j:Nat}(c:nx zs p=(y,a))(d:nx zs a=(i,b))(h:y % 3=0∧0 < S.length)(f:j=(i % (S.length:Int)).toNat)(g:j < S.length)(h6:y / 3 % 7=6):(N,S ++ [S[j]])=Iq zs p N S:=by
 unfold Iq;rw[c];dsimp only;rw[d];dsimp only;rw[if_pos h,if_pos h6,← f,List.getD_eq_getElem?_getD,List.getElem?_eq_getElem g];rfl
def Tg (w5:World) (g j:Nat) (y:Nd) (u k:Value):World:=
 ((((w5.setCell ⟨g,j * 5,none⟩ (.int .i64 y.op)).setCell ⟨g,j * 5+1,none⟩ (.int .i64 y.num)).setCell ⟨g,j * 5+2,none⟩ (.string y.text)).setCell ⟨g,j * 5+3,none⟩ u).setCell ⟨g,j * 5+4,none⟩ k
theorem FW {w a:World}{R lo b b1 c1 c2 g1:Nat}{v:Value}{N:List Nd}{S:List St}{g l:List Value}{E:Array Value}{m:Option Addr}(c:A6 w lo v N g l)(ok:∀ x∈N,Sl x)(O:N.length≤100000)(P:S.length≤700)(F:∀ s∈S,s.name.size≤1048576)(t:Aj w R E 63)(T:Ai R (R+1) w a)(n:a.ownsRow b 80 5 (.slice (some ⟨g1,0,none⟩) N.length c1) N.length (DA N g l))(H:w.heap.size≤b)(z:a.ownsRow b1 51 4 (.slice m S.length c2) S.length (AR S))(I:w.heap.size≤b1)(A:lo≤w.heap.size)(j:Nat)(J:j < N.length)(y:Nd)(u k:Value)(hy:y.text.size≤1048576)(B:∀ d:World,(∀ q,lo≤q→d.heap[q]? =(Tg a g1 j y u k).heap[q]?)→A6 d lo v N g l→XC d y u k):
  YX lo (Tg a g1 j y u k) (some ⟨g1,0,none⟩) (N.set j y).length c1 (N.set j y)∧Zp lo (Tg a g1 j y u k) m S.length c2 S∧Ai R (R+1) w (Tg a g1 j y u k):=by
 have f:w.heap.size≤g1:=by have:=(n.lt g1 rfl).1;omega
 have K:Below w.heap.size a (Tg a g1 j y u k):=(((((Below.refl w.heap.size a).setCell (p:=⟨g1,j * 5,none⟩) f _).setCell (p:=⟨g1,j * 5+1,none⟩) f _).setCell (p:=⟨g1,j * 5+2,none⟩) f _).setCell (p:=⟨g1,j * 5+3,none⟩) f _).setCell (p:=⟨g1,j * 5+4,none⟩) f _;have o:=T.then_below K NLN;have L:∀ q,(Value.slice m S.length c2).ownBlock=some q→q≠g1:=fun q hq e=>Ak z n (by decide) q hq (by rw[e];rfl);have M:(Tg a g1 j y u k).ownsRow b1 51 4 (.slice m S.length c2) S.length (AR S):=Ac z (fun q hq=>by
  have:=L q hq;unfold Tg;rw[heap_setCell_other _ _ q _ this,heap_setCell_other _ _ q _ this,heap_setCell_other _ _ q _ this,heap_setCell_other _ _ q _ this,heap_setCell_other _ _ q _ this])
 have C:=A7 (A7 (A7 (A7 (A7 n (j * 5) (.int .i64 y.op)) (j * 5+1) (.int .i64 y.num)) (j * 5+2) (.string y.text)) (j * 5+3) u) (j * 5+4) k;rw[← LT N g l j J c.len c.lenk y u k] at C;refine ⟨?_,LV M (Nat.le_trans A I) rfl (by omega) F,o⟩;rw[List.length_set];refine LU C (Nat.le_trans A H) (by rw[List.length_set]) (by simp[c.len]) (by simp[c.lenk]) (by omega) (fun x hx=>?_) (fun d r i h h1 h2=>?_)
 ·rcases List.mem_or_eq_of_mem_set hx with h | h
  ·exact Nat.le_trans (ok x h).2.1 (by decide)
  ·rw[h];exact hy
 ·rw[List.getElem_set,List.getElem_set,List.getElem_set];by_cases e:j=i
  ·rw[if_pos e,if_pos e,if_pos e];exact B d r (GZ c t o r)
  ·rw[if_neg e,if_neg e,if_neg e];exact (GZ c t o r).vw (fun x hx=>(ok x hx).1) i (by simpa using h) (by simpa using h1) (by simpa using h2)
theorem Ff {c:World}{lo:Nat}{v:Value}{N:List Nd}{a b:List Value}(d:A6 c lo v N a b)(ok:∀ x∈N,Sl x)(j:Nat)(f:j < N.length)(h1:j < a.length)(h2:j < b.length)(op num:Int)(g:ByteArray):XC c ⟨op,num,g,N[j].names,N[j].kids⟩ a[j] b[j]:=
 d.vw (fun x hx=>(ok x hx).1) j f h1 h2
theorem Aa7 {b:World}{lo:Nat}{v:Value}{N:List Nd}{a c:List Value}(f:A6 b lo v N a c)(ok:∀ x∈N,Sl x)(j:Nat)(g:j < N.length)(h1:j < a.length)(h2:j < c.length)(op num:Int)(d:ByteArray):XC b ⟨op,num,d,N[j].names, []⟩ a[j] (.slice none 0 0):=by
 obtain ⟨an,h,k,l,e1,e2,g1,g2⟩:=Ff f ok j g h1 h2 op num d;exact ⟨an,h,none,0,e1,rfl,g1,⟨rfl,Nat.zero_le _,fun i hi=>absurd hi (by simp)⟩⟩
theorem Zv {w d:World}{R lo b b1 c1 c2 g1:Nat}{v:Value}{N:List Nd}{S:List St}{a c:List Value}{z:Array Value}{k:Option Addr}(f:A6 w lo v N a c)(ok:∀ x∈N,Sl x)(J:N.length≤100000)(K:S.length≤700)(A:∀ s∈S,s.name.size≤1048576)(r:Aj w R z 63)(T:Ai R (R+1) w d)(j:Nat)(l:j < N.length)(h1:j < a.length)(h2:j < c.length)(m:d.ownsRow b 80 5 (.slice (some ⟨g1,0,none⟩) (N.length+1) c1) (N.length+1) (DA (N ++ [N[j]]) (a ++ [a[j]]) (c ++ [c[j]])))(B:w.heap.size≤b)(t:d.ownsRow b1 51 4 (.slice k S.length c2) S.length (AR S))(C:w.heap.size≤b1)(u:lo≤w.heap.size):
  YX lo (Tg d g1 j N[j] a[j] c[j]) (some ⟨g1,0,none⟩) (N ++ [N[j]]).length c1 (N ++ [N[j]])∧Zp lo (Tg d g1 j N[j] a[j] c[j]) k S.length c2 S∧Ai R (R+1) w (Tg d g1 j N[j] a[j] c[j]):=by
 have g:w.heap.size≤g1:=by have:=(m.lt g1 rfl).1;omega
 have E:Below w.heap.size d (Tg d g1 j N[j] a[j] c[j]):=(((((Below.refl w.heap.size d).setCell (p:=⟨g1,j * 5,none⟩) g _).setCell (p:=⟨g1,j * 5+1,none⟩) g _).setCell (p:=⟨g1,j * 5+2,none⟩) g _).setCell (p:=⟨g1,j * 5+3,none⟩) g _).setCell (p:=⟨g1,j * 5+4,none⟩) g _;have n:=T.then_below E NLN;have F:∀ q,(Value.slice k S.length c2).ownBlock=some q→q≠g1:=fun q hq e=>Ak t m (by decide) q hq (by rw[e];rfl);have H:(Tg d g1 j N[j] a[j] c[j]).ownsRow b1 51 4 (.slice k S.length c2) S.length (AR S):=Ac t (fun q hq=>by
  have:=F q hq;unfold Tg;rw[heap_setCell_other _ _ q _ this,heap_setCell_other _ _ q _ this,heap_setCell_other _ _ q _ this,heap_setCell_other _ _ q _ this,heap_setCell_other _ _ q _ this])
 have o:=A7 (A7 (A7 (A7 (A7 m (j * 5) (.int .i64 N[j].op)) (j * 5+1) (.int .i64 N[j].num)) (j * 5+2) (.string N[j].text)) (j * 5+3) a[j]) (j * 5+4) c[j];rw[← LT (N ++ [N[j]]) (a ++ [a[j]]) (c ++ [c[j]]) j (by simp;omega) (by simp[f.len]) (by simp[f.lenk]) N[j] a[j] c[j],List.set_append_left _ _ l,List.set_getElem_self,List.set_append_left _ _ h1,List.set_getElem_self,List.set_append_left _ _ h2,List.set_getElem_self] at o;refine ⟨?_,LV H (Nat.le_trans u C) rfl (by omega) A,n⟩;have I:N.length+1=(N ++ [N[j]]).length:=by simp
 rw[I] at o;refine LU o (Nat.le_trans u B) rfl (by simp[f.len]) (by simp[f.lenk]) (by simp;omega) (fun x hx=>?_) (fun L y i h g1 g2=>?_)
 ·rcases List.mem_append.1 hx with h | h
  ·exact Nat.le_trans (ok x h).2.1 (by decide)
  ·rw[List.mem_singleton.1 h];exact Nat.le_trans (ok _ (List.getElem_mem l)).2.1 (by decide)
 ·have e1:=f.len;have e2:=f.lenk;by_cases e:i < N.length
  ·rw[List.getElem_append_left e,List.getElem_append_left (by omega),List.getElem_append_left (by omega)];exact (GZ f r n y).vw (fun x hx=>(ok x hx).1) i e (by omega) (by omega)
  ·rw[List.getElem_append_right (by omega),List.getElem_append_right (by omega),List.getElem_append_right (by omega)];simp only[List.getElem_singleton];exact (GZ f r n y).vw (fun x hx=>(ok x hx).1) j l h1 h2
theorem Zt {w c:World}{R lo b b1 c1 c2:Nat}{v:Value}{N:List Nd}{S:List St}{d f:List Value}{n:Array Value}{a1 l:Option Addr}(a:A6 w lo v N d f)(ok:∀ x∈N,Sl x)(A:N.length≤100000)(B:S.length≤700)(o:∀ s∈S,s.name.size≤1048576)(p:Aj w R n 63)(T:Ai R (R+1) w c)(g:c.ownsRow b 80 5 (.slice a1 (N.length+1) c1) (N.length+1) (DA N d f ++ [.int .i64 1,.int .i64 0,.string ⟨#[]⟩,.slice none 0 0,.slice none 0 0]))(q:c.ownsRow b1 51 4 (.slice l S.length c2) S.length (AR S))(r:w.heap.size≤b)(t:w.heap.size≤b1)(m:lo≤w.heap.size):
  YX lo c a1 (N ++ [Tf]).length c1 (N ++ [Tf])∧Zp lo c l S.length c2 S:=by
 have u:DA N d f ++ [.int .i64 1,.int .i64 0,.string ⟨#[]⟩,.slice none 0 0,.slice none 0 0]=DA (N ++ [Tf]) (d ++ [.slice none 0 0]) (f ++ [.slice none 0 0]):=by rw[Jb N d f Tf _ _ a.len a.lenk];rfl
 rw[u] at g;refine ⟨?_,LV q (Nat.le_trans m t) rfl (by omega) o⟩;have y:N.length+1=(N ++ [Tf]).length:=by simp
 rw[y] at g;refine LU g (Nat.le_trans m r) rfl (by simp[a.len]) (by simp[a.lenk]) (by simp;omega) (fun x hx=>?_) (fun C z i h g1 g2=>?_)
 ·rcases List.mem_append.1 hx with h | h
  ·exact Nat.le_trans (ok x h).2.1 (by decide)
  ·rw[List.mem_singleton.1 h];show (0 :Nat)≤_;omega
 ·have e1:=a.len;have e2:=a.lenk;by_cases e:i < N.length
  ·rw[List.getElem_append_left e,List.getElem_append_left (by omega),List.getElem_append_left (by omega)];exact (GZ a p T z).vw (fun x hx=>(ok x hx).1) i e (by omega) (by omega)
  ·rw[List.getElem_append_right (by omega),List.getElem_append_right (by omega),List.getElem_append_right (by omega)];simp only[List.getElem_singleton];exact ⟨none,0,none,0,rfl,rfl,⟨rfl,NLN,Nat.zero_le _,fun j k=>absurd k (by simp[Tf]),fun j k=>absurd k (by simp[Tf])⟩,⟨rfl,Nat.zero_le _,fun i hi=>absurd hi (by simp[Tf])⟩⟩
theorem FX {zs:List Int}{p a b:Nat}{y i:Int}{N:List Nd}{S:List St}{j:Nat}(c:nx zs p=(y,a))(d:nx zs a=(i,b))(h: ¬ (y % 3=0∧0 < S.length))(f:j=(i % (N.length:Int)).toNat)(g:j < N.length)(h8: ¬ y / 3 % 10=8):(N.set j (Fa zs b y j N[j]),S)=Iq zs p N S:=by
 unfold Iq;rw[c];dsimp only;rw[d];dsimp only;rw[if_neg h,if_neg (by omega),if_neg h8,← f,List.getD_eq_getElem?_getD,List.getElem?_eq_getElem g];rfl
theorem Zw {zs:List Int}{p a b:Nat}{y i:Int}{N:List Nd}{S:List St}{j:Nat}(c:nx zs p=(y,a))(d:nx zs a=(i,b))(h: ¬ (y % 3=0∧0 < S.length))(f:j=(i % (N.length:Int)).toNat)(g:j < N.length)(h8:y / 3 % 10=8):(N ++ [N[j]],S)=Iq zs p N S:=by
 unfold Iq;rw[c];dsimp only;rw[d];dsimp only;rw[if_neg h,if_neg (by omega),if_pos h8,← f,List.getD_eq_getElem?_getD,List.getElem?_eq_getElem g];rfl
theorem Zu {zs:List Int}{p a b:Nat}{y i:Int}{N:List Nd}{S:List St}(c:nx zs p=(y,a))(d:nx zs a=(i,b))(h: ¬ (y % 3=0∧0 < S.length))(f:N.length=0):(N ++ [Tf],S)=Iq zs p N S:=by
 unfold Iq;rw[c];dsimp only;rw[d];dsimp only;rw[if_neg h,if_pos f]
theorem XE {a:World}{lo b:Nat}{v:Value}{N:List Nd}{g c:List Value}(i:A6 a lo v N g c)(ok:∀ x∈N,Sl x)(j:Nat)(k:j < N.length)(h1:j < g.length)(h2:j < c.length)(op num:Int)(h:ByteArray)(K:List ByteArray)(d:Option Addr)(f:Nat)(l:AZ a b d K f):XC a ⟨op,num,h,K,N[j].kids⟩ (.slice d K.length f) c[j]:=by
 obtain ⟨an,o,m,n,e1,e2,g1,g2⟩:=Ff i ok j k h1 h2 op num h;exact ⟨d,f,m,n,rfl,e2,l.strs,g2⟩
theorem Ux {a:World}{lo b:Nat}{v:Value}{N:List Nd}{c g:List Value}(i:A6 a lo v N c g)(ok:∀ x∈N,Sl x)(j:Nat)(k:j < N.length)(h1:j < c.length)(h2:j < g.length)(op num:Int)(h:ByteArray)(ks:List Int)(d:Option Addr)(f m:Nat)(hm:m=ks.length)(l:a.ownsRow b 3 1 (.slice d m f) m (At ks))(n:ks.length≤1048576):XC a ⟨op,num,h,N[j].names,ks⟩ c[j] (.slice d m f):=by
 subst hm;obtain ⟨an,o,p,q,e1,e2,g1,g2⟩:=Ff i ok j k h1 h2 op num h;exact ⟨an,o,d,f,e1,rfl,g1,BN l rfl n⟩
theorem LX {w:World}{b g c:Nat}{N:List Nd}{f h:List Value}(a:w.ownsRow b 80 5 (.slice (some ⟨g,0,none⟩) N.length c) N.length (DA N f h))(j:Nat)(o:j < N.length)(h1:j < f.length)(h2:j < h.length):w.cell? ⟨g,j * 5,none⟩=some (.int .i64 N[j].op)∧w.cell? ⟨g,j * 5+1,none⟩=some (.int .i64 N[j].num)∧w.cell? ⟨g,j * 5+2,none⟩=some (.string N[j].text)∧w.cell? ⟨g,j * 5+3,none⟩=some f[j]∧w.cell? ⟨g,j * 5+4,none⟩=some h[j]∧∀ r,w.frozen? ⟨g,r,none⟩=false:=by
 have d:=Ii N f h j o h1 h2;have i:=d 0 (by decide);have k:=d 1 (by decide);have l:=d 2 (by decide);have m:=d 3 (by decide);have n:=d 4 (by decide);simp only[Gi,Nat.add_zero,List.getElem?_cons_zero,List.getElem?_cons_succ] at i k l m n;exact ⟨(a.cellAt (j * 5) (by omega)).trans i,(a.cellAt (j * 5+1) (by omega)).trans k,(a.cellAt (j * 5+2) (by omega)).trans l,(a.cellAt (j * 5+3) (by omega)).trans m,(a.cellAt (j * 5+4) (by omega)).trans n,fun r=>a.frozenAt r⟩
theorem AZ.high {w a:World}{b c:Nat}{x:Option Addr}{K:List ByteArray}(h:AZ w b x K c)(hq:∀ q,b≤q→a.heap[q]? =w.heap[q]?):AZ a b x K c:=⟨Ac h.own (fun q e=>hq q (h.own.lt q e).1),h.small⟩
theorem LY {a:World}{g j q:Nat}{y:Nd}{u k:Value}(h:q≠g):(Tg a g j y u k).heap[q]? =a.heap[q]? :=by
 unfold Tg;rw[heap_setCell_other _ _ q _ h,heap_setCell_other _ _ q _ h,heap_setCell_other _ _ q _ h,heap_setCell_other _ _ q _ h,heap_setCell_other _ _ q _ h]
set_option maxRecDepth 100000
set_option maxHeartbeats 1600000
def WB (Es:List Ex) (k:Int):ByteArray:=match Es[k.toNat]? with
 | some e=>e.pr
 | none=>⟨#[]⟩
def Rc (Es:List Ex) (g:Int):ByteArray:=if g= -1 then ⟨#[100,101,110,121]⟩ else ⟨#[103,114,97,110,116,32]⟩ ++WB Es g
def KJ (Es:List Ex) (s:St):ByteArray:=
 (if s.kind=1 then ⟨#[108,101,116,32]⟩ ++s.name ++⟨#[32,61,32]⟩ ++WB Es s.cond
   else if s.kind=2 then ⟨#[119,104,101,110,32]⟩ ++WB Es s.cond ++⟨#[32,61,62,32]⟩ ++Rc Es s.grant
   else ⟨#[101,108,115,101,32]⟩ ++Rc Es s.grant) ++⟨#[59,10]⟩
def TC (B b:Nat) (w0:World) (gv:Value) (gt:ByteArray):Prop:=
 ∀ (acc:ByteArray) (w:World),Below B w0 w→Pr B b acc w→acc.size≤50000000000→Calls Tryz.prog 30 #[.pointer (some ⟨b,0,none⟩),gv] w (Fo B b (acc ++gt) w)
theorem Nm (B b:Nat)(c:World):TC B b c .nilIface ⟨#[100,101,110,121]⟩:=by
 intro acc w i h a;have e1:(⟨#[100,101,110,121]⟩:ByteArray).size=4:=rfl;have d:=Ab a;clear a;go_enter Tryz.func30,Tryz.ntmps30
 go_wp2_with fail
 refine (Ck B b _ acc _ h (by have:=Aa d;rw[e1];omega)).mono ?_;rintro r j ⟨rfl,f,g⟩;dsimp only;go_wp2_with fail
 go_end0
 exact ⟨rfl,f,g⟩
theorem Nn (B b:Nat)(a:World)(t:TypeId)(u:Value)(p:Int→ByteArray)(cnt:Nat)(c:Dk B b a (.iface t u) p cnt)(hc:cnt≤4000):TC B b a (.iface t u) (⟨#[103,114,97,110,116,32]⟩ ++p 0):=by
 intro acc w d h f;have e1:(⟨#[103,114,97,110,116,32]⟩:ByteArray).size=6:=rfl;have g:=Ab f;have j:=Ab hc;have k:=Ab d;have l:=Ab c;clear f c d hc;go_enter Tryz.func30,Tryz.ntmps30
 go_wp2_with fail
 refine (Ck B b _ acc _ h (by have:=Aa g;rw[e1];omega)).mono ?_;rintro r q ⟨rfl,m,i⟩;dsimp only;go_wp2_with fail
 refine (Aa l _ _ _ ((Aa k).trans i.low) m (by have:=Aa g;have:=Aa j;rw[ByteArray.size_append,e1];omega)).mono ?_;rintro r s ⟨rfl,n,o⟩;dsimp only;go_wp2_with fail
 go_end0
 exact ⟨rfl,by rw[← ByteArray.append_assoc];exact n,i.trans o⟩
theorem Dw {w:World}{b:Nat}{v0 v1 a c d:Value}{t:TypeId}(R:Aj w b #[v0,v1,a,c,d] t):w.cell? ⟨b,0,none⟩=some v0∧w.cell? ⟨b,1,none⟩=some v1∧w.cell? ⟨b,2,none⟩=some a∧w.cell? ⟨b,3,none⟩=some c∧w.cell? ⟨b,4,none⟩=some d:=
 ⟨R.cell 0,R.cell 1,R.cell 2,R.cell 3,R.cell 4⟩
theorem No (B b:Nat)(s:World)(j:Nat)(nm:ByteArray)(a:TypeId)(c:Value)(p:Int→ByteArray)(cnt:Nat)(t:Dk B b s (.iface a c) p cnt)(hc:cnt≤4000)(hs:(p 0).size≤4000 * cnt+2)(u:nm.size≤32)(acc:ByteArray)(w:World)(v:Below B s w)(h:Pr B b acc w)(x:acc.size≤30000000000):
  Calls Tryz.prog 13 #[.pointer (some ⟨b,0,none⟩),.agg #[.int .i64 j,.int .i64 1,.string nm,.iface a c,.nilIface]] w (Fo B b (acc ++(⟨#[108,101,116,32]⟩ ++nm ++⟨#[32,61,32]⟩ ++p 0 ++⟨#[59,10]⟩)) w):=by
 have X:(⟨#[108,101,116,32]⟩:ByteArray).size=4:=rfl;have Y:(⟨#[32,61,32]⟩:ByteArray).size=3:=rfl;have Z:(⟨#[119,104,101,110,32]⟩:ByteArray).size=5:=rfl;have aa:(⟨#[32,61,62,32]⟩:ByteArray).size=4:=rfl;have ab:(⟨#[101,108,115,101,32]⟩:ByteArray).size=5:=rfl;have ac:(⟨#[59,10]⟩:ByteArray).size=2:=rfl;have d:=Ab x;have H:=Ab v;have I:B≤w.heap.size:=by have:=h.le;omega
 have ad:=h.le.2;have J:=Ab t;have f:=Ab (show (p 0).size≤16000002 by omega);have g:=Ab hc;have i:=Ab u;clear x v t hc hs u;have y:=h.alloc (.cells #[.int .i64 j,.int .i64 1,.string nm,.iface a c,.nilIface] 47);have z:Kp B b w _:=Kp.alloc0 w (.cells #[.int .i64 j,.int .i64 1,.string nm,.iface a c,.nilIface] 47) I;have A:=Aj.new w #[.int .i64 j,.int .i64 1,.string nm,.iface a c,.nilIface] 47;go_enter Tryz.func13,Tryz.ntmps13
 go_wp2_with fail
 refine (UN B b _ _ _ acc _ _ (by simp) y (by have:=Aa d;have:=Aa f;have:=Aa g;have:=Aa i;omega)).mono ?_;rintro r v1 ⟨rfl,C,k⟩;have l:=z.trans k;have m:=k.row A (by omega) (by decide);obtain ⟨K,L,M,N,O⟩:=Dw m;clear A k z y;dsimp only;go_wp2_with fail
 refine (Aa J _ _ _ ((Aa H).trans l.low) C (by have:=Aa d;have:=Aa f;have:=Aa g;have:=Aa i;(try simp only[ByteArray.size_append]);omega)).mono ?_
 rintro r ae ⟨rfl,E,n⟩;have F:=l.trans n;have o:=n.row m (by omega) (by decide);obtain ⟨P,Q,R,S,T⟩:=Dw o;clear m n l C K L M N O;dsimp only;go_wp2_with fail
 refine (Ck B b _ _ _ E (by have:=Aa d;have:=Aa f;have:=Aa g;have:=Aa i;(try simp only[ByteArray.size_append]);omega)).mono ?_
 rintro r af ⟨rfl,U,q⟩;have V:=F.trans q;have W:=q.row o (by omega) (by decide);obtain ⟨ag,ah,ai,aj,ak⟩:=Dw W;clear o q F E P Q R S T;dsimp only;go_wp2_with fail
 go_end0
 exact ⟨rfl,by simpa only[ByteArray.append_assoc] using U,V⟩
theorem KM (B b:Nat)(k:World)(j:Nat)(nm:ByteArray)(a:TypeId)(c:Value)(p:Int→ByteArray)(cnt:Nat)(A:Dk B b k (.iface a c) p cnt)(hc:cnt≤4000)(hs:(p 0).size≤4000 * cnt+2)(l:ByteArray)(C:TC B b k (.nilIface) l)(E:l.size≤16000100)(acc:ByteArray)(w:World)(F:Below B k w)(h:Pr B b acc w)(H:acc.size≤30000000000):
  Calls Tryz.prog 13 #[.pointer (some ⟨b,0,none⟩),.agg #[.int .i64 j,.int .i64 2,.string nm,.iface a c,.nilIface]] w (Fo B b (acc ++(⟨#[119,104,101,110,32]⟩ ++p 0 ++⟨#[32,61,62,32]⟩ ++l ++⟨#[59,10]⟩)) w):=by
 have aw:(⟨#[108,101,116,32]⟩:ByteArray).size=4:=rfl;have ax:(⟨#[32,61,32]⟩:ByteArray).size=3:=rfl;have ay:(⟨#[119,104,101,110,32]⟩:ByteArray).size=5:=rfl;have az:(⟨#[32,61,62,32]⟩:ByteArray).size=4:=rfl;have aA:(⟨#[101,108,115,101,32]⟩:ByteArray).size=5:=rfl;have aB:(⟨#[59,10]⟩:ByteArray).size=2:=rfl;have d:=Ab H;have I:=Ab F;have S:B≤w.heap.size:=by have:=h.le;omega
 have aC:=h.le.2;have T:=Ab A;have f:=Ab (show (p 0).size≤16000002 by omega);have g:=Ab hc;have U:=Ab C;have i:=Ab E;clear H F A hc hs C E;have J:=h.alloc (.cells #[.int .i64 j,.int .i64 2,.string nm,.iface a c,.nilIface] 47);have K:Kp B b w _:=Kp.alloc0 w (.cells #[.int .i64 j,.int .i64 2,.string nm,.iface a c,.nilIface] 47) S;have L:=Aj.new w #[.int .i64 j,.int .i64 2,.string nm,.iface a c,.nilIface] 47;go_enter Tryz.func13,Tryz.ntmps13
 go_wp2_with fail
 refine (DW B b _ acc _ _ (by simp) J (by have:=Aa d;have:=Aa f;have:=Aa g;have:=Aa i;(try simp only[ByteArray.size_append]);omega)).mono ?_
 rintro r v1 ⟨rfl,M,m⟩;have n:=K.trans m;have o:=m.row L (by omega) (by decide);obtain ⟨V,W,X,Y,Z⟩:=Dw o;clear L m K J;dsimp only;go_wp2_with fail
 refine (Aa T _ _ _ ((Aa I).trans n.low) M (by have:=Aa d;have:=Aa f;have:=Aa g;have:=Aa i;(try simp only[ByteArray.size_append]);omega)).mono ?_
 rintro r aD ⟨rfl,N,q⟩;have O:=n.trans q;have s:=q.row o (by omega) (by decide);obtain ⟨aa,ab,ac,ad,ae⟩:=Dw s;clear o q n M V W X Y Z;dsimp only;go_wp2_with fail
 refine (Ck B b _ _ _ N (by have:=Aa d;have:=Aa f;have:=Aa g;have:=Aa i;(try simp only[ByteArray.size_append]);omega)).mono ?_
 rintro r aE ⟨rfl,P,t⟩;have u:=O.trans t;have v:=t.row s (by omega) (by decide);obtain ⟨af,ag,ah,ai,aj⟩:=Dw v;clear s t O N aa ab ac ad ae;dsimp only;go_wp2_with fail
 refine (Aa U _ _ ((Aa I).trans u.low) P (by have:=Aa d;have:=Aa f;have:=Aa g;have:=Aa i;(try simp only[ByteArray.size_append]);omega)).mono ?_
 rintro r aF ⟨rfl,Q,x⟩;have R:=u.trans x;have y:=x.row v (by omega) (by decide);obtain ⟨ak,al,ao,ap,aq⟩:=Dw y;clear v x u P af ag ah ai aj;dsimp only;go_wp2_with fail
 refine (Ck B b _ _ _ Q (by have:=Aa d;have:=Aa f;have:=Aa g;have:=Aa i;(try simp only[ByteArray.size_append]);omega)).mono ?_
 rintro r aG ⟨rfl,ar,z⟩;have au:=R.trans z;have av:=z.row y (by omega) (by decide);obtain ⟨aH,aI,aJ,aK,aL⟩:=Dw av;clear y z R Q ak al ao ap aq;dsimp only;go_wp2_with fail
 go_end0
 exact ⟨rfl,by simpa only[ByteArray.append_assoc] using ar,au⟩
theorem KN (B b:Nat)(m:World)(j:Nat)(nm:ByteArray)(a:TypeId)(c:Value)(p:Int→ByteArray)(cnt:Nat)(E:Dk B b m (.iface a c) p cnt)(hc:cnt≤4000)(hs:(p 0).size≤4000 * cnt+2)(d:TypeId)(f:Value)(n:ByteArray)(F:TC B b m (.iface d f) n)(H:n.size≤16000100)(acc:ByteArray)(w:World)(I:Below B m w)(h:Pr B b acc w)(J:acc.size≤30000000000):
  Calls Tryz.prog 13 #[.pointer (some ⟨b,0,none⟩),.agg #[.int .i64 j,.int .i64 2,.string nm,.iface a c,.iface d f]] w (Fo B b (acc ++(⟨#[119,104,101,110,32]⟩ ++p 0 ++⟨#[32,61,62,32]⟩ ++n ++⟨#[59,10]⟩)) w):=by
 have ay:(⟨#[108,101,116,32]⟩:ByteArray).size=4:=rfl;have az:(⟨#[32,61,32]⟩:ByteArray).size=3:=rfl;have aA:(⟨#[119,104,101,110,32]⟩:ByteArray).size=5:=rfl;have aB:(⟨#[32,61,62,32]⟩:ByteArray).size=4:=rfl;have aC:(⟨#[101,108,115,101,32]⟩:ByteArray).size=5:=rfl;have aD:(⟨#[59,10]⟩:ByteArray).size=2:=rfl;have g:=Ab J;have K:=Ab I;have U:B≤w.heap.size:=by have:=h.le;omega
 have aE:=h.le.2;have V:=Ab E;have i:=Ab (show (p 0).size≤16000002 by omega);have k:=Ab hc;have W:=Ab F;have l:=Ab H;clear J I E hc hs F H;have L:=h.alloc (.cells #[.int .i64 j,.int .i64 2,.string nm,.iface a c,.iface d f] 47);have M:Kp B b w _:=Kp.alloc0 w (.cells #[.int .i64 j,.int .i64 2,.string nm,.iface a c,.iface d f] 47) U;have N:=Aj.new w #[.int .i64 j,.int .i64 2,.string nm,.iface a c,.iface d f] 47;go_enter Tryz.func13,Tryz.ntmps13
 go_wp2_with fail
 refine (DW B b _ acc _ _ (by simp) L (by have:=Aa g;have:=Aa i;have:=Aa k;have:=Aa l;(try simp only[ByteArray.size_append]);omega)).mono ?_
 rintro r v1 ⟨rfl,O,o⟩;have q:=M.trans o;have s:=o.row N (by omega) (by decide);obtain ⟨X,Y,Z,aa,ab⟩:=Dw s;clear N o M L;dsimp only;go_wp2_with fail
 refine (Aa V _ _ _ ((Aa K).trans q.low) O (by have:=Aa g;have:=Aa i;have:=Aa k;have:=Aa l;(try simp only[ByteArray.size_append]);omega)).mono ?_
 rintro r aF ⟨rfl,P,t⟩;have Q:=q.trans t;have u:=t.row s (by omega) (by decide);obtain ⟨ac,ad,ae,af,ag⟩:=Dw u;clear s t q O X Y Z aa ab;dsimp only;go_wp2_with fail
 refine (Ck B b _ _ _ P (by have:=Aa g;have:=Aa i;have:=Aa k;have:=Aa l;(try simp only[ByteArray.size_append]);omega)).mono ?_
 rintro r aG ⟨rfl,R,v⟩;have x:=Q.trans v;have y:=v.row u (by omega) (by decide);obtain ⟨ah,ai,aj,ak,al⟩:=Dw y;clear u v Q P ac ad ae af ag;dsimp only;go_wp2_with fail
 refine (Aa W _ _ ((Aa K).trans x.low) R (by have:=Aa g;have:=Aa i;have:=Aa k;have:=Aa l;(try simp only[ByteArray.size_append]);omega)).mono ?_
 rintro r aH ⟨rfl,S,z⟩;have T:=x.trans z;have A:=z.row y (by omega) (by decide);obtain ⟨ao,ap,aq,ar,au⟩:=Dw A;clear y z x R ah ai aj ak al;dsimp only;go_wp2_with fail
 refine (Ck B b _ _ _ S (by have:=Aa g;have:=Aa i;have:=Aa k;have:=Aa l;(try simp only[ByteArray.size_append]);omega)).mono ?_
 rintro r aI ⟨rfl,av,C⟩;have aw:=T.trans C;have ax:=C.row A (by omega) (by decide);obtain ⟨aJ,aK,aL,aM,aN⟩:=Dw ax;clear A C T S ao ap aq ar au;dsimp only;go_wp2_with fail
 go_end0
 exact ⟨rfl,by simpa only[ByteArray.append_assoc] using av,aw⟩
theorem KO (B b:Nat)(n:World)(j:Nat)(nm:ByteArray)(a:ByteArray)(o:TC B b n (.nilIface) a)(p:a.size≤16000100)(acc:ByteArray)(w:World)(q:Below B n w)(h:Pr B b acc w)(s:acc.size≤30000000000):
  Calls Tryz.prog 13 #[.pointer (some ⟨b,0,none⟩),.agg #[.int .i64 j,.int .i64 3,.string nm,.nilIface,.nilIface]] w (Fo B b (acc ++(⟨#[101,108,115,101,32]⟩ ++a ++⟨#[59,10]⟩)) w):=by
 have T:(⟨#[108,101,116,32]⟩:ByteArray).size=4:=rfl;have U:(⟨#[32,61,32]⟩:ByteArray).size=3:=rfl;have V:(⟨#[119,104,101,110,32]⟩:ByteArray).size=5:=rfl;have W:(⟨#[32,61,62,32]⟩:ByteArray).size=4:=rfl;have X:(⟨#[101,108,115,101,32]⟩:ByteArray).size=5:=rfl;have Y:(⟨#[59,10]⟩:ByteArray).size=2:=rfl;have c:=Ab s;have A:=Ab q;have C:B≤w.heap.size:=by have:=h.le;omega
 have Z:=h.le.2;have E:=Ab o;have d:=Ab p;clear s q o p;have t:=h.alloc (.cells #[.int .i64 j,.int .i64 3,.string nm,.nilIface,.nilIface] 47);have u:Kp B b w _:=Kp.alloc0 w (.cells #[.int .i64 j,.int .i64 3,.string nm,.nilIface,.nilIface] 47) C;have v:=Aj.new w #[.int .i64 j,.int .i64 3,.string nm,.nilIface,.nilIface] 47;go_enter Tryz.func13,Tryz.ntmps13
 go_wp2_with fail
 refine (DW B b _ acc _ _ (by simp) t (by have:=Aa c;have:=Aa d;(try simp only[ByteArray.size_append]);omega)).mono ?_
 rintro r v1 ⟨rfl,x,f⟩;have g:=u.trans f;have i:=f.row v (by omega) (by decide);obtain ⟨F,H,I,J,K⟩:=Dw i;clear v f u t;dsimp only;go_wp2_with fail
 refine (Aa E _ _ ((Aa A).trans g.low) x (by have:=Aa c;have:=Aa d;(try simp only[ByteArray.size_append]);omega)).mono ?_
 rintro r aa ⟨rfl,y,k⟩;have z:=g.trans k;have l:=k.row i (by omega) (by decide);obtain ⟨L,M,N,O,P⟩:=Dw l;clear i k g x F H I J K;dsimp only;go_wp2_with fail
 refine (Ck B b _ _ _ y (by have:=Aa c;have:=Aa d;(try simp only[ByteArray.size_append]);omega)).mono ?_
 rintro r ab ⟨rfl,Q,m⟩;have R:=z.trans m;have S:=m.row l (by omega) (by decide);obtain ⟨ac,ad,ae,af,ag⟩:=Dw S;clear l m z y L M N O P;dsimp only;go_wp2_with fail
 go_end0
 exact ⟨rfl,by simpa only[ByteArray.append_assoc] using Q,R⟩
theorem KQ (B b:Nat)(p:World)(j:Nat)(nm:ByteArray)(a:TypeId)(c:Value)(d:ByteArray)(q:TC B b p (.iface a c) d)(s:d.size≤16000100)(acc:ByteArray)(w:World)(t:Below B p w)(h:Pr B b acc w)(u:acc.size≤30000000000):
  Calls Tryz.prog 13 #[.pointer (some ⟨b,0,none⟩),.agg #[.int .i64 j,.int .i64 3,.string nm,.nilIface,.iface a c]] w (Fo B b (acc ++(⟨#[101,108,115,101,32]⟩ ++d ++⟨#[59,10]⟩)) w):=by
 have V:(⟨#[108,101,116,32]⟩:ByteArray).size=4:=rfl;have W:(⟨#[32,61,32]⟩:ByteArray).size=3:=rfl;have X:(⟨#[119,104,101,110,32]⟩:ByteArray).size=5:=rfl;have Y:(⟨#[32,61,62,32]⟩:ByteArray).size=4:=rfl;have Z:(⟨#[101,108,115,101,32]⟩:ByteArray).size=5:=rfl;have aa:(⟨#[59,10]⟩:ByteArray).size=2:=rfl;have f:=Ab u;have E:=Ab t;have F:B≤w.heap.size:=by have:=h.le;omega
 have ab:=h.le.2;have H:=Ab q;have g:=Ab s;clear u t q s;have v:=h.alloc (.cells #[.int .i64 j,.int .i64 3,.string nm,.nilIface,.iface a c] 47);have x:Kp B b w _:=Kp.alloc0 w (.cells #[.int .i64 j,.int .i64 3,.string nm,.nilIface,.iface a c] 47) F;have y:=Aj.new w #[.int .i64 j,.int .i64 3,.string nm,.nilIface,.iface a c] 47;go_enter Tryz.func13,Tryz.ntmps13
 go_wp2_with fail
 refine (DW B b _ acc _ _ (by simp) v (by have:=Aa f;have:=Aa g;(try simp only[ByteArray.size_append]);omega)).mono ?_
 rintro r v1 ⟨rfl,z,i⟩;have k:=x.trans i;have l:=i.row y (by omega) (by decide);obtain ⟨I,J,K,L,M⟩:=Dw l;clear y i x v;dsimp only;go_wp2_with fail
 refine (Aa H _ _ ((Aa E).trans k.low) z (by have:=Aa f;have:=Aa g;(try simp only[ByteArray.size_append]);omega)).mono ?_
 rintro r ac ⟨rfl,A,m⟩;have C:=k.trans m;have n:=m.row l (by omega) (by decide);obtain ⟨N,O,P,Q,R⟩:=Dw n;clear l m k z I J K L M;dsimp only;go_wp2_with fail
 refine (Ck B b _ _ _ A (by have:=Aa f;have:=Aa g;(try simp only[ByteArray.size_append]);omega)).mono ?_
 rintro r ad ⟨rfl,S,o⟩;have T:=C.trans o;have U:=o.row n (by omega) (by decide);obtain ⟨ae,af,ag,ah,ai⟩:=Dw U;clear n o C A N O P Q R;dsimp only;go_wp2_with fail
 go_end0
 exact ⟨rfl,by simpa only[ByteArray.append_assoc] using S,T⟩
end Go.Proofs.YtoplnhndilmlcaaGreatDoor
