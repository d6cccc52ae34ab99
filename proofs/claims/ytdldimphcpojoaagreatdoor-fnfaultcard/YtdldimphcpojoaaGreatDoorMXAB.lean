/-
  VPP, VPQ. Own work.
-/
import Derived.Test.YtdldimphcpojoaaGreatDoorMXAA
namespace Go.Proofs.YtdldimphcpojoaaGreatDoor
open Go.RowKit
set_option linter.unusedVariables false
def J4:List (Nat × Nat)→Nat
 | []=>0
 | p ::ps=>max p.2 (J4 ps)
theorem Yg {a:List (Nat × Nat)}{p:Nat × Nat}(h:p∈a):p.2≤J4 a:=by
 induction a with
 | nil=>cases h
 | cons q c b=>
  rw[J4];rcases List.mem_cons.1 h with e | e
  ·subst e;omega
  ·have:=b e;omega
def Bw (ks:List (Nat × Nat)):List Int:=ks.map fun p=>(p.1:Int)
inductive Ba (K:List (List Int)):Nat→List (Nat × Nat)→Nat→Prop
 | nil (a:Nat):Ba K a [] a
 | cons {a t b:Nat} {ks fs:List (Nat × Nat)} (hk:Ba K a ks t) (ht:K[t]? =some (Bw ks)) (hf:Ba K (t+1) fs b):Ba K a ((t,J4 ks+1) ::fs) b
theorem Ba.le {K:List (List Int)}{a b:Nat}{c:List (Nat × Nat)}(h:Ba K a c b):a≤b:=by
 induction h with
 | nil a=>exact NLN
 | cons hk ht d f g=>omega
theorem Ba.lt {K:List (List Int)}{a b:Nat}{d:List (Nat × Nat)}(h:Ba K a d b):∀ p∈d,a≤p.1∧p.1 < b:=by
 induction h with
 | nil a=>intro p c;cases c
 | cons hk ht f i g=>
  intro p c;have h1:=hk.le;have h2:=f.le;rcases List.mem_cons.1 c with e | e
  ·subst e;exact ⟨h1,by show _ < _;omega⟩
  ·have:=g p e;omega
theorem Ba.join {K:List (List Int)}{a b c:Nat}{d f:List (Nat × Nat)}(h:Ba K a d b)(k:Ba K b f c):Ba K a (d ++f) c:=by
 induction h with
 | nil a=>exact k
 | cons hk ht i j g=>exact .cons hk ht (g k)
theorem Ba.split {K:List (List Int)} :∀ {f d:List (Nat × Nat)} {a c:Nat},Ba K a (f ++d) c→∃ b,Ba K a f b∧Ba K b d c
 | [],d,a,c,h=>⟨a,.nil a,h⟩
 | p ::f,d,a,c,h=>by
  cases h with
  | cons hk ht g=>
   obtain ⟨b,h1,h2⟩:=Ba.split g;exact ⟨b,.cons hk ht h1,h2⟩
def Lx (S:List (Nat × Nat)) (i:Nat) (ks:List Int):Option (List (Nat × Nat)):=
 if S.length < ks.length then none
 else if Bw (S.drop (S.length - ks.length))≠ks then none
 else if J4 (S.drop (S.length - ks.length))=64 then none
 else some (S.take (S.length - ks.length) ++ [(i,J4 (S.drop (S.length - ks.length))+1)])
def Fd (K:List (List Int)):Nat→List (Nat × Nat)→Nat→Option (List (Nat × Nat))
 | 0,S,_=>some S
 | n+1,S,i=>match K[i]? with
  | none=>none
  | some ks=>match Lx S i ks with
   | none=>none
   | some S'=>Fd K n S' (i+1)
theorem Ly (K:List (List Int)):∀ (m n:Nat) (S:List (Nat × Nat)) (i:Nat),Fd K (m+n) S i=(Fd K m S i).bind fun a=>Fd K n a (i+m)
 | 0,n,S,i=>by simp[Fd]
 | m+1,n,S,i=>by
  rw[show m+1+n=(m+n)+1 by omega,Fd,Fd];cases K[i]? with
  | none=>rfl
  | some b=>
   dsimp only;cases Lx S i b with
   | none=>rfl
   | some a=>
    dsimp only;rw[Ly K m n a (i+1),show i+1+m=i+(m+1) by omega]
theorem MB (a:List (Nat × Nat)):(Bw a).length=a.length:=by simp[Bw]
theorem Up (S a:List (Nat × Nat))(i:Nat)(h:J4 a+1≤64):Lx (S ++a) i (Bw a)=some (S ++ [(i,J4 a+1)]):=by
 have e:(S ++a).length - (Bw a).length=S.length:=by rw[MB,List.length_append];omega
 rw[Lx,if_neg (by rw[MB,List.length_append];omega),e,List.drop_left,if_neg (by simp),if_neg (by omega),List.take_left]
theorem V5 {S b:List (Nat × Nat)}{i:Nat}{a:List Int}(h:Lx S i a=some b):∃ c B,S=c ++B∧Bw B=a∧J4 B≠64∧b=c ++ [(i,J4 B+1)]:=by
 rw[Lx] at h;split at h
 ·cases h
 ·split at h
  ·cases h
  ·split at h
   ·cases h
   ·rename_i h1 h2 h3;rw[ne_eq,Decidable.not_not] at h2;exact ⟨_,_,(List.take_append_drop (S.length - a.length) S).symm,h2,h3,(Option.some.inj h).symm⟩
theorem PO {K:List (List Int)}{a b:Nat}{c:List (Nat × Nat)}(h:Ba K a c b):∀ (S:List (Nat × Nat)),(∀ p∈c,p.2≤64)→Fd K (b - a) S a=some (S ++c):=by
 induction h with
 | nil a=>intro S _;simp[Fd]
 | @cons a t b d c hk ht i j k=>
  intro S g;have h1:=hk.le;have h2:=i.le;have l:J4 d+1≤64:=g _ (List.mem_cons_self ..);rw[show b - a=(t - a)+(1+(b - (t+1))) by omega,Ly,j S (fun p f=>by have:=Yg f;omega),Option.bind_some,show a+(t - a)=t by omega,Ly];have e1:Fd K 1 (S ++d) t=some (S ++ [(t,J4 d+1)]):=by
   rw[Fd,ht];dsimp only;rw[Up S d t l];rfl
  rw[e1,Option.bind_some,k _ (fun p f=>g p (List.mem_cons_of_mem _ f)),List.append_assoc];rfl
theorem Ge {K:List (List Int)} :∀ (n:Nat) {S a:List (Nat × Nat)} {i:Nat},Ba K 0 S i→(∀ p∈S,p.2≤64)→Fd K n S i=some a→Ba K 0 a (i+n)∧∀ p∈a,p.2≤64
 | 0,S,a,i,h,hd,hr=>by
  rw[Fd] at hr;obtain rfl:=Option.some.inj hr;exact ⟨h,hd⟩
 | n+1,S,a,i,h,hd,hr=>by
  rw[Fd] at hr;cases c:K[i]? with
  | none=>rw[c] at hr;cases hr
  | some f=>
   rw[c] at hr;dsimp only at hr;cases hs:Lx S i f with
   | none=>rw[hs] at hr;cases hr
   | some t=>
    rw[hs] at hr;dsimp only at hr;obtain ⟨d,B,rfl,g,u,rfl⟩:=V5 hs;obtain ⟨m,j,l⟩:=h.split;have o:Ba K 0 (d ++ [(i,J4 B+1)]) (i+1):=j.join (.cons l (by rw[c,g]) (.nil _));have v:J4 B≤64:=by
     have:∀ (L:List (Nat × Nat)),(∀ p∈L,p.2≤64)→J4 L≤64:=by
      intro L
      induction L with
      | nil=>intro _;simp[J4]
      | cons q w r=>
       intro hq;have h1:=hq q (List.mem_cons_self ..);have h2:=r (fun p b=>hq p (List.mem_cons_of_mem _ b));rw[J4];omega
     exact this B (fun p b=>hd p (List.mem_append_right _ b))
    have s:∀ p∈d ++ [(i,J4 B+1)],p.2≤64:=fun p b=>by
     rcases List.mem_append.1 b with k | k
     ·exact hd p (List.mem_append_left _ k)
     ·rw[List.mem_singleton.1 k];show J4 B+1≤64;omega
    have:=Ge n o s hr;rw[show i+(n+1)=i+1+n by omega];exact this
def CE (f:Int→List Int→List Int) (top:Int):List Int→List Int→List Int
 | [],out=>out ++ [top]
 | k ::ks,out=>if top≤k then out ++ [-1] else CE f top ks (f k out)
def Bb (K:List (List Int)):Nat→Int→List Int→List Int
 | 0=>fun _ out=>out ++ [-1]
 | n+1=>fun top out=>if top < 0∨(K.length:Int)≤top∨K.length < out.length then out ++ [-1] else CE (Bb K n) top (K.getD top.toNat []) out
def good (l:List Int):Prop:=∀ (i:Nat) (x:Int),l[i]? =some x→x=i
theorem good.pre {l m:List Int}(h:good (l ++m)):good l:=fun i x hx=>by
 have hi:i < l.length:=(List.getElem?_eq_some_iff.1 hx).1;exact h i x (by rw[List.getElem?_append_left hi];exact hx)
theorem good.last {l:List Int}{x:Int}(h:good (l ++ [x])):x=l.length:=h l.length x (by simp)
theorem good.snoc {l:List Int}{x:Int}(h:good l)(e:x=l.length):good (l ++ [x]):=fun i y hy=>by
 rcases Nat.lt_trichotomy i l.length with k | k | k
 ·rw[List.getElem?_append_left k] at hy;exact h i y hy
 ·subst k;simp at hy;omega
 ·rw[List.getElem?_append_right (by omega),List.getElem?_eq_none (by simp;omega)] at hy;cases hy
theorem PP (l:List Int):good l↔∀ i,(h:i < l.length)→l[i]=(i:Int):=by
 constructor
 ·intro h i hi;exact h i _ (List.getElem?_eq_getElem hi)
 ·intro h i x hx;obtain ⟨hi,e⟩:=List.getElem?_eq_some_iff.1 hx;rw[← e];exact h i hi
theorem Jv {f:Int→List Int→List Int}(b:∀ k out,∃ l,f k out=out ++l)(top:Int):∀ (a out:List Int),∃ l,CE f top a out=out ++l
 | [],out=>⟨[top],rfl⟩
 | k ::a,out=>by
  rw[CE];split
  ·exact ⟨[-1],rfl⟩
  ·obtain ⟨l,e⟩:=b k out;obtain ⟨m,e2⟩:=Jv b top a (f k out);exact ⟨l ++m,by rw[e2,e,List.append_assoc]⟩
theorem Jw (K:List (List Int)):∀ (n:Nat) (top:Int) (out:List Int),∃ l,Bb K n top out=out ++l
 | 0,top,out=>⟨[-1],rfl⟩
 | n+1,top,out=>by
  rw[Bb];dsimp only;split
  ·exact ⟨[-1],rfl⟩
  ·exact Jv (Jw K n) top _ out
theorem LA {K:List (List Int)}{f:Int→List Int→List Int}(c:∀ k out,∃ l,f k out=out ++l)
  (g:∀ k out,good (f k out)→∃ d,Ba K out.length [(k.toNat,d)] (f k out).length∧0≤k)(top:Int):
  ∀ (a out:List Int),good (CE f top a out)→∃ b,Bw b=a∧∃ t,Ba K out.length b t∧top=(t:Int)∧(CE f top a out).length=t+1
 | [],out,h=>⟨[],rfl,out.length,.nil _,by rw[CE] at h;exact h.last,by simp[CE]⟩
 | k ::a,out,h=>by
  rw[CE] at h ⊢;split at h
  ·have:=h.last;omega
  ·rename_i hk;rw[if_neg hk];obtain ⟨l,e⟩:=Jv c top a (f k out);have h1:good (f k out):=by rw[e] at h;exact h.pre
   obtain ⟨d,h2,h3⟩:=g k out h1;obtain ⟨b,e1,t,h4,h5,h6⟩:=LA c g top a (f k out) h;exact ⟨(k.toNat,d) ::b,by simp only[Bw,List.map_cons] at e1 ⊢;rw[e1];congr 1;omega,t,h2.join h4,h5,h6⟩
theorem LB (K:List (List Int)):∀ (n:Nat) (top:Int) (out:List Int),good (Bb K n top out)→∃ d,Ba K out.length [(top.toNat,d)] (Bb K n top out).length∧0≤top
 | 0,top,out,h=>by
  have:=good.last (l:=out) h;omega
 | n+1,top,out,h=>by
  rw[Bb] at h ⊢;dsimp only at h ⊢;split at h
  ·have:=h.last;omega
  ·rename_i hc;rw[if_neg hc];obtain ⟨a,e1,t,h4,h5,h6⟩:=LA (Jw K n) (LB K n) top _ out h;have ht:top.toNat=t:=by omega
   refine ⟨J4 a+1, ?_,by omega⟩;rw[h6,ht];refine .cons h4 ?_ (.nil _);have hl:t < K.length:=by omega
   rw[ht] at e1;rw[e1,List.getElem?_eq_getElem hl,List.getD_eq_getElem?_getD,List.getElem?_eq_getElem hl];rfl
def GG (a b:Nat):List Int:=(List.range' a (b - a)).map fun (i:Nat)=>(i:Int)
theorem Uq (a:Nat):GG a a= []:=by simp[GG]
theorem MC {a b c:Nat}(h1:a≤b)(h2:b≤c):GG a b ++GG b c=GG a c:=by
 rw[GG,GG,GG,← List.map_append,show c - a=(b - a)+(c - b) by omega,← List.range'_append_1,show a+(b - a)=b by omega]
theorem V6 (a:Nat):GG a (a+1)= [(a:Int)]:=by simp[GG]
theorem PQ (a b:Nat):(GG a b).length=b - a:=by simp[GG]
theorem NA {K:List (List Int)}{a b:Nat}{i:List (Nat × Nat)}(h:Ba K a i b):
  ∀ (n:Nat) (out:List Int),(∀ p∈i,p.1 < n)→out.length=a→b≤K.length→(Bw i).foldl (fun c k=>Bb K n k c) out=out ++GG a b:=by
 induction h with
 | nil a=>intro n out _ _ _;simp[Bw,Uq]
 | @cons a t b d i hk ht o r s=>
  intro n out j u v;have h1:=hk.le;have h2:=o.le;have l:=hk.lt;have y:t < n:=j _ (List.mem_cons_self ..);obtain ⟨g,rfl⟩:∃ g,n=g+1:=⟨n - 1,by omega⟩
  have w:Bb K (g+1) (t:Int) out=out ++GG a (t+1):=by
   rw[Bb];dsimp only;rw[if_neg (by omega),Int.toNat_natCast,List.getD_eq_getElem?_getD,ht,Option.getD_some];have hq:∀ (d:List (Nat × Nat)) (c:List Int),(∀ p∈d,p.1 < t)→CE (Bb K g) (t:Int) (Bw d) c=(Bw d).foldl (fun c k=>Bb K g k c) c ++ [(t:Int)]:=by
    intro d
    induction d with
    | nil=>intro c _;rfl
    | cons p m x=>
     intro c f;have:=f p (List.mem_cons_self ..);rw[show Bw (p ::m)=(p.1:Int) ::Bw m from rfl,CE,if_neg (by omega),x _ (fun q hq=>f q (List.mem_cons_of_mem _ hq))];rfl
   rw[hq d out (fun p f=>(l p f).2),r g out (fun p f=>by have:=(l p f).2;omega) u (by omega),List.append_assoc,← V6 t,MC h1 (by omega)]
  rw[show Bw ((t,J4 d+1) ::i)=(t:Int) ::Bw i from rfl,List.foldl_cons,w,s (g+1) _ (fun p f=>j p (List.mem_cons_of_mem _ f)) (by rw[List.length_append,PQ];omega) v,List.append_assoc,MC (by omega) h2]
theorem GX {K:List (List Int)}{n:Nat} :∀ (b:List Int) (out:List Int),good (b.foldl (fun a k=>Bb K n k a) out)→∃ c,Bw c=b∧Ba K out.length c (b.foldl (fun a k=>Bb K n k a) out).length
 | [],out,_=>⟨[],rfl,.nil _⟩
 | k ::b,out,h=>by
  rw[List.foldl_cons] at h ⊢;have f:∃ l,b.foldl (fun a k=>Bb K n k a) (Bb K n k out)=Bb K n k out ++l:=by
   have:∀ (b:List Int) (a:List Int),∃ l,b.foldl (fun a k=>Bb K n k a) a=a ++l:=by
    intro b
    induction b with
    | nil=>intro a;exact ⟨[],by simp⟩
    | cons x i g=>
     intro a;obtain ⟨l,e⟩:=Jw K n x a;obtain ⟨m,e2⟩:=g (Bb K n x a);exact ⟨l ++m,by rw[List.foldl_cons,e2,e,List.append_assoc]⟩
   exact this b _
  obtain ⟨l,e⟩:=f;have h1:good (Bb K n k out):=by rw[e] at h;exact h.pre
  obtain ⟨d,h2,h3⟩:=LB K n k out h1;obtain ⟨c,e1,h4⟩:=GX b (Bb K n k out) h;exact ⟨(k.toNat,d) ::c,by simp only[Bw,List.map_cons] at e1 ⊢;rw[e1];congr 1;omega,h2.join h4⟩
def BM (K:List (List Int)):Nat→Int→Nat
 | 0=>fun _=>1
 | n+1=>fun top=>((K.getD top.toNat []).foldl (fun d k=>max d (BM K n k)) 0)+1
theorem Jx (g:Int→Nat):∀ (a:List Int) (d:Nat),a.foldl (fun d k=>max d (g k)) d=max d (a.foldl (fun d k=>max d (g k)) 0)
 | [],d=>by simp
 | k ::a,d=>by
  rw[List.foldl_cons,List.foldl_cons,Jx g a,Jx g a (max 0 (g k))];omega
theorem GM {K:List (List Int)}{a b:Nat}{c:List (Nat × Nat)}(h:Ba K a c b):∀ (n:Nat),(∀ p∈c,p.1 < n)→(∀ p∈c,BM K n (p.1:Int)=p.2)∧(Bw c).foldl (fun d k=>max d (BM K n k)) 0=J4 c:=by
 induction h with
 | nil a=>intro n _;exact ⟨fun p f=>(by cases f),rfl⟩
 | @cons a t b i c hk ht s l m=>
  intro n j;have u:t < n:=j _ (List.mem_cons_self ..);obtain ⟨g,rfl⟩:∃ g,n=g+1:=⟨n - 1,by omega⟩
  have o:=hk.lt;have e1:BM K (g+1) (t:Int)=J4 i+1:=by
   rw[BM];dsimp only;rw[Int.toNat_natCast,List.getD_eq_getElem?_getD,ht,Option.getD_some,(l g (fun p f=>by have:=(o p f).2;omega)).2]
  obtain ⟨q,r⟩:=m (g+1) (fun p f=>j p (List.mem_cons_of_mem _ f));refine ⟨fun p f=>?_, ?_⟩
  ·rcases List.mem_cons.1 f with e | e
   ·subst e;exact e1
   ·exact q p e
  ·rw[show Bw ((t,J4 i+1) ::c)=(t:Int) ::Bw c from rfl,List.foldl_cons,Jx,r,e1,J4];omega
theorem Ur (n:Nat):good (GG 0 n):=fun i x hx=>by
 rw[GG,List.getElem?_map,Option.map_eq_some_iff] at hx;obtain ⟨j,a,rfl⟩:=hx;obtain ⟨h1,h2⟩:=List.getElem?_eq_some_iff.1 a;rw[List.getElem_range'] at h2;omega
theorem Us (K:List (List Int))(c:List Int):
  ((c.foldl (fun f k=>Bb K K.length k f) []).length=K.length∧good (c.foldl (fun f k=>Bb K K.length k f) [])∧∀ r∈c,BM K K.length r≤64)↔∃ S,Fd K K.length [] 0=some S∧Bw S=c:=by
 constructor
 ·rintro ⟨h1,h2,h3⟩;obtain ⟨i,rfl,b⟩:=GX c [] h2;rw[h1] at b;have g:=(GM b K.length (fun p a=>(b.lt p a).2)).1;have d:=PO b [] (fun p a=>by
   rw[← g p a];exact h3 _ (List.mem_map.2 ⟨p,a,rfl⟩))
  exact ⟨i,by simpa using d,rfl⟩
 ·rintro ⟨S,d,rfl⟩;obtain ⟨b,g⟩:=Ge K.length (.nil 0) (fun p a=>by cases a) d;rw[Nat.zero_add] at b;have h:=NA b K.length [] (fun p a=>(b.lt p a).2) rfl NLN;rw[List.nil_append] at h;rw[h];refine ⟨by rw[PQ];omega,Ur _,fun r d=>?_⟩;obtain ⟨p,a,rfl⟩:=List.mem_map.1 d;rw[(GM b K.length (fun p a=>(b.lt p a).2)).1 p a];exact g p a
end Go.Proofs.YtdldimphcpojoaaGreatDoor
