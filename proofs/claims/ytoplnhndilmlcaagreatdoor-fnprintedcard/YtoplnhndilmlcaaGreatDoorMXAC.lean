/-
  LawsE, VPP, VPQ, VPR, Slices0, Slices, Ints0, JT0. Own work.
-/
import Derived.Test.YtoplnhndilmlcaaGreatDoorMXAB
import Derived.Test.YtoplnhndilmlcaaGreatDoorMXAA
import Derived.Test.YtoplnhndilmlcaaGreatDoorNames
import Derived.RegionTactic
import Derived.ChangeAlike
import Derived.Deep.QuietTactic
import Derived.BigQuiet
import Derived.Deep.Draws
namespace Go.Proofs.YtoplnhndilmlcaaGreatDoor
open Go.RowKit
set_option linter.unusedVariables false
def Ep:List (Nat × Nat)→Nat
 | []=>0
 | p ::ps=>max p.2 (Ep ps)
theorem AbC {ks:List (Nat × Nat)}{p:Nat × Nat}(h:p∈ks):p.2≤Ep ks:=by
 induction ks with
 | nil=>cases h
 | cons q b a=>
  rw[Ep];rcases List.mem_cons.1 h with e | e
  ·subst e;omega
  ·have:=a e;omega
def Ar (ks:List (Nat × Nat)):List Int:=ks.map fun p=>(p.1:Int)
inductive AH (K:List (List Int)):Nat→List (Nat × Nat)→Nat→Prop
 | nil (a:Nat):AH K a [] a
 | cons {a t b:Nat} {ks fs:List (Nat × Nat)} (hk:AH K a ks t) (ht:K[t]? =some (Ar ks)) (hf:AH K (t+1) fs b):AH K a ((t,Ep ks+1) ::fs) b
theorem AH.le {K:List (List Int)}{a b:Nat}{c:List (Nat × Nat)}(h:AH K a c b):a≤b:=by
 induction h with
 | nil a=>exact NLN
 | cons hk ht hf d f=>omega
theorem AH.lt {K:List (List Int)}{a b:Nat}{d:List (Nat × Nat)}(h:AH K a d b):∀ p∈d,a≤p.1∧p.1 < b:=by
 induction h with
 | nil a=>intro p c;cases c
 | cons hk ht hf g f=>
  intro p c;have h1:=hk.le;have h2:=hf.le;rcases List.mem_cons.1 c with e | e
  ·subst e;exact ⟨h1,by show _ < _;omega⟩
  ·have:=f p e;omega
theorem AH.join {K:List (List Int)}{a b c:Nat}{d f:List (Nat × Nat)}(h:AH K a d b)(k:AH K b f c):AH K a (d ++f) c:=by
 induction h with
 | nil a=>exact k
 | cons hk ht hf i g=>exact .cons hk ht (g k)
theorem AH.split {K:List (List Int)} :∀ {f d:List (Nat × Nat)} {a c:Nat},AH K a (f ++d) c→∃ b,AH K a f b∧AH K b d c
 | [],d,a,c,h=>⟨a,.nil a,h⟩
 | p ::f,d,a,c,h=>by
  cases h with
  | cons hk ht hf=>
   obtain ⟨b,h1,h2⟩:=AH.split hf;exact ⟨b,.cons hk ht h1,h2⟩
def CW (S:List (Nat × Nat)) (i:Nat) (ks:List Int):Option (List (Nat × Nat)):=
 if S.length < ks.length then none
 else if Ar (S.drop (S.length - ks.length))≠ks then none
 else if Ep (S.drop (S.length - ks.length))=64 then none
 else some (S.take (S.length - ks.length) ++ [(i,Ep (S.drop (S.length - ks.length))+1)])
def Cj (K:List (List Int)):Nat→List (Nat × Nat)→Nat→Option (List (Nat × Nat))
 | 0,S,_=>some S
 | n+1,S,i=>match K[i]? with
  | none=>none
  | some ks=>match CW S i ks with
   | none=>none
   | some S'=>Cj K n S' (i+1)
theorem FO (K:List (List Int)):∀ (m n:Nat) (S:List (Nat × Nat)) (i:Nat),Cj K (m+n) S i=(Cj K m S i).bind fun a=>Cj K n a (i+m)
 | 0,n,S,i=>by simp[Cj]
 | m+1,n,S,i=>by
  rw[show m+1+n=(m+n)+1 by omega,Cj,Cj];cases K[i]? with
  | none=>rfl
  | some ks=>
   dsimp only;cases CW S i ks with
   | none=>rfl
   | some a=>
    dsimp only;rw[FO K m n a (i+1),show i+1+m=i+(m+1) by omega]
theorem JW (ks:List (Nat × Nat)):(Ar ks).length=ks.length:=by simp[Ar]
theorem Wt (S ks:List (Nat × Nat))(i:Nat)(h:Ep ks+1≤64):CW (S ++ks) i (Ar ks)=some (S ++ [(i,Ep ks+1)]):=by
 have e:(S ++ks).length - (Ar ks).length=S.length:=by rw[JW,List.length_append];omega
 rw[CW,if_neg (by rw[JW,List.length_append];omega),e,List.drop_left,if_neg (by simp),if_neg (by omega),List.take_left]
theorem MR {S a:List (Nat × Nat)}{i:Nat}{ks:List Int}(h:CW S i ks=some a):∃ b B,S=b ++B∧Ar B=ks∧Ep B≠64∧a=b ++ [(i,Ep B+1)]:=by
 rw[CW] at h;split at h
 ·cases h
 ·split at h
  ·cases h
  ·split at h
   ·cases h
   ·rename_i h1 h2 h3;rw[ne_eq,Decidable.not_not] at h2;exact ⟨_,_,(List.take_append_drop (S.length - ks.length) S).symm,h2,h3,(Option.some.inj h).symm⟩
theorem Se {K:List (List Int)}{a b:Nat}{c:List (Nat × Nat)}(h:AH K a c b):∀ (S:List (Nat × Nat)),(∀ p∈c,p.2≤64)→Cj K (b - a) S a=some (S ++c):=by
 induction h with
 | nil a=>intro S _;simp[Cj]
 | @cons a t b ks c hk ht hf g i=>
  intro S f;have h1:=hk.le;have h2:=hf.le;have j:Ep ks+1≤64:=f _ (List.mem_cons_self ..);rw[show b - a=(t - a)+(1+(b - (t+1))) by omega,FO,g S (fun p d=>by have:=AbC d;omega),Option.bind_some,show a+(t - a)=t by omega,FO];have e1:Cj K 1 (S ++ks) t=some (S ++ [(t,Ep ks+1)]):=by
   rw[Cj,ht];dsimp only;rw[Wt S ks t j];rfl
  rw[e1,Option.bind_some,i _ (fun p d=>f p (List.mem_cons_of_mem _ d)),List.append_assoc];rfl
theorem Fi {K:List (List Int)} :∀ (n:Nat) {S a:List (Nat × Nat)} {i:Nat},AH K 0 S i→(∀ p∈S,p.2≤64)→Cj K n S i=some a→AH K 0 a (i+n)∧∀ p∈a,p.2≤64
 | 0,S,a,i,h,hd,hr=>by
  rw[Cj] at hr;obtain rfl:=Option.some.inj hr;exact ⟨h,hd⟩
 | n+1,S,a,i,h,hd,hr=>by
  rw[Cj] at hr;cases c:K[i]? with
  | none=>rw[c] at hr;cases hr
  | some ks=>
   rw[c] at hr;dsimp only at hr;cases hs:CW S i ks with
   | none=>rw[hs] at hr;cases hr
   | some o=>
    rw[hs] at hr;dsimp only at hr;obtain ⟨d,B,rfl,f,r,rfl⟩:=MR hs;obtain ⟨m,f1,f2⟩:=h.split;have g:AH K 0 (d ++ [(i,Ep B+1)]) (i+1):=f1.join (.cons f2 (by rw[c,f]) (.nil _));have s:Ep B≤64:=by
     have:∀ (L:List (Nat × Nat)),(∀ p∈L,p.2≤64)→Ep L≤64:=by
      intro L
      induction L with
      | nil=>intro _;simp[Ep]
      | cons q t j=>
       intro hq;have h1:=hq q (List.mem_cons_self ..);have h2:=j (fun p b=>hq p (List.mem_cons_of_mem _ b));rw[Ep];omega
     exact this B (fun p b=>hd p (List.mem_append_right _ b))
    have l:∀ p∈d ++ [(i,Ep B+1)],p.2≤64:=fun p b=>by
     rcases List.mem_append.1 b with k | k
     ·exact hd p (List.mem_append_left _ k)
     ·rw[List.mem_singleton.1 k];show Ep B+1≤64;omega
    have:=Fi n g l hr;rw[show i+(n+1)=i+1+n by omega];exact this
def Cx (f:Int→List Int→List Int) (top:Int):List Int→List Int→List Int
 | [],out=>out ++ [top]
 | k ::ks,out=>if top≤k then out ++ [-1] else Cx f top ks (f k out)
def AT (K:List (List Int)):Nat→Int→List Int→List Int
 | 0=>fun _ out=>out ++ [-1]
 | n+1=>fun top out=>if top < 0∨(K.length:Int)≤top∨K.length < out.length then out ++ [-1] else Cx (AT K n) top (K.getD top.toNat []) out
def good (l:List Int):Prop:=∀ (i:Nat) (x:Int),l[i]? =some x→x=i
theorem good.pre {l m:List Int}(h:good (l ++m)):good l:=fun i x hx=>by
 have hi:i < l.length:=(List.getElem?_eq_some_iff.1 hx).1;exact h i x (by rw[List.getElem?_append_left hi];exact hx)
theorem good.last {l:List Int}{x:Int}(h:good (l ++ [x])):x=l.length:=h l.length x (by simp)
theorem good.snoc {l:List Int}{x:Int}(h:good l)(e:x=l.length):good (l ++ [x]):=fun i y hy=>by
 rcases Nat.lt_trichotomy i l.length with k | k | k
 ·rw[List.getElem?_append_left k] at hy;exact h i y hy
 ·subst k;simp at hy;omega
 ·rw[List.getElem?_append_right (by omega),List.getElem?_eq_none (by simp;omega)] at hy;cases hy
theorem Sf (l:List Int):good l↔∀ i,(h:i < l.length)→l[i]=(i:Int):=by
 constructor
 ·intro h i hi;exact h i _ (List.getElem?_eq_getElem hi)
 ·intro h i x hx;obtain ⟨hi,e⟩:=List.getElem?_eq_some_iff.1 hx;rw[← e];exact h i hi
theorem JZ {f:Int→List Int→List Int}(hf:∀ k out,∃ l,f k out=out ++l)(top:Int):∀ (ks out:List Int),∃ l,Cx f top ks out=out ++l
 | [],out=>⟨[top],rfl⟩
 | k ::ks,out=>by
  rw[Cx];split
  ·exact ⟨[-1],rfl⟩
  ·obtain ⟨l,e⟩:=hf k out;obtain ⟨m,e2⟩:=JZ hf top ks (f k out);exact ⟨l ++m,by rw[e2,e,List.append_assoc]⟩
theorem J0 (K:List (List Int)):∀ (n:Nat) (top:Int) (out:List Int),∃ l,AT K n top out=out ++l
 | 0,top,out=>⟨[-1],rfl⟩
 | n+1,top,out=>by
  rw[AT];dsimp only;split
  ·exact ⟨[-1],rfl⟩
  ·exact JZ (J0 K n) top _ out
theorem MW {K:List (List Int)}{f:Int→List Int→List Int}(b:∀ k out,∃ l,f k out=out ++l)
  (hf:∀ k out,good (f k out)→∃ d,AH K out.length [(k.toNat,d)] (f k out).length∧0≤k)(top:Int):
  ∀ (ks out:List Int),good (Cx f top ks out)→∃ a,Ar a=ks∧∃ t,AH K out.length a t∧top=(t:Int)∧(Cx f top ks out).length=t+1
 | [],out,h=>⟨[],rfl,out.length,.nil _,by rw[Cx] at h;exact h.last,by simp[Cx]⟩
 | k ::ks,out,h=>by
  rw[Cx] at h ⊢;split at h
  ·have:=h.last;omega
  ·rename_i hk;rw[if_neg hk];obtain ⟨l,e⟩:=JZ b top ks (f k out);have h1:good (f k out):=by rw[e] at h;exact h.pre
   obtain ⟨d,h2,h3⟩:=hf k out h1;obtain ⟨a,e1,t,h4,h5,h6⟩:=MW b hf top ks (f k out) h;exact ⟨(k.toNat,d) ::a,by simp only[Ar,List.map_cons] at e1 ⊢;rw[e1];congr 1;omega,t,h2.join h4,h5,h6⟩
theorem MX (K:List (List Int)):∀ (n:Nat) (top:Int) (out:List Int),good (AT K n top out)→∃ d,AH K out.length [(top.toNat,d)] (AT K n top out).length∧0≤top
 | 0,top,out,h=>by
  have:=good.last (l:=out) h;omega
 | n+1,top,out,h=>by
  rw[AT] at h ⊢;dsimp only at h ⊢;split at h
  ·have:=h.last;omega
  ·rename_i hc;rw[if_neg hc];obtain ⟨b,e1,t,h4,h5,h6⟩:=MW (J0 K n) (MX K n) top _ out h;have ht:top.toNat=t:=by omega
   refine ⟨Ep b+1, ?_,by omega⟩;rw[h6,ht];refine .cons h4 ?_ (.nil _);have a:t < K.length:=by omega
   rw[ht] at e1;rw[e1,List.getElem?_eq_getElem a,List.getD_eq_getElem?_getD,List.getElem?_eq_getElem a];rfl
def Ia (a b:Nat):List Int:=(List.range' a (b - a)).map fun (i:Nat)=>(i:Int)
theorem Wu (a:Nat):Ia a a= []:=by simp[Ia]
theorem Ox {a b c:Nat}(h1:a≤b)(h2:b≤c):Ia a b ++Ia b c=Ia a c:=by
 rw[Ia,Ia,Ia,← List.map_append,show c - a=(b - a)+(c - b) by omega,← List.range'_append_1,show a+(b - a)=b by omega]
theorem YQ (a:Nat):Ia a (a+1)= [(a:Int)]:=by simp[Ia]
theorem Sg (a b:Nat):(Ia a b).length=b - a:=by simp[Ia]
theorem PS {K:List (List Int)}{a b:Nat}{g:List (Nat × Nat)}(h:AH K a g b):
  ∀ (n:Nat) (out:List Int),(∀ p∈g,p.1 < n)→out.length=a→b≤K.length→(Ar g).foldl (fun c k=>AT K n k c) out=out ++Ia a b:=by
 induction h with
 | nil a=>intro n out _ _ _;simp[Ar,Wu]
 | @cons a t b ks g hk ht hf m o=>
  intro n out i r s;have h1:=hk.le;have h2:=hf.le;have j:=hk.lt;have w:t < n:=i _ (List.mem_cons_self ..);obtain ⟨f,rfl⟩:∃ f,n=f+1:=⟨n - 1,by omega⟩
  have u:AT K (f+1) (t:Int) out=out ++Ia a (t+1):=by
   rw[AT];dsimp only;rw[if_neg (by omega),Int.toNat_natCast,List.getD_eq_getElem?_getD,ht,Option.getD_some];have hq:∀ (ks:List (Nat × Nat)) (c:List Int),(∀ p∈ks,p.1 < t)→Cx (AT K f) (t:Int) (Ar ks) c=(Ar ks).foldl (fun c k=>AT K f k c) c ++ [(t:Int)]:=by
    intro ks
    induction ks with
    | nil=>intro c _;rfl
    | cons p l v=>
     intro c d;have:=d p (List.mem_cons_self ..);rw[show Ar (p ::l)=(p.1:Int) ::Ar l from rfl,Cx,if_neg (by omega),v _ (fun q hq=>d q (List.mem_cons_of_mem _ hq))];rfl
   rw[hq ks out (fun p d=>(j p d).2),m f out (fun p d=>by have:=(j p d).2;omega) r (by omega),List.append_assoc,← YQ t,Ox h1 (by omega)]
  rw[show Ar ((t,Ep ks+1) ::g)=(t:Int) ::Ar g from rfl,List.foldl_cons,u,o (f+1) _ (fun p d=>i p (List.mem_cons_of_mem _ d)) (by rw[List.length_append,Sg];omega) s,List.append_assoc,Ox (by omega) h2]
theorem Iy {K:List (List Int)}{n:Nat} :∀ (b:List Int) (out:List Int),good (b.foldl (fun a k=>AT K n k a) out)→∃ c,Ar c=b∧AH K out.length c (b.foldl (fun a k=>AT K n k a) out).length
 | [],out,_=>⟨[],rfl,.nil _⟩
 | k ::b,out,h=>by
  rw[List.foldl_cons] at h ⊢;have f:∃ l,b.foldl (fun a k=>AT K n k a) (AT K n k out)=AT K n k out ++l:=by
   have:∀ (b:List Int) (a:List Int),∃ l,b.foldl (fun a k=>AT K n k a) a=a ++l:=by
    intro b
    induction b with
    | nil=>intro a;exact ⟨[],by simp⟩
    | cons x i g=>
     intro a;obtain ⟨l,e⟩:=J0 K n x a;obtain ⟨m,e2⟩:=g (AT K n x a);exact ⟨l ++m,by rw[List.foldl_cons,e2,e,List.append_assoc]⟩
   exact this b _
  obtain ⟨l,e⟩:=f;have h1:good (AT K n k out):=by rw[e] at h;exact h.pre
  obtain ⟨d,h2,h3⟩:=MX K n k out h1;obtain ⟨c,e1,h4⟩:=Iy b (AT K n k out) h;exact ⟨(k.toNat,d) ::c,by simp only[Ar,List.map_cons] at e1 ⊢;rw[e1];congr 1;omega,h2.join h4⟩
def AY (K:List (List Int)):Nat→Int→Nat
 | 0=>fun _=>1
 | n+1=>fun top=>((K.getD top.toNat []).foldl (fun d k=>max d (AY K n k)) 0)+1
theorem J6 (g:Int→Nat):∀ (ks:List Int) (d:Nat),ks.foldl (fun d k=>max d (g k)) d=max d (ks.foldl (fun d k=>max d (g k)) 0)
 | [],d=>by simp
 | k ::ks,d=>by
  rw[List.foldl_cons,List.foldl_cons,J6 g ks,J6 g ks (max 0 (g k))];omega
theorem Id {K:List (List Int)}{a b:Nat}{c:List (Nat × Nat)}(h:AH K a c b):∀ (n:Nat),(∀ p∈c,p.1 < n)→(∀ p∈c,AY K n (p.1:Int)=p.2)∧(Ar c).foldl (fun d k=>max d (AY K n k)) 0=Ep c:=by
 induction h with
 | nil a=>intro n _;exact ⟨fun p f=>(by cases f),rfl⟩
 | @cons a t b ks c hk ht hf j l=>
  intro n i;have r:t < n:=i _ (List.mem_cons_self ..);obtain ⟨g,rfl⟩:∃ g,n=g+1:=⟨n - 1,by omega⟩
  have m:=hk.lt;have e1:AY K (g+1) (t:Int)=Ep ks+1:=by
   rw[AY];dsimp only;rw[Int.toNat_natCast,List.getD_eq_getElem?_getD,ht,Option.getD_some,(j g (fun p f=>by have:=(m p f).2;omega)).2]
  obtain ⟨o,q⟩:=l (g+1) (fun p f=>i p (List.mem_cons_of_mem _ f));refine ⟨fun p f=>?_, ?_⟩
  ·rcases List.mem_cons.1 f with e | e
   ·subst e;exact e1
   ·exact o p e
  ·rw[show Ar ((t,Ep ks+1) ::c)=(t:Int) ::Ar c from rfl,List.foldl_cons,J6,q,e1,Ep];omega
theorem Wv (n:Nat):good (Ia 0 n):=fun i x hx=>by
 rw[Ia,List.getElem?_map,Option.map_eq_some_iff] at hx;obtain ⟨j,a,rfl⟩:=hx;obtain ⟨h1,h2⟩:=List.getElem?_eq_some_iff.1 a;rw[List.getElem_range'] at h2;omega
theorem Ww (K:List (List Int))(c:List Int):
  ((c.foldl (fun f k=>AT K K.length k f) []).length=K.length∧good (c.foldl (fun f k=>AT K K.length k f) [])∧∀ r∈c,AY K K.length r≤64)↔∃ S,Cj K K.length [] 0=some S∧Ar S=c:=by
 constructor
 ·rintro ⟨h1,h2,h3⟩;obtain ⟨i,rfl,b⟩:=Iy c [] h2;rw[h1] at b;have g:=(Id b K.length (fun p a=>(b.lt p a).2)).1;have d:=Se b [] (fun p a=>by
   rw[← g p a];exact h3 _ (List.mem_map.2 ⟨p,a,rfl⟩))
  exact ⟨i,by simpa using d,rfl⟩
 ·rintro ⟨S,d,rfl⟩;obtain ⟨b,g⟩:=Fi K.length (.nil 0) (fun p a=>by cases a) d;rw[Nat.zero_add] at b;have h:=PS b K.length [] (fun p a=>(b.lt p a).2) rfl NLN;rw[List.nil_append] at h;rw[h];refine ⟨by rw[Sg];omega,Wv _,fun r d=>?_⟩;obtain ⟨p,a,rfl⟩:=List.mem_map.1 d;rw[(Id b K.length (fun p a=>(b.lt p a).2)).1 p a];exact g p a
structure Nd where
 op:Int
 num:Int
 text:ByteArray
 names:List ByteArray
 kids:List Int
structure St where
 kind:Int
 name:ByteArray
 cond:Int
 grant:Int
def Fx (op:Int):Int:=if 1≤op∧op≤7 then 0 else if 8≤op∧op≤10 then 1 else if 11≤op∧op≤26 then 2 else if op=27 then 3 else -1
def Bq (s:ByteArray):Bool:=match Al s with
 | []=>false
 | c ::r=>decide ((c ::r).length≤32) && NY c && (c ::r).all DJ && !FF (c ::r)
def BP (s:ByteArray):Bool:=decide (s.size≤32) && (Al s).all Oc
def Aq (x:Nd):Bool:=
 decide ((x.kids.length:Int)=Fx x.op) &&
 (if x.op=1 then decide (0≤x.num) && decide (x.text.size=0) && decide (x.names.length=0)
   else if x.op=2 then BP x.text && decide (x.num=0) && decide (x.names.length=0)
   else if x.op=3 then decide (x.num=0∨x.num=1) && decide (x.text.size=0) && decide (x.names.length=0)
   else if x.op=4 then EN x.names && decide (x.num=0) && decide (x.text.size=0)
   else if x.op=5 then Bq x.text && decide (x.num=0) && decide (x.names.length=0)
   else if x.op=6∨x.op=7 then false
   else decide (x.num=0) && decide (x.text.size=0) && decide (x.names.length=0))
def BZ (last:Bool) (s:St):Bool:=
 if s.kind=1 then !last && Bq s.name && decide (0≤s.cond) && decide (s.grant= -1)
 else if s.kind=2 then !last && decide (s.name.size=0) && decide (0≤s.cond) && decide (-1≤s.grant)
 else if s.kind=3 then last && decide (s.name.size=0) && decide (s.cond= -1) && decide (-1≤s.grant)
 else false
def DB (s:St):Bool:=
 if s.kind=1 then Bq s.name && decide (s.grant= -1)
 else if s.kind=2 then decide (s.name.size=0)
 else if s.kind=3 then decide (s.name.size=0) && decide (s.cond= -1)
 else false
def As (s:St):List Int:=(if 0≤s.cond then [s.cond] else []) ++(if 0≤s.grant then [s.grant] else [])
def An (s:St):List Int:=(if s.kind≠3 then [s.cond] else []) ++(if s.grant≠-1 then [s.grant] else [])
def EV:List St→Bool
 | []=>true
 | s ::r=>BZ r.isEmpty s && EV r
def BK:List St→Bool
 | []=>true
 | s ::r=>DB s && (decide (s.kind=3)== r.isEmpty) && BK r
theorem Iz:∀ (L:List St),(∀ x∈L.flatMap An,0≤x)→(BK L=true↔EV L=true)
 | [],_=>Iff.rfl
 | s ::r,h=>by
  have f:=Iz r (fun x hx=>h x (by rw[List.flatMap_cons];exact List.mem_append_right _ hx));have hs:∀ x∈An s,0≤x:=fun x hx=>h x (by rw[List.flatMap_cons];exact List.mem_append_left _ hx);rw[BK,EV,Bool.and_eq_true,Bool.and_eq_true,Bool.and_eq_true,f];have e:(DB s=true∧(decide (s.kind=3)== r.isEmpty)=true)↔BZ r.isEmpty s=true:=by
   have hc:s.kind≠3→0≤s.cond:=fun k=>hs _ (by rw[An,if_pos k];simp);have a:s.grant≠-1→0≤s.grant:=fun k=>hs _ (by rw[An,if_pos k];simp);generalize r.isEmpty=last;unfold DB BZ;by_cases b:s.kind=1
   ·simp[b];have:=hc (by omega);cases last <;> simp[this]
   ·by_cases c:s.kind=2
    ·simp[c];have h1:=hc (by omega);have h2: -1≤s.grant:=by by_cases k:s.grant= -1;omega;have:=a k;omega
     cases last <;> simp[h1,h2]
    ·by_cases d:s.kind=3
     ·simp[d];have h2: -1≤s.grant:=by by_cases k:s.grant= -1;omega;have:=a k;omega
      cases last <;> simp[h2]
     ·simp[b,c,d]
  rw[← e,and_assoc]
theorem Sh:∀ {last:Bool} {s:St},BZ last s=true→As s=An s∧∀ x∈An s,0≤x:=by
 intro last s h;unfold BZ at h;unfold As An;by_cases d:s.kind=1
 ·simp[d] at h;obtain ⟨⟨_,h1⟩,h2⟩:=h;simp[d,h1,h2]
 ·by_cases b:s.kind=2
  ·simp[b] at h;obtain ⟨⟨_,h1⟩,h2⟩:=h;by_cases a:s.grant= -1
   ·simp[b,h1,a]
   ·have: 0≤s.grant:=by omega
    simp[b,h1,a,this]
  ·by_cases c:s.kind=3
   ·simp[c] at h;obtain ⟨⟨_,h1⟩,h2⟩:=h;by_cases a:s.grant= -1
    ·simp[c,h1,a]
    ·have: 0≤s.grant:=by omega
     simp[c,h1,a,this]
   ·simp[d,b,c] at h
theorem J7:∀ {L:List St},EV L=true→L.flatMap As=L.flatMap An∧∀ x∈L.flatMap An,0≤x
 | [],_=>⟨rfl,fun x hx=>by cases hx⟩
 | s ::r,h=>by
  rw[EV,Bool.and_eq_true] at h;obtain ⟨e1,h1⟩:=Sh h.1;obtain ⟨e2,h2⟩:=J7 h.2;refine ⟨by rw[List.flatMap_cons,List.flatMap_cons,e1,e2],fun x hx=>?_⟩;rw[List.flatMap_cons] at hx;rcases List.mem_append.1 hx with k | k
  ·exact h1 x k
  ·exact h2 x k
def IA (N:List Nd) (L:List St):Prop:=
 EV L=true∧((L.flatMap As).foldl (fun o k=>AT (N.map Nd.kids) N.length k o) []).length=N.length∧good ((L.flatMap As).foldl (fun o k=>AT (N.map Nd.kids) N.length k o) [])∧∀ r∈L.flatMap As,AY (N.map Nd.kids) N.length r≤64
def YR (N:List Nd) (L:List St):Prop:=BK L=true∧∃ S,Cj (N.map Nd.kids) N.length [] 0=some S∧Ar S=L.flatMap An
theorem TU (N:List Nd)(L:List St):YR N L↔IA N L:=by
 have hs:=Ww (N.map Nd.kids) (L.flatMap An);rw[List.length_map] at hs;constructor
 ·rintro ⟨h1,S,h2,h3⟩;have h0:∀ x∈L.flatMap An,0≤x:=by
   rw[← h3];intro x hx;obtain ⟨p,_,rfl⟩:=List.mem_map.1 hx;omega
  have h4:=(Iz L h0).1 h1;have e:=(J7 h4).1;unfold IA;rw[e];exact ⟨h4,hs.2 ⟨S,h2,h3⟩⟩
 ·rintro ⟨h1,h2⟩;obtain ⟨e,h0⟩:=J7 h1;rw[e] at h2;exact ⟨(Iz L h0).2 h1,hs.1 h2⟩
set_option maxHeartbeats 800000
theorem Ji (a:Option Addr)(n c:Nat)(d:List ByteArray)(w:World)(h:Bb w a n c d):
  Calls Tryz.prog 97 #[.slice a n c] w fun e w'=>e= .returned (.bool (Mh d))∧w'=w:=by
 have t:n≤9223372036854775807:=by have:=h.cap;have:=h.small;unfold maxLen at this;omega
 go_enter Tryz.func97,Tryz.ntmps97
 go_wp2
 go_loop [4,7] (fun _ i=>∃ k:Nat,k≤n∧i= .int .i64 k∧∀ j,j < k→vnB (DL d j)=true) (fun _ i=>n - (intOf i).toNat)
 case atStart=>exact ⟨0,Nat.zero_le _,rfl,fun j l=>by omega⟩
 case round=>
  obtain ⟨k,hk,rfl,m⟩:=hrel;have o:=Ab m;clear m;by_cases p:k < n
  ·obtain ⟨b,u,r,_,hc⟩:=h.cells k p;have q:=h.sizes k p;subst r;cases f:vnB (DL d k)
   ·have g:=Ab f;have s:=Ab (RC d k (by have:=h.len;omega) f);clear f;go_wp2_with (go_at_call 125;refine (GG _ _ q).mono ?_;rintro e w' ⟨rfl,rfl⟩;rw[Aa g])
    go_ret
    exact ⟨Ag (Aa s).symm,rfl⟩
   ·have g:=Ab f;clear f;go_wp2_with (go_at_call 125;refine (GG _ _ q).mono ?_;rintro e w' ⟨rfl,rfl⟩;rw[Aa g])
    go_round
    case rel=>
     refine ⟨k+1,by omega,by go_num,fun j l=>?_⟩
     by_cases e:j=k
     ·subst e;exact Aa g
     ·exact Aa o j (by omega)
    case measure=>simp[intOf];omega
  ·go_wp2
   go_ret
   exact ⟨Ag (UR d fun j l=>Aa o j (by have:=h.len;omega)).symm,rfl⟩
set_option maxHeartbeats 1600000
theorem Iu (a:Option Addr)(n c:Nat)(d:List ByteArray)(w:World)(h:Bb w a n c d):
  Calls Tryz.prog 98 #[.slice a n c] w fun e w'=>e= .returned (.bool (EZ d))∧Below w.heap.size w w':=by
 have s:n≤9223372036854775807:=by have:=h.cap;have:=h.small;unfold maxLen at this;omega
 have t:=Ab h.len;go_enter Tryz.func98,Tryz.ntmps98
 go_wp2
 go_loopw [3] (fun i wr=>∃ k:Nat,0 < k∧(k≤n∨k=1)∧i= .int .i64 k∧(∀ j,0 < j→j < k→sl (DL d (j - 1)) (DL d j)=true)∧Below w.heap.size w wr) (fun i _=>n+1 - (intOf i).toNat)
 case atStart=>exact ⟨1,by omega,.inr rfl,rfl,fun j f l=>by omega,BRN⟩
 case round=>
  obtain ⟨k,u,hk,rfl,m,g⟩:=hrel;have o:=Ab m;clear m;by_cases p:k < n
  ·obtain ⟨b,v,q,x,hc⟩:=(h.below g NLN).at (by omega);have y:=hc (k - 1) (by omega);have z:=hc k p;clear hc;subst q;have A:(0 :Int)≤(k:Int) - 1:=by omega
   have B:(k:Int) - 1 < (n:Int):=by omega
   have C:(k:Int) < (n:Int):=by omega
   have E:((k:Int) - 1).toNat=k - 1:=by omega
   cases hs:Op.bytesLess (DL d (k - 1)).toList (DL d k).toList
   ·have r:=Ab (RD d (k - 1) k (by omega) (by have:=h.len;omega) hs);go_wp2
    go_quiet (fail)
    go_wp2
    go_ret
    exact ⟨Ag (Aa r).symm,below_drewN g _⟩
   ·go_wp2
    go_quiet (fail)
    go_wp2
    go_roundw
    case rel=>
     refine ⟨k+1,by omega,.inl (by omega),by go_num,fun j f l=>?_, ?_⟩
     ·by_cases e:j=k
      ·subst e;exact hs
      ·exact Aa o j f (by omega)
     ·exact below_drewN g _
    case measure=>simp[intOf];omega
  ·go_wp2
   go_ret
   exact ⟨Ag (PI d fun j f l=>Aa o j f (by have:=h.len;omega)).symm,g⟩
theorem MB (a:Option Addr)(n c:Nat)(b:List ByteArray)(w:World)(h:Bb w a n c b):
  Calls Tryz.prog 59 #[.slice a n c] w fun e w'=>e= .returned (.bool (EN b))∧Below w.heap.size w w':=by
 have j:=h.len;by_cases l:n≤64
 ·have g:(n:Int)≤64:=by omega
  have f:=Ab (MA b (by omega));clear j;cases i:Mh b
  ·have d:=Ab i;clear i;go_enter Tryz.func59,Tryz.ntmps59
   go_wp2_with (go_at_call 97;refine (Ji _ _ _ _ _ h).mono ?_;rintro e w' ⟨rfl,rfl⟩;rw[Aa d])
   go_ret
   exact ⟨Ag (by rw[Aa f,Aa d];rfl),BRN⟩
  ·have d:=Ab i;clear i;go_enter Tryz.func59,Tryz.ntmps59
   go_wp2_with (first | (go_at_call 97;refine (Ji _ _ _ _ _ h).mono ?_;rintro e w' ⟨rfl,rfl⟩;rw[Aa d]) | (go_at_call 98;refine (Iu _ _ _ _ _ h).mono ?_;rintro e w' ⟨rfl,k⟩))
   go_ret
   exact ⟨Ag (by rw[Aa f,Aa d];rfl),k⟩
 ·have g:(64 :Int) < (n:Int):=by omega
  have f:=Ab (On b (by omega));clear j;go_enter Tryz.func59,Tryz.ntmps59
  go_wp2
  go_ret
  exact ⟨Ag (Aa f).symm,BRN⟩
theorem MC (a:Option Addr)(n c:Nat)(d:List ByteArray)(w:World)(h:Bb w a n c d):
  Calls Tryz.prog 71 #[.slice a n c] w fun e w'=>e= .returned (.bool (EN d))∧w'=w:=by
 have s:=h.len;by_cases J:n≤64
 ·have g:(n:Int)≤64:=by omega
  have l:=Ab (MA d (by omega));have o:=Ab s;clear s;go_enter Tryz.func71,Tryz.ntmps71
  go_wp2
  go_loop [2,3,4,5,11] (fun _ _ _ _ i=>∃ k:Nat,k≤n∧i= .int .i64 k∧(∀ j,j < k→vnB (DL d j)=true)∧(∀ i j,i < k→i < j→j < n→sl (DL d i) (DL d j)=true)) (fun _ _ _ _ i=>n - (intOf i).toNat)
  case atStart=>exact ⟨0,Nat.zero_le _,rfl,fun j f=>by omega,fun i j hi=>by omega⟩
  case round=>
   obtain ⟨k,hk,rfl,u,v⟩:=hrel;have x:=Ab u;have y:=Ab v;clear u v;by_cases z:k < n
   ·obtain ⟨b,K,C,_,hc⟩:=h.at (by omega);have L:=hc k z;have E:=Ab hc;clear hc;have A:=h.sizes k z;subst C;cases p:vnB (DL d k)
    ·have q:=Ab p;have t:=Ab (RC d k (by have:=Aa o;omega) p);clear p;go_wp2_with (go_at_call 104;refine (EJ _ _ A).mono ?_;rintro e w' ⟨rfl,rfl⟩;rw[Aa q])
     go_ret
     exact ⟨Ag (by rw[Aa l,Aa t];rfl),rfl⟩
    ·have q:=Ab p;clear p;go_wp2_with (go_at_call 104;refine (EJ _ _ A).mono ?_;rintro e w' ⟨rfl,rfl⟩;rw[Aa q])
     go_loop [5] (fun i=>∃ m:Nat,k < m∧m≤n∧i= .int .i64 m∧∀ j,k < j→j < m→sl (DL d k) (DL d j)=true) (fun i=>n - (intOf i).toNat)
     case atStart=>exact ⟨k+1,by omega,by omega,by go_num,fun j f F=>by omega⟩
     case round=>
      obtain ⟨m,H,hm,rfl,hq⟩:=hrel;have B:=Ab hq;clear hq;by_cases I:m < n
      ·have M:=Aa E m I;cases hs:Op.bytesLess (DL d k).toList (DL d m).toList
       ·have t:=Ab (RD d k m H (by have:=Aa o;omega) hs);go_wp2
        go_ret
        exact ⟨Ag (by rw[Aa l,Aa t,Bool.and_false]),rfl⟩
       ·go_wp2
        go_round
        case rel=>
         refine ⟨m+1,by omega,by omega,by go_num,fun j f F=>?_⟩
         by_cases e:j=m
         ·subst e;exact hs
         ·exact Aa B j f (by omega)
        case measure=>simp[intOf];omega
      ·go_wp2
       go_round
       case rel=>
        refine ⟨k+1,by omega,by go_num,fun j f=>?_,fun i j hi r f=>?_⟩
        ·by_cases e:j=k
         ·subst e;exact Aa q
         ·exact Aa x j (by omega)
        ·by_cases e:i=k
         ·subst e;exact Aa B j r (by omega)
         ·exact Aa y i j (by omega) r f
       case measure=>simp[intOf];omega
   ·go_wp2
    go_ret
    have e1:Mh d=true:=UR d fun j f=>Aa x j (by have:=Aa o;omega);have e2:EZ d=true:=(Mz d).2 fun i j r f=>Aa y i j (by have:=Aa o;omega) r (by have:=Aa o;omega);exact ⟨Ag (by rw[Aa l,e1,e2];rfl),rfl⟩
 ·have g:(64 :Int) < (n:Int):=by omega
  have l:=Ab (On d (by omega));clear s;go_enter Tryz.func71,Tryz.ntmps71
  go_wp2
  go_ret
  exact ⟨Ag (Aa l).symm,rfl⟩
set_option maxRecDepth 100000
set_option maxHeartbeats 3200000
structure Do (w:World) (a:Option Addr) (n c:Nat) (L:List Int):Prop where
 len:L.length=n
 small:n≤1048576
 cells:∀ j,(h:j < L.length)→∃ b off,a=some ⟨b,off,none⟩∧b < w.heap.size∧w.cell? ⟨b,off+j,none⟩=some (.int .i64 L[j])
theorem Do.below {w w':World}{B:Nat}{a:Option Addr}{n c:Nat}{L:List Int}(h:Do w a n c L)(d:Below B w w')(m:w.heap.size≤B):Do w' a n c L:=
 ⟨h.len,h.small,fun j g=>by
  obtain ⟨b,f,i,k,l⟩:=h.cells j g;exact ⟨b,f,i,Nat.lt_of_lt_of_le k d.size,(d.cell (p:=⟨b,f+j,none⟩) (by show b < B;omega)).trans l⟩⟩
theorem Vr (a B:List Int)(b:a.length=B.length):a=B↔∀ j,(h:j < a.length)→a[j]=B[j]'(b ▸ h):=by
 constructor
 ·intro e j h;subst e;rfl
 ·intro h;exact List.ext_getElem b (fun j h1 h2=>h j h1)
theorem Kg (w:World)(m:Nat):Below w.heap.size w (w.drewN m):=by
 exact ⟨(Below.refl w.heap.size w).os,(Below.refl w.heap.size w).tape,(Below.refl w.heap.size w).output,NLN,fun _ _=>rfl⟩
theorem LH {w wr:World}(h:∃ m,wr=w.drewN m):∃ m,wr.drew=w.drewN m:=by
 obtain ⟨m,rfl⟩:=h;exact ⟨m+1,rfl⟩
theorem Xm (a b:Option Addr)(n c m d:Nat)(f B:List Int)(w:World)(h1:Do w a n c f)(h2:Do w b m d B):
  Calls Tryz.prog 55 #[.slice a n c,.slice b m d] w fun e w'=>e= .returned (.bool (decide (f=B)))∧∃ m,w'=w.drewN m:=by
 have R:=h1.small;have S:=h2.small;have A:=Ab h1.len;have K:=Ab h2.len;by_cases g:n=m
 ·have L:((n:Int) !=(m:Int))=false:=by rw[g];simp
  have r:=Ab (show f.length=B.length by rw[h1.len,h2.len,g]);have C:=Ab (Vr f B (Aa r));have E:=Ab g;clear g;go_enter Tryz.func55,Tryz.ntmps55
  go_wp2_with fail
  go_loopw [13] (fun i wr=>∃ k:Nat,k≤n∧i= .int .i64 k∧(∃ m,wr=w.drewN m)∧∀ j,(h:j < f.length)→j < k→f[j]=B[j]'(Aa r ▸ h)) (fun i _=>n - (intOf i).toNat)
  case atStart=>exact ⟨0,by omega,rfl,⟨0,rfl⟩,fun j _ h=>absurd h (by omega)⟩
  case round=>
   obtain ⟨k,hk,rfl,s,F⟩:=hrel;have t:=Ab s;have H:Below w.heap.size w wr:=by obtain ⟨M,rfl⟩:=s;exact Kg w M
   clear s;have u:=Ab F;clear F;by_cases v:k < n
   ·have T:(k:Int) < (n:Int):=by omega
    have U:(k:Int) < (m:Int):=by have:=Aa E;omega
    have I:k < f.length:=by rw[Aa A];exact v
    have N:k < B.length:=by rw[Aa K,← Aa E];exact v
    obtain ⟨b1,V,rfl,W,c1⟩:=(h1.below H NLN).cells k I;obtain ⟨b2,X,rfl,Y,c2⟩:=(h2.below H NLN).cells k N;have o:=Ab (show f[k]≠B[k]→decide (f=B)=false from fun e=>decide_eq_false (fun e'=>e ((Aa C).1 e' k I)));have p:=Ab (show f[k]=B[k]→∀ j,(h:j < f.length)→j < k+1→f[j]=B[j]'(Aa r ▸ h) from fun e j z Z=>by
     by_cases O:j=k
     ·subst O;exact e
     ·exact Aa u j z (by omega))
    have J:=Ab v;clear u;generalize f[k]=x at c1 o p;generalize B[k]=y at c2 o p;by_cases l:x=y
    ·have P:(x != y)=false:=by rw[l];simp
     have Q:=Ab (Aa p l);clear l o p;go_wp2_with fail
     go_region
     go_wp2_with fail
     go_roundw
     case rel=>exact ⟨k+1,Aa J,by go_num,LH (Aa t),Aa Q⟩
     case measure=>have:=Aa J;simp[intOf];omega
    ·have P:(x != y)=true:=bne_iff_ne.2 l;have q:=Ab (Aa o l);clear l o p;go_wp2_with fail
     go_region
     go_wp2_with fail
     go_ret
     exact ⟨Ag (Aa q).symm,LH (Aa t)⟩
   ·have e:k=n:=by omega
    subst e;have q:=Ab (show decide (f=B)=true from decide_eq_true ((Aa C).2 (fun j z=>Aa u j z (by have:=Aa A;omega))));go_wp2
    go_ret
    exact ⟨Ag (Aa q).symm,Aa t⟩
 ·have L:((n:Int) !=(m:Int))=true:=bne_iff_ne.2 (by omega);have q:=Ab (show decide (f=B)=false from decide_eq_false (fun e=>g (by rw[← h1.len,← h2.len,e])));clear g;go_enter Tryz.func55,Tryz.ntmps55
  go_wp2
  go_ret
  exact ⟨Ag (Aa q).symm,0,rfl⟩
theorem SV (a b:Option Addr)(n c m d:Nat)(f B:List Int)(w:World)(h1:Do w a n c f)(h2:Do w b m d B):
  Calls Tryz.prog 55 #[.slice a n c,.slice b m d] w fun e w'=>e= .returned (.bool (decide (f=B)))∧Below w.heap.size w w':=
 (Xm a b n c m d f B w h1 h2).mono fun e w' h=>⟨h.1,by obtain ⟨m,rfl⟩:=h.2;exact Kg w m⟩
def nz (t:Int):Option Int:=if t=0 then none else some t
end Go.Proofs.YtoplnhndilmlcaaGreatDoor
