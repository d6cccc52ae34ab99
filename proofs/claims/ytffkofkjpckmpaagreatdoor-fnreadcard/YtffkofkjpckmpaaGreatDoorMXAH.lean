/-
  VPP, VPQ. Own work.
-/
import Derived.Test.YtffkofkjpckmpaaGreatDoorMXAC
namespace Go.Proofs.YtffkofkjpckmpaaGreatDoor
open Go.RowKit
set_option linter.unusedVariables false
def Ea:List (Nat × Nat)→Nat
 | []=>0
 |p ::ps=>max p.2 (Ea ps)
theorem Acz {ks:List (Nat × Nat)}{p:Nat × Nat}(h:p∈ks):p.2≤Ea ks:=by
 induction ks with
 |nil=>cases h
 |cons q b a=>
  rw[Ea];rcases zG.1 h with e | e
  ·subst e;omega
  ·have:=a e;omega
def Av (ks:List (Nat × Nat)):List Int:=ks.map fun p=>(p.1:Int)
inductive AJ (K:List (List Int)):Nat→List (Nat × Nat)→Nat→Prop
 |nil (a:Nat):AJ K a [] a
 |cons {a t b:Nat} {ks fs:List (Nat × Nat)} (hk:AJ K a ks t) (ht:K[t]? =some (Av ks)) (hf:AJ K (t+1) fs b):AJ K a ((t,Ea ks+1) ::fs) b
theorem AJ.le {K:List (List Int)}{a b:Nat}{c:List (Nat × Nat)}(h:AJ K a c b):a≤b:=by
 induction h with
 |nil a=>exact NLN
 |cons hk ht hf d f=>omega
theorem AJ.lt {K:List (List Int)}{a b:Nat}{c:List (Nat × Nat)}(h:AJ K a c b):∀ p∈c,a≤p.1∧p.1 < b:=by
 induction h with
 |nil a=>intro p hp;cases hp
 |cons hk ht hf f d=>
  intro p hp;have h1:=hk.le;have h2:=hf.le;rcases zG.1 hp with e | e
  ·subst e;exact ⟨h1,by show _ < _;omega⟩
  ·have:=d p e;omega
theorem AJ.join {K:List (List Int)}{a b c:Nat}{d f:List (Nat × Nat)}(h:AJ K a d b)(k:AJ K b f c):AJ K a (d ++f) c:=by
 induction h with
 |nil a=>exact k
 |cons hk ht hf i g=>exact .cons hk ht (g k)
theorem AJ.split {K:List (List Int)} :∀ {f d:List (Nat × Nat)} {a c:Nat},AJ K a (f ++d) c→∃ b,AJ K a f b∧AJ K b d c
 | [],d,a,c,h=>⟨a,.nil a,h⟩
 |p ::f,d,a,c,h=>by
  cases h with
  |cons hk ht hf=>
   obtain ⟨b,h1,h2⟩:=AJ.split hf;exact ⟨b,.cons hk ht h1,h2⟩
def Dv (S:List (Nat × Nat)) (i:Nat) (ks:List Int):Option (List (Nat × Nat)):=
 if S.length < ks.length then none
 else if Av (S.drop (S.length - ks.length))≠ks then none
 else if Ea (S.drop (S.length - ks.length))=64 then none
 else some (S.take (S.length - ks.length) ++ [(i,Ea (S.drop (S.length - ks.length))+1)])
def CJ (K:List (List Int)):Nat→List (Nat × Nat)→Nat→Option (List (Nat × Nat))
 | 0,S,_=>some S
 |n+1,S,i=>match K[i]? with
  |none=>none
  |some ks=>match Dv S i ks with
   |none=>none
   |some S'=>CJ K n S' (i+1)
theorem Gq (K:List (List Int)):∀ (m n:Nat) (S:List (Nat × Nat)) (i:Nat),CJ K (m+n) S i=(CJ K m S i).bind fun a=>CJ K n a (i+m)
 | 0,n,S,i=>by simp[CJ]
 |m+1,n,S,i=>by
  rw[show m+1+n=(m+n)+1 by omega,CJ,CJ];cases K[i]? with
  |none=>rfl
  |some ks=>
   dsimp only;cases Dv S i ks with
   |none=>rfl
   |some a=>
    dsimp only;rw[Gq K m n a (i+1),show i+1+m=i+(m+1) by omega]
theorem Ld (ks:List (Nat × Nat)):(Av ks).length=ks.length:=by simp[Av]
theorem XM (S ks:List (Nat × Nat))(i:Nat)(h:Ea ks+1≤64):Dv (S ++ks) i (Av ks)=some (S ++ [(i,Ea ks+1)]):=by
 have e:(S ++ks).length - (Av ks).length=S.length:=by rw[Ld,zB];omega
 rw[Dv,if_neg (by rw[Ld,zB];omega),e,List.drop_left,if_neg (by simp),if_neg (by omega),List.take_left]
theorem NH {S a:List (Nat × Nat)}{i:Nat}{ks:List Int}(h:Dv S i ks=some a):∃ b B,S=b ++B∧Av B=ks∧Ea B≠64∧a=b ++ [(i,Ea B+1)]:=by
 rw[Dv] at h;split at h
 ·cases h
 ·split at h
  ·cases h
  ·split at h
   ·cases h
   ·rename_i h1 h2 h3;rw[ne_eq,Decidable.not_not] at h2;exact ⟨_,_,(yG (S.length - ks.length) S).symm,h2,h3,(Option.some.inj h).symm⟩
theorem Ll {K:List (List Int)}{a b:Nat}{c:List (Nat × Nat)}(h:AJ K a c b):∀ (S:List (Nat × Nat)),(∀ p∈c,p.2≤64)→CJ K (b - a) S a=some (S ++c):=by
 induction h with
 |nil a=>intro S _;simp[CJ]
 |@cons a t b ks c hk ht hf f g=>
  intro S d;have h1:=hk.le;have h2:=hf.le;have i:Ea ks+1≤64:=d _ (zQ ..);rw[show b - a=(t - a)+(1+(b - (t+1))) by omega,Gq,f S (fun p hp=>by have:=Acz hp;omega),Option.bind_some,show a+(t - a)=t by omega,Gq];have e1:CJ K 1 (S ++ks) t=some (S ++ [(t,Ea ks+1)]):=by
   rw[CJ,ht];dsimp only;rw[XM S ks t i];rfl
  rw[e1,Option.bind_some,g _ (fun p hp=>d p (zS _ hp)),zC];rfl
theorem FM {K:List (List Int)} :∀ (n:Nat) {S a:List (Nat × Nat)} {i:Nat},AJ K 0 S i→(∀ p∈S,p.2≤64)→CJ K n S i=some a→AJ K 0 a (i+n)∧∀ p∈a,p.2≤64
 | 0,S,a,i,h,hd,hr=>by
  rw[CJ] at hr;obtain rfl:=Option.some.inj hr;exact ⟨h,hd⟩
 |n+1,S,a,i,h,hd,hr=>by
  rw[CJ] at hr;cases b:K[i]? with
  |none=>rw[b] at hr;cases hr
  |some ks=>
   rw[b] at hr;dsimp only at hr;cases hs:Dv S i ks with
   |none=>rw[hs] at hr;cases hr
   |some l=>
    rw[hs] at hr;dsimp only at hr;obtain ⟨c,B,rfl,d,o,rfl⟩:=NH hs;obtain ⟨m,f1,f2⟩:=h.split;have f:AJ K 0 (c ++ [(i,Ea B+1)]) (i+1):=f1.join (.cons f2 (by rw[b,d]) (.nil _));have r:Ea B≤64:=by
     have:∀ (L:List (Nat × Nat)),(∀ p∈L,p.2≤64)→Ea L≤64:=by
      intro L
      induction L with
      |nil=>intro _;simp[Ea]
      |cons q s g=>
       intro hq;have h1:=hq q (zQ ..);have h2:=g (fun p hp=>hq p (zS _ hp));rw[Ea];omega
     exact this B (fun p hp=>hd p (zV _ hp))
    have j:∀ p∈c ++ [(i,Ea B+1)],p.2≤64:=fun p hp=>by
     rcases zH.1 hp with k | k
     ·exact hd p (za _ k)
     ·rw[zJ.1 k];show Ea B+1≤64;omega
    have:=FM n f j hr;rw[show i+(n+1)=i+1+n by omega];exact this
def CV (f:Int→List Int→List Int) (top:Int):List Int→List Int→List Int
 | [],out=>out ++ [top]
 |k ::ks,out=>if top≤k then out ++ [-1] else CV f top ks (f k out)
def Bg (K:List (List Int)):Nat→Int→List Int→List Int
 | 0=>fun _ out=>out ++ [-1]
 |n+1=>fun top out=>if top < 0∨(K.length:Int)≤top∨K.length < out.length then out ++ [-1] else CV (Bg K n) top (K.getD top.toNat []) out
def good (l:List Int):Prop:=∀ (i:Nat) (x:Int),l[i]? =some x→x=i
theorem good.pre {l m:List Int}(h:good (l ++m)):good l:=fun i x hx=>by
 have hi:i < l.length:=(zX.1 hx).1;exact h i x (by rw[yJ hi];exact hx)
theorem good.last {l:List Int}{x:Int}(h:good (l ++ [x])):x=l.length:=h l.length x (by simp)
theorem Tv (l:List Int):good l↔∀ i,(h:i < l.length)→l[i]=(i:Int):=by
 constructor
 ·intro h i hi;exact h i _ (zM hi)
 ·intro h i x hx;obtain ⟨hi,e⟩:=zX.1 hx;rw[← e];exact h i hi
theorem Lg {f:Int→List Int→List Int}(hf:∀ k out,∃ l,f k out=out ++l)(top:Int):∀ (ks out:List Int),∃ l,CV f top ks out=out ++l
 | [],out=>⟨[top],rfl⟩
 |k ::ks,out=>by
  rw[CV];split
  ·exact ⟨[-1],rfl⟩
  ·obtain ⟨l,e⟩:=hf k out;obtain ⟨m,e2⟩:=Lg hf top ks (f k out);exact ⟨l ++m,by rw[e2,e,zC]⟩
theorem Lh (K:List (List Int)):∀ (n:Nat) (top:Int) (out:List Int),∃ l,Bg K n top out=out ++l
 | 0,top,out=>⟨[-1],rfl⟩
 |n+1,top,out=>by
  rw[Bg];dsimp only;split
  ·exact ⟨[-1],rfl⟩
  ·exact Lg (Lh K n) top _ out
theorem NN {K:List (List Int)}{f:Int→List Int→List Int}(hp:∀ k out,∃ l,f k out=out ++l)
  (hf:∀ k out,good (f k out)→∃ d,AJ K out.length [(k.toNat,d)] (f k out).length∧0≤k)(top:Int):
  ∀ (ks out:List Int),good (CV f top ks out)→∃ a,Av a=ks∧∃ t,AJ K out.length a t∧top=(t:Int)∧(CV f top ks out).length=t+1
 | [],out,h=>⟨[],rfl,out.length,.nil _,by rw[CV] at h;exact h.last,by simp[CV]⟩
 |k ::ks,out,h=>by
  rw[CV] at h ⊢;split at h
  ·have:=h.last;omega
  ·rename_i hk;rw[if_neg hk];obtain ⟨l,e⟩:=Lg hp top ks (f k out);have h1:good (f k out):=by rw[e] at h;exact h.pre
   obtain ⟨d,h2,h3⟩:=hf k out h1;obtain ⟨a,e1,t,h4,h5,h6⟩:=NN hp hf top ks (f k out) h;exact ⟨(k.toNat,d) ::a,by simp only[Av,List.map_cons] at e1 ⊢;rw[e1];congr 1;omega,t,h2.join h4,h5,h6⟩
theorem NO (K:List (List Int)):∀ (n:Nat) (top:Int) (out:List Int),good (Bg K n top out)→∃ d,AJ K out.length [(top.toNat,d)] (Bg K n top out).length∧0≤top
 | 0,top,out,h=>by
  have:=good.last (l:=out) h;omega
 |n+1,top,out,h=>by
  rw[Bg] at h ⊢;dsimp only at h ⊢;split at h
  ·have:=h.last;omega
  ·rename_i hc;rw[if_neg hc];obtain ⟨a,e1,t,h4,h5,h6⟩:=NN (Lh K n) (NO K n) top _ out h;have ht:top.toNat=t:=by omega
   refine ⟨Ea a+1, ?_,by omega⟩;rw[h6,ht];refine .cons h4 ?_ (.nil _);have hl:t < K.length:=by omega
   rw[ht] at e1;rw[e1,zM hl,yI,zM hl];rfl
def IV (a b:Nat):List Int:=(List.range' a (b - a)).map fun (i:Nat)=>(i:Int)
theorem XN (a:Nat):IV a a= []:=by simp[IV]
theorem PJ {a b c:Nat}(h1:a≤b)(h2:b≤c):IV a b ++IV b c=IV a c:=by
 rw[IV,IV,IV,← zl,show c - a=(b - a)+(c - b) by omega,← List.range'_append_1,show a+(b - a)=b by omega]
theorem Z0 (a:Nat):IV a (a+1)= [(a:Int)]:=by simp[IV]
theorem Tw (a b:Nat):(IV a b).length=b - a:=by simp[IV]
theorem QV {K:List (List Int)}{a b:Nat}{f:List (Nat × Nat)}(h:AJ K a f b):
  ∀ (n:Nat) (out:List Int),(∀ p∈f,p.1 < n)→out.length=a→b≤K.length→(Av f).foldl (fun c k=>Bg K n k c) out=out ++IV a b:=by
 induction h with
 |nil a=>intro n out _ _ _;simp[Av,XN]
 |@cons a t b ks f hk ht hf l m=>
  intro n out g o r;have h1:=hk.le;have h2:=hf.le;have i:=hk.lt;have v:t < n:=g _ (zQ ..);obtain ⟨d,rfl⟩:∃ d,n=d+1:=⟨n - 1,by omega⟩
  have s:Bg K (d+1) (t:Int) out=out ++IV a (t+1):=by
   rw[Bg];dsimp only;rw[if_neg (by omega),z0,yI,ht,Option.getD_some];have hq:∀ (ks:List (Nat × Nat)) (c:List Int),(∀ p∈ks,p.1 < t)→CV (Bg K d) (t:Int) (Av ks) c=(Av ks).foldl (fun c k=>Bg K d k c) c ++ [(t:Int)]:=by
    intro ks
    induction ks with
    |nil=>intro c _;rfl
    |cons p j u=>
     intro c hp;have:=hp p (zQ ..);rw[show Av (p ::j)=(p.1:Int) ::Av j from rfl,CV,if_neg (by omega),u _ (fun q hq=>hp q (zS _ hq))];rfl
   rw[hq ks out (fun p hp=>(i p hp).2),l d out (fun p hp=>by have:=(i p hp).2;omega) o (by omega),zC,← Z0 t,PJ h1 (by omega)]
  rw[show Av ((t,Ea ks+1) ::f)=(t:Int) ::Av f from rfl,List.foldl_cons,s,m (d+1) _ (fun p hp=>g p (zS _ hp)) (by rw[zB,Tw];omega) r,zC,PJ (by omega) h2]
theorem Jk {K:List (List Int)}{n:Nat} :∀ (b:List Int) (out:List Int),good (b.foldl (fun a k=>Bg K n k a) out)→∃ c,Av c=b∧AJ K out.length c (b.foldl (fun a k=>Bg K n k a) out).length
 | [],out,_=>⟨[],rfl,.nil _⟩
 |k ::b,out,h=>by
  rw[List.foldl_cons] at h ⊢;have f:∃ l,b.foldl (fun a k=>Bg K n k a) (Bg K n k out)=Bg K n k out ++l:=by
   have:∀ (b:List Int) (a:List Int),∃ l,b.foldl (fun a k=>Bg K n k a) a=a ++l:=by
    intro b
    induction b with
    |nil=>intro a;exact ⟨[],by simp⟩
    |cons x i g=>
     intro a;obtain ⟨l,e⟩:=Lh K n x a;obtain ⟨m,e2⟩:=g (Bg K n x a);exact ⟨l ++m,by rw[List.foldl_cons,e2,e,zC]⟩
   exact this b _
  obtain ⟨l,e⟩:=f;have h1:good (Bg K n k out):=by rw[e] at h;exact h.pre
  obtain ⟨d,h2,h3⟩:=NO K n k out h1;obtain ⟨c,e1,h4⟩:=Jk b (Bg K n k out) h;exact ⟨(k.toNat,d) ::c,by simp only[Av,List.map_cons] at e1 ⊢;rw[e1];congr 1;omega,h2.join h4⟩
def Bm (K:List (List Int)):Nat→Int→Nat
 | 0=>fun _=>1
 |n+1=>fun top=>((K.getD top.toNat []).foldl (fun d k=>max d (Bm K n k)) 0)+1
theorem Li (g:Int→Nat):∀ (ks:List Int) (d:Nat),ks.foldl (fun d k=>max d (g k)) d=max d (ks.foldl (fun d k=>max d (g k)) 0)
 | [],d=>by simp
 |k ::ks,d=>by
  rw[List.foldl_cons,List.foldl_cons,Li g ks,Li g ks (max 0 (g k))];omega
theorem I7 {K:List (List Int)}{a b:Nat}{c:List (Nat × Nat)}(h:AJ K a c b):∀ (n:Nat),(∀ p∈c,p.1 < n)→(∀ p∈c,Bm K n (p.1:Int)=p.2)∧(Av c).foldl (fun d k=>max d (Bm K n k)) 0=Ea c:=by
 induction h with
 |nil a=>intro n _;exact ⟨fun p hp=>(by cases hp),rfl⟩
 |@cons a t b ks c hk ht hf i j=>
  intro n g;have q:t < n:=g _ (zQ ..);obtain ⟨f,rfl⟩:∃ f,n=f+1:=⟨n - 1,by omega⟩
  have l:=hk.lt;have e1:Bm K (f+1) (t:Int)=Ea ks+1:=by
   rw[Bm];dsimp only;rw[z0,yI,ht,Option.getD_some,(i f (fun p hp=>by have:=(l p hp).2;omega)).2]
  obtain ⟨m,o⟩:=j (f+1) (fun p hp=>g p (zS _ hp));refine ⟨fun p hp=>?_, ?_⟩
  ·rcases zG.1 hp with e | e
   ·subst e;exact e1
   ·exact m p e
  ·rw[show Av ((t,Ea ks+1) ::c)=(t:Int) ::Av c from rfl,List.foldl_cons,Li,o,e1,Ea];omega
theorem XO (n:Nat):good (IV 0 n):=fun i x hx=>by
 rw[IV,zd,Option.map_eq_some_iff] at hx;obtain ⟨j,a,rfl⟩:=hx;obtain ⟨h1,h2⟩:=zX.1 a;rw[List.getElem_range'] at h2;omega
theorem XP (K:List (List Int))(b:List Int):
  ((b.foldl (fun d k=>Bg K K.length k d) []).length=K.length∧good (b.foldl (fun d k=>Bg K K.length k d) [])∧∀ r∈b,Bm K K.length r≤64)↔∃ S,CJ K K.length [] 0=some S∧Av S=b:=by
 constructor
 ·rintro ⟨h1,h2,h3⟩;obtain ⟨h,rfl,a⟩:=Jk b [] h2;rw[h1] at a;have f:=(I7 a K.length (fun p hp=>(a.lt p hp).2)).1;have c:=Ll a [] (fun p hp=>by
   rw[← f p hp];exact h3 _ (zb.2 ⟨p,hp,rfl⟩))
  exact ⟨h,by simpa using c,rfl⟩
 ·rintro ⟨S,c,rfl⟩;obtain ⟨a,f⟩:=FM K.length (.nil 0) (fun p hp=>by cases hp) c;rw[zW] at a;have g:=QV a K.length [] (fun p hp=>(a.lt p hp).2) rfl NLN;rw[List.nil_append] at g;rw[g];refine ⟨by rw[Tw];omega,XO _,fun r c=>?_⟩;obtain ⟨p,hp,rfl⟩:=zb.1 c;rw[(I7 a K.length (fun p hp=>(a.lt p hp).2)).1 p hp];exact f p hp
end Go.Proofs.YtffkofkjpckmpaaGreatDoor
