/-
  JT0, GB, Sorted, Rd. Own work.
-/
import Derived.Test.YtdldimphcpojoaaGreatDoorMXAA
import Derived.Test.YtdldimphcpojoaaGreatDoorMXAJ
import Derived.Test.YtdldimphcpojoaaGreatDoorRows
import Derived.WalkKit
import Derived.WalkSpells
import Derived.WalkLawsBesides
import Derived.RegionTactic
import Derived.ChangeAlike
import Derived.Deep.QuietTactic
import Derived.BigQuiet
import Derived.ProofKit
import Derived.OpenShut
namespace Go.Proofs.YtdldimphcpojoaaGreatDoor
open Go.RowKit
set_option linter.unusedVariables false
def nz (t:Int):Option Int:=if t=0 then none else some t
def Kk:List UInt8:= [78,85,77]
def EC:List UInt8:= [84,69,88,84]
def DW:List UInt8:= [78,65,77,69]
def tk (t:Af):List UInt8:=if t.kind=1 then Kk else if t.kind=2 then EC else if t.kind=3 then DW else Ak t.text
def G8:List Af→List UInt8
 | []=> []
 | t ::_=>tk t
def Ck:List (List UInt8):=ED ++Cj ++Dq.map (fun c=> [c])
def BL (t:Af):Prop:=t.kind=1∨t.kind=2∨t.kind=3∨((t.kind=4∨t.kind=5)∧Ak t.text∈Ck)
theorem Ic {t:Af}{s:List UInt8}(h:BL t)(hs:s∈Ck):see s t=decide (tk t=s):=by
 have b:Kk≠s:=fun e=>by rw[← e] at hs;revert hs;decide
 have c:EC≠s:=fun e=>by rw[← e] at hs;revert hs;decide
 have d:DW≠s:=fun e=>by rw[← e] at hs;revert hs;decide
 rcases h with h | h | h | ⟨h,f⟩
 ·simp[see,tk,h,b]
 ·simp[see,tk,h,c]
 ·simp[see,tk,h,d]
 ·have e:decide (t.text=Ax s)=decide (Ak t.text=s):=by
   by_cases a:Ak t.text=s
   ·rw[decide_eq_true a,decide_eq_true];rw[← a,BE]
   ·rw[decide_eq_false a,decide_eq_false];intro e;exact a (by rw[e,Do])
  rcases h with h | h <;> simp[see,tk,h,e]
theorem NY {a:List Af}{s:List UInt8}(h:∀ t∈a,BL t)(hs:s∈Ck):AL s a=decide (G8 a=s):=by
 cases a with
 | nil=>
  have:G8 []≠s:=fun e=>by rw[← e] at hs;revert hs;decide
  rw[decide_eq_false this];rfl
 | cons t r=>exact Ic (h t (List.mem_cons_self ..)) hs
inductive Sy where
 | policy | decision | expr | orMore | and_ | andMore | not_ | compared | sum | sumMore | term | termMore | unary | primary | scopes | scopesMore
 | scope
 | t (s:List UInt8)
def AW (k:Nat):List (List UInt8):=(Cy k).map Prod.fst
def Ae (x:Sy) (t:List UInt8):Option (List Sy):=match x with
 | .policy=>if t=CU then some [.t CU,.t DW,.t NU,.expr,.t AF,.policy] else if t=AZ then some [.t AZ,.expr,.t Bh,.decision,.t AF,.policy] else some [.t AI,.decision,.t AF]
 | .decision=>if t=Br then some [.t Br,.expr] else some [.t EA]
 | .expr=>if t=Du then some [.t Du,.expr,.t BQ,.expr,.t AI,.expr] else some [.and_,.orMore]
 | .orMore=>if t=Wt then some [.t Wt,.and_,.orMore] else some []
 | .and_=>some [.not_,.andMore]
 | .andMore=>if t=MK then some [.t MK,.not_,.andMore] else some []
 | .not_=>if t=Ee then some [.t Ee,.not_] else some [.sum,.compared]
 | .compared=>if t∈AW 4 then some [.t t,.sum] else some []
 | .sum=>some [.term,.sumMore]
 | .sumMore=>if t∈AW 5 then some [.t t,.term,.sumMore] else some []
 | .term=>some [.unary,.termMore]
 | .termMore=>if t∈AW 6 then some [.t t,.unary,.termMore] else some []
 | .unary=>if t=AX then some [.t AX,.unary] else some [.primary]
 | .primary=>if t=AD then some [.t AD,.expr,.t AT] else if t=BO then some [.t BO,.t AD,.expr,.t AT] else if t=BV then some [.t BV,.scopes] else if t=EC∨t=DW∨t=Ca∨t=Bs then some [.t t] else some [.t Kk]
 | .scopes=>if t=BK then some [.t BK] else some [.scope,.scopesMore]
 | .scopesMore=>if t=DA then some [.t DA,.scope,.scopesMore] else some [.t BK]
 | .scope=>none
 | .t _=>none
inductive G6:Nat→List Sy→List Af→Option (List Af)→Prop
 | fin:G6 0 [] [] none
 | over {t:Af} {r:List Af} :G6 0 [] (t ::r) (some (t ::r))
 | exp {n:Nat} {x:Sy} {m st:List Sy} {ts:List Af} {res:Option (List Af)} (h:Ae x (G8 ts)=some m) (d:G6 n (m ++st) ts res):G6 (n+1) (x ::st) ts res
 | scope {n:Nat} {st:List Sy} {t:Af} {r:List Af} {res:Option (List Af)} (h:FM t) (d:G6 n st r res):G6 (n+1) (.scope ::st) (t ::r) res
 | scope_nil {st:List Sy} :G6 1 (.scope ::st) [] (some [])
 | scope_no {st:List Sy} {t:Af} {r:List Af} (h: ¬ FM t):G6 1 (.scope ::st) (t ::r) (some (t ::r))
 | term {n:Nat} {s:List UInt8} {st:List Sy} {t:Af} {r:List Af} {res:Option (List Af)} (h:tk t=s) (d:G6 n st r res):G6 (n+1) (.t s ::st) (t ::r) res
 | term_nil {s:List UInt8} {st:List Sy} :G6 1 (.t s ::st) [] (some [])
 | term_no {s:List UInt8} {st:List Sy} {t:Af} {r:List Af} (h:tk t≠s):G6 1 (.t s ::st) (t ::r) (some (t ::r))
def Ru (st:List Sy) (ts:List Af) (res:Option (List Af)):Prop:=∃ n,G6 n st ts res
theorem Ru.exp {x:Sy}{m st:List Sy}{a:List Af}{b:Option (List Af)}(h:Ae x (G8 a)=some m)(d:Ru (m ++st) a b):Ru (x ::st) a b:=by
 obtain ⟨n,d⟩:=d;exact ⟨n+1,.exp h d⟩
theorem Ru.scope {st:List Sy}{t:Af}{r:List Af}{a:Option (List Af)}(h:FM t)(d:Ru st r a):Ru (.scope ::st) (t ::r) a:=by
 obtain ⟨n,d⟩:=d;exact ⟨n+1,.scope h d⟩
theorem Ru.term {s:List UInt8}{st:List Sy}{t:Af}{r:List Af}{a:Option (List Af)}(h:tk t=s)(d:Ru st r a):Ru (.t s ::st) (t ::r) a:=by
 obtain ⟨n,d⟩:=d;exact ⟨n+1,.term h d⟩
theorem Ru.term_no {s:List UInt8}{st:List Sy}{a:List Af}(h:G8 a≠s):Ru (.t s ::st) a (some a):=by
 cases a with
 | nil=>exact ⟨1,.term_nil⟩
 | cons t r=>exact ⟨1,.term_no h⟩
def PR.aft (x:PR) (st:List Sy) (res:Option (List Af)):Prop:=match x with
 | .ok _ r=>Ru st r res
 | .bad r=>res=some r
def NT.sym:NT→List Sy
 | .expr=> [.expr]
 | .chain k=>if k=1 then [.and_,.orMore] else if k=2 then [.not_,.andMore] else if k=5 then [.term,.sumMore] else [.unary,.termMore]
 | .more k _=>if k=1 then [.orMore] else if k=2 then [.andMore] else if k=5 then [.sumMore] else [.termMore]
 | .opd k=>if k=1 then [.and_] else if k=2 then [.not_] else if k=4 then [.sum] else if k=5 then [.term] else [.unary]
 | .neg=> [.not_]
 | .cmp=> [.sum,.compared]
 | .una=> [.unary]
 | .prim=> [.primary]
 | .encl=> [.t AD,.expr,.t AT]
 | .beh s=> [.t s,.expr]
def NT.fair:NT→Prop
 | .beh s=>s∈Ck
 | n=>n.good
theorem Id {k:Nat}{s:List UInt8}(h:s∈AW k):s∈Ck:=by
 have a1:∀ s∈AW 1,s∈Ck:=by decide
 have a2:∀ s∈AW 2,s∈Ck:=by decide
 have a4:∀ s∈AW 4,s∈Ck:=by decide
 have a5:∀ s∈AW 5,s∈Ck:=by decide
 have a6:∀ s∈AW 6,s∈Ck:=by decide
 match k,h with
 | 0,h | 3,h=>cases h
 | 1,h=>exact a1 s h
 | 2,h=>exact a2 s h
 | 4,h=>exact a4 s h
 | 5,h=>exact a5 s h
 | 6,h=>exact a6 s h
 | k+7,h=>cases h
theorem L6 {k:Nat}{a:List Af}(c:∀ t∈a,BL t)(h:NV k a=none):G8 a ∉ AW k:=by
 intro hm;cases a with
 | nil=>exact absurd (Id hm) (by decide)
 | cons t r=>
  obtain ⟨p,d,b⟩:=List.mem_map.1 hm;rw[NV,CF,Option.map_eq_none_iff,List.find?_eq_none] at h;refine h p d ?_;rw[Ic (c t (List.mem_cons_self ..)) (by rw[b];exact Id hm),decide_eq_true_eq,b];rfl
theorem Gj {k:Nat}{t:Af}{op:Int}(a:BL t)(h:CF k t=some op):tk t∈AW k:=by
 obtain ⟨s,h1,h2⟩:=Fj h;have h3:s∈AW k:=List.mem_map.2 ⟨_,h1,rfl⟩;rw[Ic a (Id h3),decide_eq_true_eq] at h2;rw[h2];exact h3
theorem AO {s:List UInt8}{t:Af}(a:BL t)(hs:s∈Ck)(h:see s t=true):tk t=s:=by
 rw[Ic a hs,decide_eq_true_eq] at h;exact h
theorem L8 {s:List UInt8}{t:Af}(a:BL t)(hs:s∈Ck)(h:see s t=false):tk t≠s:=by
 rw[Ic a hs,decide_eq_false_iff_not] at h;exact h
theorem Dh {s:List UInt8}{a:List Af}(b:∀ t∈a,BL t)(hs:s∈Ck)(h:AL s a=false):G8 a≠s:=by
 rw[NY b hs,decide_eq_false_iff_not] at h;exact h
theorem Sc:∀ (d:List Af) (a:List ByteArray),(∀ t∈d,BL t)→∀ st b,((IU d a).2.1=false→b=some (IU d a).2.2)→((IU d a).2.1=true→Ru (.t BK ::st) (IU d a).2.2 b)→Ru (.scope :: .scopesMore ::st) d b
 | [],a,ho,st,b,h1,h2=>by
  have e:b=some []:=h1 rfl;rw[e];exact ⟨1,.scope_nil⟩
 | [t],a,ho,st,b,h1,h2=>by
  rw[IU] at h1 h2;by_cases hc:FM t
  ·rw[if_pos hc] at h2;refine .scope hc (.exp (m:= [.t BK]) rfl (h2 rfl))
  ·rw[if_neg hc] at h1;have e:b=some [t]:=h1 rfl;rw[e];exact ⟨1,.scope_no hc⟩
 | t ::c ::q,a,ho,st,b,h1,h2=>by
  rw[IU] at h1 h2;by_cases hc:FM t
  ·rw[if_pos hc] at h1 h2;have g:=ho c (by simp);cases hk:see DA c
   ·rw[hk,if_neg (by decide)] at h2;have f:=L8 g (by decide) hk;exact .scope hc (.exp (m:= [.t BK]) (if_neg f) (h2 rfl))
   ·rw[hk,if_pos rfl] at h1 h2;have f:=AO g (by decide) hk;exact .scope hc (.exp (m:= [.t DA,.scope,.scopesMore]) (if_pos f) (.term f (Sc q _ (fun u hu=>ho u (by simp[hu])) st b h1 h2)))
  ·rw[if_neg hc] at h1;have e:b=some (t ::c ::q):=h1 rfl;rw[e];exact ⟨1,.scope_no hc⟩
theorem ML (a:List Af)(c:∀ t∈a,BL t)(st:List Sy)(b:Option (List Af))(h1:(FN a).2.1=false→b=some (FN a).2.2)(h2:(FN a).2.1=true→Ru (.t BK ::st) (FN a).2.2 b):Ru (.scopes ::st) a b:=by
 rw[FN] at h1 h2;cases h:AL BK a
 ·rw[h,if_neg (by decide)] at h1 h2;exact .exp (m:= [.scope,.scopesMore]) (if_neg (Dh c (by decide) h)) (Sc a [] c st b h1 h2)
 ·rw[h,if_pos rfl] at h2;rw[NY c (by decide),decide_eq_true_eq] at h;exact .exp (m:= [.t BK]) (if_pos h) (h2 rfl)
theorem BC {nt:NT}{a:List Af}{x:PR}(d:D nt a x)(b:∀ t∈a,BL t):∀ t∈x.rest,BL t:=by
 obtain ⟨c,hc,_⟩:=d.suf;intro t ht;exact b t (by rw[hc];exact List.mem_append_right _ ht)
theorem Ru.prim_t {s:List UInt8}{st:List Sy}{t:Af}{r:List Af}{a:Option (List Af)}(h:tk t=s)(he:Ae .primary s=some [.t s])(d:Ru st r a):Ru (.primary ::st) (t ::r) a:=
 .exp (m:= [.t s]) (by show Ae .primary (tk t)=_;rw[h];exact he) (.term h d)
theorem D.run {nt:NT}{z:List Af}{x:PR}(d:D nt z x):nt.fair→(∀ t∈z,BL t)→∀ st i,x.aft st i→Ru (nt.sym ++st) z i:=by
 induction d with
 | @beh_no s z h=>
  intro n g st i j;have e:i=some z:=j;rw[e];exact .term_no (Dh g n h)
 | @beh s t r x h d l=>
  intro n g st i j;exact .term (AO (g t (by simp)) n h) (l trivial (fun u hu=>g u (by simp[hu])) st i j)
 | @expr_no z x h d l=>
  intro n g st i j;exact .exp (m:= [.and_,.orMore]) (if_neg (Dh g (by decide) h)) (l (.inl rfl) g st i j)
 | @expr_if1 t r q h d l=>
  intro n g st i j;have:=AO (g t (by simp)) (by decide) h;exact .exp (m:= [.t Du,.expr,.t BQ,.expr,.t AI,.expr]) (if_pos this) (l (show Du∈Ck by decide) g ([Sy.t BQ,Sy.expr,Sy.t AI,Sy.expr] ++st) i j)
 | @expr_if2 t r q p a h d d2 o A=>
  intro n g st i j;have e1:=AO (g t (by simp)) (by decide) h;have y:=BC d g;have h2:Ru ([.t BQ,.expr,.t AI,.expr] ++st) q i:=A (show BQ∈Ck by decide) y ([Sy.t AI,Sy.expr] ++st) i j;exact .exp (m:= [.t Du,.expr,.t BQ,.expr,.t AI,.expr]) (if_pos e1) (o (show Du∈Ck by decide) g ([Sy.t BQ,Sy.expr,Sy.t AI,Sy.expr] ++st) i h2)
 | @expr_if3 t r q p I a b h d d2 d3 o A C=>
  intro n g st i j;have e1:=AO (g t (by simp)) (by decide) h;have y:=BC d g;have h3:Ru ([.t AI,.expr] ++st) p i:=C (show AI∈Ck by decide) (BC d2 y) st i j;have h2:Ru ([.t BQ,.expr,.t AI,.expr] ++st) q i:=A (show BQ∈Ck by decide) y ([Sy.t AI,Sy.expr] ++st) i h3;exact .exp (m:= [.t Du,.expr,.t BQ,.expr,.t AI,.expr]) (if_pos e1) (o (show Du∈Ck by decide) g ([Sy.t BQ,Sy.expr,Sy.t AI,Sy.expr] ++st) i h2)
 | @expr_if t r q p I a b c h d d2 d3 o A C=>
  intro n g st i j;have e1:=AO (g t (by simp)) (by decide) h;have y:=BC d g;have h3:Ru ([.t AI,.expr] ++st) p i:=C (show AI∈Ck by decide) (BC d2 y) st i j;have h2:Ru ([.t BQ,.expr,.t AI,.expr] ++st) q i:=A (show BQ∈Ck by decide) y ([Sy.t AI,Sy.expr] ++st) i h3;exact .exp (m:= [.t Du,.expr,.t BQ,.expr,.t AI,.expr]) (if_pos e1) (o (show Du∈Ck by decide) g ([Sy.t BQ,Sy.expr,Sy.t AI,Sy.expr] ++st) i h2)
 | @chain_bad k z r d l=>
  intro n g st i j;rcases n with rfl | rfl | rfl | rfl
  ·exact l (.inl rfl) g (.orMore ::st) i j
  ·exact l (.inr (.inl rfl)) g (.andMore ::st) i j
  ·exact l (.inr (.inr (.inr (.inl rfl)))) g (.sumMore ::st) i j
  ·exact l (.inr (.inr (.inr (.inr rfl)))) g (.termMore ::st) i j
 | @chain k z r e x d d2 o A=>
  intro n g st i j;have h2:=A n (BC d g) st i j;rcases n with rfl | rfl | rfl | rfl
  ·exact o (.inl rfl) g (.orMore ::st) i h2
  ·exact o (.inr (.inl rfl)) g (.andMore ::st) i h2
  ·exact o (.inr (.inr (.inr (.inl rfl)))) g (.sumMore ::st) i h2
  ·exact o (.inr (.inr (.inr (.inr rfl)))) g (.termMore ::st) i h2
 | @more_no k e z h=>
  intro n g st i j;have v:=L6 g h;rcases n with rfl | rfl | rfl | rfl
  ·exact .exp (m:= []) (if_neg (fun e=>v (by rw[e];decide))) j
  ·exact .exp (m:= []) (if_neg (fun e=>v (by rw[e];decide))) j
  ·exact .exp (m:= []) (if_neg v) j
  ·exact .exp (m:= []) (if_neg v) j
 | @more_bad k e t r q op h d l=>
  intro n g st i j;have v:=Gj (g t (by simp)) h;have w:∀ u∈r,BL u:=fun u hu=>g u (by simp[hu]);rcases n with rfl | rfl | rfl | rfl
  ·have e1:tk t=Wt:=List.mem_singleton.1 v;exact .exp (m:= [.t Wt,.and_,.orMore]) (if_pos e1) (.term e1 (l (.inl rfl) w (.orMore ::st) i j))
  ·have e1:tk t=MK:=List.mem_singleton.1 v;exact .exp (m:= [.t MK,.not_,.andMore]) (if_pos e1) (.term e1 (l (.inr (.inl rfl)) w (.andMore ::st) i j))
  ·exact .exp (m:= [.t (tk t),.term,.sumMore]) (if_pos v) (.term rfl (l (.inr (.inr (.inr (.inl rfl)))) w (.sumMore ::st) i j))
  ·exact .exp (m:= [.t (tk t),.unary,.termMore]) (if_pos v) (.term rfl (l (.inr (.inr (.inr (.inr rfl)))) w (.termMore ::st) i j))
 | @more k e f t r q op x h d d2 o A=>
  intro n g st i j;have v:=Gj (g t (by simp)) h;have w:∀ u∈r,BL u:=fun u hu=>g u (by simp[hu]);have h2:=A n (BC d w) st i j;rcases n with rfl | rfl | rfl | rfl
  ·have e1:tk t=Wt:=List.mem_singleton.1 v;exact .exp (m:= [.t Wt,.and_,.orMore]) (if_pos e1) (.term e1 (o (.inl rfl) w (.orMore ::st) i h2))
  ·have e1:tk t=MK:=List.mem_singleton.1 v;exact .exp (m:= [.t MK,.not_,.andMore]) (if_pos e1) (.term e1 (o (.inr (.inl rfl)) w (.andMore ::st) i h2))
  ·exact .exp (m:= [.t (tk t),.term,.sumMore]) (if_pos v) (.term rfl (o (.inr (.inr (.inr (.inl rfl)))) w (.sumMore ::st) i h2))
  ·exact .exp (m:= [.t (tk t),.unary,.termMore]) (if_pos v) (.term rfl (o (.inr (.inr (.inr (.inr rfl)))) w (.termMore ::st) i h2))
 | opd1 d l=>intro n g st i j;exact .exp (m:= [.not_,.andMore]) rfl (l (.inr (.inl rfl)) g st i j)
 | opd2 d l=>intro n g st i j;exact l trivial g st i j
 | opd4 d l=>intro n g st i j;exact .exp (m:= [.term,.sumMore]) rfl (l (.inr (.inr (.inl rfl))) g st i j)
 | opd5 d l=>intro n g st i j;exact .exp (m:= [.unary,.termMore]) rfl (l (.inr (.inr (.inr rfl))) g st i j)
 | opd6 d l=>intro n g st i j;exact l trivial g st i j
 | @neg_no z x h d l=>
  intro n g st i j;exact .exp (m:= [.sum,.compared]) (if_neg (Dh g (by decide) h)) (l trivial g st i j)
 | @neg_bad t r q h d l=>
  intro n g st i j;have e1:=AO (g t (by simp)) (by decide) h;exact .exp (m:= [.t Ee,.not_]) (if_pos e1) (.term e1 (l trivial (fun u hu=>g u (by simp[hu])) st i j))
 | @neg t r q e h d l=>
  intro n g st i j;have e1:=AO (g t (by simp)) (by decide) h;exact .exp (m:= [.t Ee,.not_]) (if_pos e1) (.term e1 (l trivial (fun u hu=>g u (by simp[hu])) st i j))
 | cmp_bad d l=>intro n g st i j;exact l (.inr (.inr (.inl rfl))) g (.compared ::st) i j
 | cmp_one d h l=>
  intro n g st i j;exact l (.inr (.inr (.inl rfl))) g (.compared ::st) i (.exp (m:= []) (if_neg (L6 (BC d g) h)) j)
 | @cmp_two_bad z r q e t op d h d2 o A=>
  intro n g st i j;have y:∀ u∈t ::r,BL u:=BC d g;have v:=Gj (y t (by simp)) h;exact o (.inr (.inr (.inl rfl))) g (.compared ::st) i (.exp (m:= [.t (tk t),.sum]) (if_pos v) (.term rfl (A (.inr (.inr (.inl rfl))) (fun u hu=>y u (by simp[hu])) st i j)))
 | @cmp_two z r q e f t op d h d2 o A=>
  intro n g st i j;have y:∀ u∈t ::r,BL u:=BC d g;have v:=Gj (y t (by simp)) h;exact o (.inr (.inr (.inl rfl))) g (.compared ::st) i (.exp (m:= [.t (tk t),.sum]) (if_pos v) (.term rfl (A (.inr (.inr (.inl rfl))) (fun u hu=>y u (by simp[hu])) st i j)))
 | @una_no z x h d l=>
  intro n g st i j;exact .exp (m:= [.primary]) (if_neg (Dh g (by decide) h)) (l trivial g st i j)
 | @una_bad t r q h d l=>
  intro n g st i j;have e1:=AO (g t (by simp)) (by decide) h;exact .exp (m:= [.t AX,.unary]) (if_pos e1) (.term e1 (l trivial (fun u hu=>g u (by simp[hu])) st i j))
 | @una t r q e h d l=>
  intro n g st i j;have e1:=AO (g t (by simp)) (by decide) h;exact .exp (m:= [.t AX,.unary]) (if_pos e1) (.term e1 (l trivial (fun u hu=>g u (by simp[hu])) st i j))
 | @num t r h=>intro n g st i j;exact .prim_t (s:=Kk) (by rw[tk,if_pos h]) rfl j
 | @text t r h=>intro n g st i j;exact .prim_t (s:=EC) (by rw[tk,h];rfl) rfl j
 | @name t r h=>intro n g st i j;exact .prim_t (s:=DW) (by rw[tk,h];rfl) rfl j
 | @tru t r h=>intro n g st i j;exact .prim_t (AO (g t (by simp)) (by decide) h) rfl j
 | @fls t r h=>intro n g st i j;exact .prim_t (AO (g t (by simp)) (by decide) h) rfl j
 | @size_bad t r q h d l=>
  intro n g st i j;have e1:=AO (g t (by simp)) (by decide) h;exact .exp (m:= [.t BO,.t AD,.expr,.t AT]) (by show Ae .primary (tk t)=_;rw[e1];rfl) (.term e1 (l trivial (fun u hu=>g u (by simp[hu])) st i j))
 | @size t r q e h d l=>
  intro n g st i j;have e1:=AO (g t (by simp)) (by decide) h;exact .exp (m:= [.t BO,.t AD,.expr,.t AT]) (by show Ae .primary (tk t)=_;rw[e1];rfl) (.term e1 (l trivial (fun u hu=>g u (by simp[hu])) st i j))
 | @par t r x h d l=>
  intro n g st i j;have e1:=AO (g t (by simp)) (by decide) h;exact .exp (m:= [.t AD,.expr,.t AT]) (by show Ae .primary (tk t)=_;rw[e1];rfl) (l trivial g st i j)
 | @set_bad t r q F h hs=>
  intro n g st i j;have e1:=AO (g t (by simp)) (by decide) h;have e:i=some q:=j;exact .exp (m:= [.t BV,.scopes]) (by show Ae .primary (tk t)=_;rw[e1];rfl) (.term e1 (ML r (fun u hu=>g u (by simp[hu])) st i (fun _=>by rw[hs];exact e) (fun h=>by rw[hs] at h;cases h)))
 | @set_end t r q F h hs hq=>
  intro n g st i j;have e1:=AO (g t (by simp)) (by decide) h;have e:i=some q:=j;have w:∀ u∈r,BL u:=fun u hu=>g u (by simp[hu]);have J:∀ u∈q,BL u:=fun u hu=>by
   obtain ⟨c,hc⟩:=Ib r;rw[hs] at hc;exact w u (by rw[hc];exact List.mem_append_right _ hu)
  exact .exp (m:= [.t BV,.scopes]) (by show Ae .primary (tk t)=_;rw[e1];rfl) (.term e1 (ML r w st i (fun h=>by rw[hs] at h;cases h) (fun _=>by rw[hs,e];exact .term_no (Dh J (by decide) hq))))
 | @set t u r q F h hs hq=>
  intro n g st i j;have e1:=AO (g t (by simp)) (by decide) h;have w:∀ u∈r,BL u:=fun u hu=>g u (by simp[hu]);have K:BL u:=by
   obtain ⟨c,hc⟩:=Ib r;rw[hs] at hc;exact w u (by rw[hc];simp)
  exact .exp (m:= [.t BV,.scopes]) (by show Ae .primary (tk t)=_;rw[e1];rfl) (.term e1 (ML r w st i (fun h=>by rw[hs] at h;cases h) (fun _=>by rw[hs];exact .term (AO K (by decide) hq) j)))
 | prim_nil=>
  intro n g st i j;have e:i=some []:=j;rw[e];exact .exp (m:= [.t Kk]) rfl (.term_no (by decide))
 | @prim_no t r h1 h2 h3 h4 h5 h6 h7 h8=>
  intro n g st i j;have e:i=some (t ::r):=j;rw[e];have B:=g t (by simp);have Q:t.kind=4∨t.kind=5:=by rcases B with h | h | h | h <;> first | contradiction | exact h.1
  have H:tk t=Ak t.text∧Ak t.text∈Ck:=by
   rcases B with h | h | h | h
   ·contradiction
   ·contradiction
   ·contradiction
   ·exact ⟨by rw[tk,if_neg h1,if_neg h2,if_neg h3],h.2⟩
  have E:∀ s,s ∉ Ck→tk t≠s:=fun s hs e=>hs (by rw[← e,H.1];exact H.2);have L:=L8 B (by decide) h4;have M:=L8 B (by decide) h5;have N:=L8 B (by decide) h6;have O:=L8 B (by decide) h7;have P:=L8 B (by decide) h8;refine .exp (m:= [.t Kk]) ?_ (.term_no (show tk t≠_ from E _ (by decide)));show Ae .primary (tk t)=_;rw[Ae,if_neg O,if_neg N,if_neg P,if_neg (by
   rintro (h | h | h | h)
   ·exact E _ (by decide) h
   ·exact E _ (by decide) h
   ·exact L h
   ·exact M h)]
 | encl_bad d l=>intro n g st i j;exact l (show AD∈Ck by decide) g (.t AT ::st) i j
 | encl_end d h l=>
  intro n g st i j;refine l (show AD∈Ck by decide) g (.t AT ::st) i ?_;have e:i=_:=j;rw[e];exact .term_no (Dh (BC d g) (by decide) h)
 | @encl z r e t d h l=>
  intro n g st i j;have y:∀ u∈t ::r,BL u:=BC d g;exact l (show AD∈Ck by decide) g (.t AT ::st) i (.term (AO (y t (by simp)) (by decide) h) j)
set_option maxHeartbeats 1600000
def Uh (first:Bool) (s x:ByteArray):Bool:=first || sl s x
structure CV (names:List ByteArray) (first:Bool) (s best:ByteArray) (found:Bool):Prop where
 yes:found=true→best∈names∧Uh first s best=true∧∀ x∈names,Uh first s x=true→sl x best=false
 no:found=false→∀ x∈names,Uh first s x=false
theorem CV.start (first:Bool)(s a:ByteArray):CV [] first s a false:=⟨(fun h=>by cases h),(fun _ x hx=>by cases hx)⟩
theorem CV.skip {names:List ByteArray}{first:Bool}{s c x:ByteArray}{d:Bool}(h:CV names first s c d)(hx:Uh first s x=false):CV (names ++ [x]) first s c d:=by
 refine ⟨fun a=>?_,fun a y hy=>?_⟩
 ·obtain ⟨h1,h2,h3⟩:=h.yes a;refine ⟨List.mem_append_left _ h1,h2,fun y hy b=>?_⟩;rcases List.mem_append.1 hy with hy | hy
  ·exact h3 y hy b
  ·simp only[List.mem_singleton] at hy;subst hy;rw[hx] at b;cases b
 ·rcases List.mem_append.1 hy with hy | hy
  ·exact h.no a y hy
  ·simp only[List.mem_singleton] at hy;subst hy;exact hx
theorem CV.keep {names:List ByteArray}{first:Bool}{s a x:ByteArray}(h:CV names first s a true)(hx:sl x a=false):CV (names ++ [x]) first s a true:=by
 obtain ⟨h1,h2,h3⟩:=h.yes rfl;refine ⟨fun _=>⟨List.mem_append_left _ h1,h2,fun y hy b=>?_⟩,fun c=>by cases c⟩;rcases List.mem_append.1 hy with hy | hy
 ·exact h3 y hy b
 ·simp only[List.mem_singleton] at hy;subst hy;exact hx
theorem CV.take {names:List ByteArray}{first:Bool}{s c x:ByteArray}{a:Bool}(h:CV names first s c a)(hx:Uh first s x=true)(hl:a=true→sl x c=true):CV (names ++ [x]) first s x true:=by
 refine ⟨fun _=>⟨by simp,hx,fun y hy b=>?_⟩,fun d=>by cases d⟩;rcases List.mem_append.1 hy with hy | hy
 ·cases a with
  | false=>rw[h.no rfl y hy] at b;cases b
  | true=>
   have h3:=(h.yes rfl).2.2 y hy b;rw[Bool.eq_false_iff] at h3 ⊢;intro hk;exact h3 (H4 hk (hl rfl))
 ·simp only[List.mem_singleton] at hy;subst hy;exact Dk _
theorem Xl (first:Bool)(s x:ByteArray)(a:first=false)(h:(Op.bytesLess x.toList s.toList || x.toList== s.toList)=true):Uh first s x=false:=by
 subst a;simp only[Uh,Bool.false_or];rw[Bool.or_eq_true] at h;rcases h with h | h
 ·exact Ke h
 ·have:x=s:=(EW x s).1 h;subst this;exact Dk _
theorem Yc (first:Bool)(s x:ByteArray)(h:(Op.bytesLess x.toList s.toList || x.toList== s.toList)=false):Uh first s x=true:=by
 rw[Bool.or_eq_false_iff] at h;have h1:sl x s=false:=h.1;have h2:Xw x s=false:=h.2;have:sl s x=true:=by
  cases hk:sl s x with
  | true=>rfl
  | false=>
   have:=Qa _ _ h1 hk;rw[(EW _ _).2 this] at h2;cases h2
 simp[Uh,this]
def Xm (ss:List ByteArray) (first:Bool) (s:ByteArray) (e:Ending):Prop:=∃ best found,e= .returned (.tuple #[.string best,.bool found])∧CV ss first s best found
theorem Li (a:Option Addr)(n c:Nat)(d:List ByteArray)(s:ByteArray)(first:Bool)(w:World)(h:Bg w a n c d):
  Calls Tryz.prog 29 #[.slice a n c,.string s,.bool first] w fun e w'=>Xm d first s e∧w'=w:=by
 have v:n≤9223372036854775807:=by have:=h.cap;have:=h.small;unfold maxLen at this;omega
 have q:=Ab h.len;go_enter Tryz.func29,Tryz.ntmps29
 go_wp2
 go_loop [8,9,11,14] (fun b f _ i=>∃ (k:Nat) (m:ByteArray) (g:Bool),k≤n∧i= .int .i64 k∧b= .string m∧f= .bool g∧CV (d.take k) first s m g) (fun _ _ _ i=>n - (intOf i).toNat)
 case atStart=>exact ⟨0,_,false,Nat.zero_le _,rfl,rfl,rfl,CV.start _ _ _⟩
 case round=>
  obtain ⟨k,m,g,hk,rfl,rfl,rfl,hi⟩:=hrel;by_cases t:k < n
  ·obtain ⟨b,x,u,_,hc⟩:=h.cells k t;subst u;have j:=Ab (LX d k (by have:=Aa q;omega));cases r:(Op.bytesLess (EP d k).toList s.toList || (EP d k).toList== s.toList)
   ·have o:=Yc first s (EP d k) r
    have l:=Ab o;clear o;cases g
    ·cases first
     all_goals
      go_wp2
      go_round
      case rel=>exact ⟨k+1,_,true,by omega,by go_num,rfl,rfl,by rw[Aa j];exact hi.take (Aa l) (fun h=>by cases h)⟩
      case measure=>simp[intOf];omega
    ·cases p:Op.bytesLess (EP d k).toList m.toList
     ·cases first
      all_goals
       go_wp2
       go_round
       case rel=>exact ⟨k+1,_,true,by omega,by go_num,rfl,rfl,by rw[Aa j];exact hi.keep p⟩
       case measure=>simp[intOf];omega
     ·cases first
      all_goals
       go_wp2
       go_round
       case rel=>exact ⟨k+1,_,true,by omega,by go_num,rfl,rfl,by rw[Aa j];exact hi.take (Aa l) (fun _=>p)⟩
       case measure=>simp[intOf];omega
   ·cases first
    ·have l:=Ab (Xl false s (EP d k) rfl r);go_wp2
     go_round
     case rel=>exact ⟨k+1,_,g,by omega,by go_num,rfl,rfl,by rw[Aa j];exact hi.skip (Aa l)⟩
     case measure=>simp[intOf];omega
    ·have o:Uh true s (EP d k)=true:=rfl;have l:=Ab o;clear o;cases g
     ·go_wp2
      go_round
      case rel=>exact ⟨k+1,_,true,by omega,by go_num,rfl,rfl,by rw[Aa j];exact hi.take (Aa l) (fun h=>by cases h)⟩
      case measure=>simp[intOf];omega
     ·cases p:Op.bytesLess (EP d k).toList m.toList
      ·go_wp2
       go_round
       case rel=>exact ⟨k+1,_,true,by omega,by go_num,rfl,rfl,by rw[Aa j];exact hi.keep p⟩
       case measure=>simp[intOf];omega
      ·go_wp2
       go_round
       case rel=>exact ⟨k+1,_,true,by omega,by go_num,rfl,rfl,by rw[Aa j];exact hi.take (Aa l) (fun _=>p)⟩
       case measure=>simp[intOf];omega
  ·have e1:d.take k=d:=List.take_of_length_le (by have:=Aa q;omega);rw[e1] at hi;go_wp2
   go_ret2
   exact ⟨⟨m,g,rfl,hi⟩,rfl⟩
theorem Lj {K:List ByteArray}(h:Ff K=true):K.Nodup:=by
 rw[Ff,decide_eq_true_eq] at h;exact h.imp (fun {a b} hab e=>by subst e;rw[Dk] at hab;cases hab)
theorem Lk:∀ (K l:List ByteArray),K.Nodup→(∀ x∈K,x∈l)→K.length≤l.length
 | [],_,_,_=>Nat.zero_le _
 | x ::K,l,hn,hs=>by
  obtain ⟨a,b,rfl⟩:=List.append_of_mem (hs x (by simp));rw[List.nodup_cons] at hn;have:=Lk K (a ++b) hn.2 (fun y hy=>by
   have c:y≠x:=fun e=>hn.1 (by rw[← e];exact hy);have hm:=hs y (by simp[hy]);simp only[List.mem_append,List.mem_cons] at hm ⊢;rcases hm with h | h | h
   ·exact .inl h
   ·exact absurd h c
   ·exact .inr h)
  simp only[List.length_append,List.length_cons] at this ⊢;omega
theorem JQ:∀ (K M:List ByteArray),Ff K=true→Ff M=true→(∀ x,x∈K↔x∈M)→K=M
 | [], [],_,_,_=>rfl
 | [],y ::M,_,_,h=>by have:=(h y).2 (by simp);cases this
 | x ::K, [],_,_,h=>by have:=(h x).1 (by simp);cases this
 | x ::K,y ::M,hK,hM,h=>by
  rw[Ff,decide_eq_true_eq,List.pairwise_cons] at hK hM;have c:x=y:=by
   rcases List.mem_cons.1 ((h x).1 (by simp)) with e | hx
   ·exact e
   ·rcases List.mem_cons.1 ((h y).2 (by simp)) with e | hy
    ·exact e.symm
    ·have h1:=hM.1 x hx;have h2:=hK.1 y hy;rw[Ke h1] at h2;cases h2
  subst c
  congr 1
  refine JQ K M (by rw[Ff,decide_eq_true_eq];exact hK.2) (by rw[Ff,decide_eq_true_eq];exact hM.2) fun b=>?_;constructor
  ·intro a;rcases List.mem_cons.1 ((h b).1 (by simp[a])) with e | hz'
   ·subst e;have:=hK.1 b a;rw[Dk] at this;cases this
   ·exact hz'
  ·intro a;rcases List.mem_cons.1 ((h b).2 (by simp[a])) with e | hz'
   ·subst e;have:=hM.1 b a;rw[Dk] at this;cases this
   ·exact hz'
structure Cx (l K:List ByteArray):Prop where
 rise:Ff K=true
 mem:∀ x,x∈K↔x∈l
theorem Cx.unique {l K M:List ByteArray}(h:Cx l K)(k:Cx l M):K=M:=JQ K M h.rise k.rise fun x=>(h.mem x).trans (k.mem x).symm
theorem Cx.len {l K:List ByteArray}(h:Cx l K):K.length≤l.length:=Lk K l (Lj h.rise) fun x hx=>(h.mem x).1 hx
structure Nu (l K:List ByteArray) (s:ByteArray) (ok:Bool):Prop where
 rise:Ff K=true
 yes:ok=true→s∈l∧∀ x,x∈K↔x∈l∧sl x s=true
 no:ok=false→∀ x,x∈K↔x∈l
theorem Nu.start {l:List ByteArray}{t s:ByteArray}{ok:Bool}(h:CV l true t s ok):Nu l [] s ok:=by
 refine ⟨rfl,fun hk=>⟨(h.yes hk).1,fun x=>⟨(fun hx=>by cases hx),fun ⟨hx,hl⟩=>?_⟩⟩,fun hk x=>⟨(fun hx=>by cases hx),fun hx=>?_⟩⟩
 ·have:=(h.yes hk).2.2 x hx rfl;rw[this] at hl;cases hl
 ·have:=h.no hk x hx;cases this
theorem Hz (x s:ByteArray):sl x s=true∨x=s∨sl s x=true:=by
 cases h1:sl x s with
 | true=>exact .inl rfl
 | false=>cases h2:sl s x with
  | true=>exact .inr (.inr rfl)
  | false=>exact .inr (.inl (Qa _ _ h1 h2))
theorem Nu.step {l K:List ByteArray}{s s':ByteArray}{ok:Bool}(h:Nu l K s true)(k:CV l false s s' ok):Nu l (K ++ [s]) s' ok:=by
 obtain ⟨hs,hm⟩:=h.yes rfl;have rise:Ff (K ++ [s])=true:=by
  rw[Ff,decide_eq_true_eq,List.pairwise_append];refine ⟨by have:=h.rise;rwa[Ff,decide_eq_true_eq] at this,by simp,fun x hx y hy=>?_⟩;simp only[List.mem_singleton] at hy;subst hy;exact ((hm x).1 hx).2
 refine ⟨rise,fun hk=>?_,fun hk=>?_⟩
 ·obtain ⟨h1,h2,h3⟩:=k.yes hk;have a:sl s s'=true:=by simpa[Uh] using h2
  refine ⟨h1,fun x=>⟨fun hx=>?_,fun ⟨hx,hl⟩=>?_⟩⟩
  ·rcases List.mem_append.1 hx with hx | hx
   ·exact ⟨((hm x).1 hx).1,H4 ((hm x).1 hx).2 a⟩
   ·simp only[List.mem_singleton] at hx;subst hx;exact ⟨hs,a⟩
  ·rcases Hz x s with hc | hc | hc
   ·exact List.mem_append_left _ ((hm x).2 ⟨hx,hc⟩)
   ·subst hc;simp
   ·have:=h3 x hx (by simpa[Uh] using hc);rw[this] at hl;cases hl
 ·intro x;constructor
  ·intro hx;rcases List.mem_append.1 hx with hx | hx
   ·exact ((hm x).1 hx).1
   ·simp only[List.mem_singleton] at hx;subst hx;exact hs
  ·intro hx;rcases Hz x s with hc | hc | hc
   ·exact List.mem_append_left _ ((hm x).2 ⟨hx,hc⟩)
   ·subst hc;simp
   ·have:=k.no hk x hx;simp[Uh,hc] at this
theorem Nu.lt {l K:List ByteArray}{s:ByteArray}(h:Nu l K s true):K.length < l.length:=by
 obtain ⟨hs,hm⟩:=h.yes rfl;have a:s ∉ K:=fun hk=>by have:=((hm s).1 hk).2;rw[Dk] at this;cases this
 have:=Lk (s ::K) l (List.nodup_cons.2 ⟨a,Lj h.rise⟩) (fun x hx=>by
  rcases List.mem_cons.1 hx with e | hx
  ·subst e;exact hs
  ·exact ((hm x).1 hx).1)
 simp only[List.length_cons] at this;omega
def Eg:Value→Nat | .slice _ n _=>n | _=>0
def Xn (w:World) (ss:List ByteArray) (e:Ending) (w':World):Prop:=
 ∃ x cx K,e= .returned (.slice x K.length cx)∧w'.ownsRow w.heap.size 9 1 (.slice x K.length cx) K.length (K.map Value.string)∧Below w.heap.size w w'∧Cx ss K
theorem Eh (a:Option Addr)(n c:Nat)(g:List ByteArray)(w:World)(h:Bg w a n c g)(Q:n≤1048576):
  Calls Tryz.prog 12 #[.slice a n c] w fun e w'=>Xn w g e w':=by
 obtain ⟨i,hi,A,B,C⟩:=info_parts Kc;have E:=Ab h.len;go_enter Tryz.func12,Tryz.ntmps12
 go_wp2_with fail
 refine (Li _ _ _ _ _ _ _ h).mono ?_;rintro e m ⟨⟨F,H,rfl,b⟩,o⟩;rw[o];clear o;have I:=Nu.start b;clear b;go_wp2_with fail
 go_loopw [3,4,5] (fun v s ok wr=>∃ (K:List ByteArray) (t:ByteArray) (q:Bool) (x:Option Addr) (d:Nat),s= .string t∧ok= .bool q∧v= .slice x K.length d∧wr.ownsRow w.heap.size 9 1 (.slice x K.length d) K.length (K.map Value.string)∧Nu g K t q∧Below w.heap.size w wr) (fun v _ _ _=>n - Eg v)
 case atStart=>exact ⟨[],F,H,none,0,rfl,rfl,rfl,World.ownsRow_nil _ _ _ _,I,BRN⟩
 case round=>
  obtain ⟨K,t,q,x,d,rfl,rfl,rfl,f,hu,j⟩:=hrel;cases q
  ·go_wp2
   go_ret
   exact ⟨x,d,K,rfl,f,j,⟨hu.rise,hu.no rfl⟩⟩
  ·have R:K.length < n:=by have:=hu.lt;have:=Aa E;omega
   have J:=j.size;go_wp2_with (at_builtin;refine wpList_append_own _ rfl _ _ 34 rfl w.heap.size 9 i (.string ByteArray.empty) 1 16 Tryz.underlying34 hi A B C rfl (by decide) _ _ _ rfl (f.alloc _) ⟨wr.heap.size,0,none⟩ 1 1 [.string t] rfl rfl ?c1 ?c2 ?c3 ?c4 ?c5 ?_)
   case c1=>exact cell_one_new _ _ _
   case c2=>intro u hu;simp at hu;subst hu;rfl
   case c3=>unfold maxLen;omega
   case c4=>omega
   case c5=>simp;omega
   intro S m l p _;have r:Below w.heap.size w m:=(j.alloc J _).grown p (by simp;omega) (fun k hk=>(f.lt k hk).1);obtain ⟨L,M,y⟩:=Em l;rw[y] at l ⊢;clear p f y;go_wp2_with fail
   refine (Li _ _ _ _ _ _ _ (h.below r NLN)).mono ?_;rintro e T ⟨⟨N,O,rfl,b⟩,z⟩;rw[z];clear z;have P:=hu.step b;clear b hu;go_wp2
   go_roundw
   case rel=>exact ⟨K ++ [t],N,O,L,M,rfl,rfl,by rw[List.length_append];rfl,by rw[List.map_append,List.length_append];exact l,P,r⟩
   case measure=>simp[Eg];omega
end Go.Proofs.YtdldimphcpojoaaGreatDoor
namespace Go.Proofs.YtdldimphcpojoaaGreatDoor
open Go.RowKit Go.ChangeShapes
structure EU (w:World) (a:Option Addr) (n c:Nat) (zs:List Int):Prop where
 cap:n≤c
 small:c≤maxLen
 cells:∀ j,j < n→∃ b off z,a=some ⟨b,off,none⟩∧b < w.heap.size∧w.cell? ⟨b,off+j,none⟩=some (.int .u8 z)∧0≤z∧z≤255
theorem EU.below {w w':World}{B:Nat}{a:Option Addr}{n c:Nat}{d:List Int}(h:EU w a n c d)(f:Below B w w')(k:w.heap.size≤B):EU w' a n c d:=
 ⟨h.cap,h.small,fun j l=>by
  obtain ⟨b,g,m,o,i,hc,q⟩:=h.cells j l;exact ⟨b,g,m,o,Nat.lt_of_lt_of_le i f.size,by rw[← hc];exact f.cell (p:=⟨b,g+j,none⟩) (Nat.lt_of_lt_of_le i k),q⟩⟩
theorem EU.of_trod {k:Type}{enc:TypeId × Value→k}{P:Program}{w:World}{o:Bool}{t e:TypeId}{fuel:Nat}{x:DataW k × List MemPlace}{a:Option Addr}{n c:Nat}
  (ht:P.underlying t=some (.slice e))(he:P.underlying e=some (.int .u8))(hc:P.cellsOf e=1)
  (h:DataW.trod enc P w 0 (fun _=>true) o fuel t [.slice a n c]=some x):∃ d,EU w a n c d:=by
 rcases open_ints ht he hc h with ⟨f,_⟩ | ⟨p,len,cap,d,f,_,hl,hm,q,_,l,r⟩
 ·simp only[List.cons.injEq,Value.slice.injEq,and_true] at f;obtain ⟨rfl,rfl,rfl⟩:=f;exact ⟨[],NLN,Nat.zero_le _,fun j s=>by omega⟩
 ·simp only[List.cons.injEq,Value.slice.injEq,and_true] at f;obtain ⟨rfl,rfl,rfl⟩:=f;simp only[if_true] at q;refine ⟨d,hl,hm,fun j s=>?_⟩;have hs:=World.cell?_spot (l 0 (by omega));obtain ⟨b,g,y⟩:=p;simp only[Addr.add,if_true] at hs;subst hs;have i:=l j (by omega);have u:(⟨b,g,none⟩:Addr).add j=⟨b,g+j,none⟩:=by
   by_cases e:j=0 <;> simp[Addr.add,e]
  rw[u] at i;have m:=bounds_u8 (r (d.getD j 0) (by simp[List.getD,show j < d.length from by omega]));refine ⟨b,g,d.getD j 0,rfl, ?_,i,m.1,m.2⟩;by_cases v:b < w.heap.size
  ·exact v
  ·have:w.heap[b]? =none:=Array.getElem?_eq_none (by omega);simp[World.cell?,this] at i
structure Rd (w:World) (R:Nat) (a:Option Addr) (n c p:Nat):Prop where
 row:An w R #[.slice a n c,.int .i64 (p:Int)] 61
 le:p≤n
 small:n≤1048576
 cells:∀ j,j < n→∃ b off z,a=some ⟨b,off,none⟩∧b < R∧w.cell? ⟨b,off+j,none⟩=some (.int .u8 z)∧0≤z∧z≤255
theorem Rd.after {w w':World}{B R:Nat}{a:Option Addr}{n c p:Nat}(h:Rd w R a n c p)(d:Below B w w')(g:R < B):Rd w' R a n c p:=
 ⟨h.row.below d g,h.le,h.small,fun j i=>by
  obtain ⟨b,f,k,l,m,hc,o⟩:=h.cells j i;exact ⟨b,f,k,l,m,by rw[← hc];exact d.cell (p:=⟨b,f+j,none⟩) (by show b < B;omega),o⟩⟩
theorem Rd.new {w:World}{a:Option Addr}{n c:Nat}{g:List Int}(h:EU w a n c g)(i:n≤1048576):Rd (w.alloc (.cells #[.slice a n c,.int .i64 0] 61)) w.heap.size a n c 0:=
 ⟨An.new _ _ _,Nat.zero_le _,i,fun j k=>by
  obtain ⟨b,d,l,m,f,hc,o⟩:=h.cells j k;exact ⟨b,d,l,m,f,by rw[← hc];exact ((Below.refl w.heap.size w).alloc NLN _).cell (p:=⟨b,d+j,none⟩) f,o⟩⟩
theorem Rd.step {w:World}{R:Nat}{a:Option Addr}{n c p:Nat}(h:Rd w R a n c p)(d:p < n):Rd (w.setCell ⟨R,1,none⟩ (.int .i64 ((p+1 :Nat):Int))) R a n c (p+1):=
 ⟨by simpa using h.row.set 1 (.int .i64 ((p+1 :Nat):Int)),d,h.small,fun j f=>by
  obtain ⟨b,g,i,k,l,hc,m⟩:=h.cells j f;refine ⟨b,g,i,k,l, ?_,m⟩;rw[← hc];exact World.cell?_of_block (heap_setCell_other w ⟨R,1,none⟩ b _ (by show b≠R;omega))⟩
def Cr (w:World) (R:Nat) (a:Option Addr) (n c:Nat):Prop:=∃ p,Rd w R a n c p
end Go.Proofs.YtdldimphcpojoaaGreatDoor
