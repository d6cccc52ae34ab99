/-
  GD, GE, FFA, FFB, Laws, WD. Own work.
-/
import Derived.Test.YtdldimphcpojoaaGreatDoorMXAE
import Derived.Test.YtdldimphcpojoaaGreatDoorMXAK
import Derived.Test.YtdldimphcpojoaaGreatDoorMXAA
namespace Go.Proofs.YtdldimphcpojoaaGreatDoor
open Go.RowKit
set_option linter.unusedVariables false
theorem L9 {k m:Nat}{t:Af}{op:Int}(h:CF k t=some op)(hk:m < k):(AW m).any (fun x=>see x t)=false:=by
 obtain ⟨s,h1,h2⟩:=Fj h;refine UJ h2 (fun hm=>?_);have hs:s∈AW k:=List.mem_map.2 ⟨_,h1,rfl⟩;have c:∀ (a b:List (List UInt8)),(∀ x∈a,x ∉ b)→s∈a→s∈b→False:=fun a b h d f=>h s d f
 match k,m,hk with
 | 2,1,_=>exact c (AW 2) (AW 1) (by decide) hs hm
 | 4,1,_=>exact c (AW 4) (AW 1) (by decide) hs hm
 | 4,2,_=>exact c (AW 4) (AW 2) (by decide) hs hm
 | 5,1,_=>exact c (AW 5) (AW 1) (by decide) hs hm
 | 5,2,_=>exact c (AW 5) (AW 2) (by decide) hs hm
 | 5,4,_=>exact c (AW 5) (AW 4) (by decide) hs hm
 | 6,1,_=>exact c (AW 6) (AW 1) (by decide) hs hm
 | 6,2,_=>exact c (AW 6) (AW 2) (by decide) hs hm
 | 6,4,_=>exact c (AW 6) (AW 4) (by decide) hs hm
 | 6,5,_=>exact c (AW 6) (AW 5) (by decide) hs hm
 | _,0,_=>cases hm
 | _,3,_=>cases hm
 | 1,m+1,h=>omega
 | 3,_,_=>cases hs
 | k+7,_,_=>cases hs
theorem UK {k:Nat}{t:Af}{op:Int}(h:CF k t=some op):(AW k).any (fun x=>see x t)=true:=by
 obtain ⟨s,h1,h2⟩:=Fj h;exact List.any_eq_true.2 ⟨s,List.mem_map.2 ⟨_,h1,rfl⟩,h2⟩
theorem IZ {k:Nat}{s:List UInt8}(h:s∈AW k):s ∉ [AD,BV,AT,BK,Ca,Bs,Du,BQ,AI,Ee,AF,Bh]:=by
 obtain ⟨⟨x,op⟩,h1,h2⟩:=List.mem_map.1 h;rw[← h2];exact Kv h1
theorem G.flat (m:Nat){k:Nat}{c:List Af}{p:Pt}(g:G k c p): 1≤k→∀ (s:LS),s.d=0→s.pe=false→∃ acc,c.foldl (Cl (AW m)) s=⟨true,0,s.i+c.length,acc⟩∧(m < k→acc=s.acc):=by
 induction g with
 | up hk g f=>
  intro h1 s hs a;obtain ⟨acc,e,b⟩:=f (by omega) s hs a;exact ⟨acc,e,fun h=>b (by omega)⟩
 | ite=>intro h1;omega
 | @bin k l r t op z A hk B ht C j n=>
  intro h1 s hs a;obtain ⟨e1,e2,e3⟩:=Dr ht;obtain ⟨acc,e,b⟩:=j h1 s hs a;have o:Cl (AW m) ⟨true,0,s.i+l.length,acc⟩ t=⟨false,0,s.i+l.length+1,if (AW m).any (fun x=>see x t) then s.i+l.length else acc⟩:=by
   rw[Cl,e1,e2,if_neg (by rintro (h | h);exact absurd h (Int.lt_irrefl 0);cases h)]
  obtain ⟨q,e',w⟩:=n (by omega) ⟨false,0,s.i+l.length+1,if (AW m).any (fun x=>see x t) then s.i+l.length else acc⟩ rfl rfl;refine ⟨q, ?_,fun h=>?_⟩
  ·rw[List.foldl_append,e,List.foldl_cons,o,e'];simp only[LS.mk.injEq,true_and,and_true,List.length_cons,List.length_append];omega
  ·have:=w (by omega);rw[L9 ht h,if_neg (by decide),b h] at this;exact this
 | @cmp l r t op z A B ht C j n=>
  intro h1 s hs a;obtain ⟨e1,e2,e3⟩:=Dr ht;obtain ⟨acc,e,b⟩:=j (by omega) s hs a;have o:Cl (AW m) ⟨true,0,s.i+l.length,acc⟩ t=⟨false,0,s.i+l.length+1,if (AW m).any (fun x=>see x t) then s.i+l.length else acc⟩:=by
   rw[Cl,e1,e2,if_neg (by rintro (h | h);exact absurd h (Int.lt_irrefl 0);cases h)]
  obtain ⟨q,e',w⟩:=n (by omega) ⟨false,0,s.i+l.length+1,if (AW m).any (fun x=>see x t) then s.i+l.length else acc⟩ rfl rfl;refine ⟨q, ?_,fun h=>?_⟩
  ·rw[List.foldl_append,e,List.foldl_cons,o,e'];simp only[LS.mk.injEq,true_and,and_true,List.length_cons,List.length_append];omega
  ·have:=w (by omega);rw[L9 ht h,if_neg (by decide),b (by omega)] at this;exact this
 | @not t r p ht g f=>
  intro h1 s hs a;have e1:=Cv ht (by decide) s.d;have e2:=Ku ht (by decide);obtain ⟨acc,e,b⟩:=f h1 ⟨false,0,s.i+1,s.acc⟩ rfl rfl;refine ⟨acc, ?_,b⟩;rw[List.foldl_cons,Cs _ a,e1,e2,hs,e];simp only[LS.mk.injEq,true_and,and_true,List.length_cons];omega
 | @neg t r p ht g f=>
  intro h1 s hs a;have e1:=Cv ht (by decide) s.d;have e2:=Ku ht (by decide);obtain ⟨acc,e,b⟩:=f h1 ⟨false,0,s.i+1,s.acc⟩ rfl rfl;refine ⟨acc, ?_,b⟩;rw[List.foldl_cons,Cs _ a,e1,e2,hs,e];simp only[LS.mk.injEq,true_and,and_true,List.length_cons];omega
 | @par t u r p ht g hu f=>
  intro h1 s hs a;have e1:=EV (.inl ht) s.d;have e2:=DX (.inl hu) (s.d+1);refine ⟨s.acc, ?_,fun _=>rfl⟩;rw[List.foldl_cons,Cs _ a,e1,List.foldl_append,g.deep (AW m) _ (by show 0 < s.d+1;omega),List.foldl_cons,List.foldl_nil,Kw _ hu (fun h=>IZ h (by decide))];simp only[e2,LS.mk.injEq,List.length_cons,List.length_append,List.length_nil];exact ⟨Ep (.inl hu),by omega,by omega,trivial⟩
 | @size t u v r p ht hu g y f=>
  intro h1 s hs a;have E:=Cv ht (by decide) s.d;have e1:=EV (.inl hu) s.d;have e2:=DX (.inl y) (s.d+1);refine ⟨s.acc, ?_,fun _=>rfl⟩;rw[List.foldl_cons,Cs _ a,E,List.foldl_cons,AV _ (by show 0 < dL s.d u;rw[e1];omega),List.foldl_append,g.deep (AW m) _ (by show 0 < dL s.d u;rw[e1];omega),List.foldl_cons,List.foldl_nil,Kw _ y (fun h=>IZ h (by decide))];simp only[e1,e2,LS.mk.injEq,List.length_cons,List.length_append,List.length_nil];exact ⟨Ep (.inl y),by omega,by omega,trivial⟩
 | @set t u c ht hc hu=>
  intro h1 s hs a;have e1:=EV (.inr ht) s.d;have e2:=DX (.inr hu) (s.d+1);obtain ⟨pe,he⟩:=MO (AW m) c hc ⟨Dv t,s.d+1,s.i+1,s.acc⟩ (by show 0 < s.d+1;omega);refine ⟨s.acc, ?_,fun _=>rfl⟩;rw[List.foldl_cons,Cs _ a,e1,List.foldl_append,he,List.foldl_cons,List.foldl_nil,Kw _ hu (fun h=>IZ h (by decide))];simp only[e2,LS.mk.injEq,List.length_cons,List.length_append,List.length_nil];exact ⟨Ep (.inr hu),by omega,by omega,trivial⟩
 | @num t h | @text t h | @name t h=>
  intro h1 s hs a;refine ⟨s.acc, ?_,fun _=>rfl⟩;have e1:=MN (t:=t) (by omega) (by omega) s.d;rw[List.foldl_cons,List.foldl_nil,Cs _ a,e1,N6 (by omega) (by omega),hs];rfl
 | @tru t h=>
  intro h1 s hs a;refine ⟨s.acc, ?_,fun _=>rfl⟩;have e1:=Cv h (by decide) s.d;rw[List.foldl_cons,List.foldl_nil,Cs _ a,e1,Ie (.inl h),hs];rfl
 | @fls t h=>
  intro h1 s hs a;refine ⟨s.acc, ?_,fun _=>rfl⟩;have e1:=Cv h (by decide) s.d;rw[List.foldl_cons,List.foldl_nil,Cs _ a,e1,Ie (.inr h),hs];rfl
def JB (m:Nat) (c:List Af) (i:Int):Int:=(c.foldl (Cl (AW m)) ⟨false,0,i,-1⟩).acc
theorem G.last_no {m k:Nat}{c:List Af}{p:Pt}(g:G k c p)(h:m < k)(i:Int):JB m c i= -1:=by
 obtain ⟨acc,e,a⟩:=g.flat m (by omega) ⟨false,0,i,-1⟩ rfl rfl;rw[JB,e];exact a h
theorem G.last_at {m k a:Nat}{l r:List Af}{t:Af}{op:Int}{b c:Pt}(d:G k l b)(hk: 1≤k)(ht:CF m t=some op)(f:G a r c)(h:m < a)(i:Int):JB m (l ++t ::r) i=i+l.length:=by
 obtain ⟨acc,e,n⟩:=d.flat m hk ⟨false,0,i,-1⟩ rfl rfl;obtain ⟨e1,e2,e3⟩:=Dr ht;have g:Cl (AW m) ⟨true,0,i+l.length,acc⟩ t=⟨false,0,i+l.length+1,i+l.length⟩:=by
  rw[Cl,e1,e2,if_neg (by rintro (h | h);exact absurd h (Int.lt_irrefl 0);cases h),UK ht];rfl
 obtain ⟨o,e',j⟩:=f.flat m (by omega) ⟨false,0,i+l.length+1,i+l.length⟩ rfl rfl;rw[JB,List.foldl_append,e,List.foldl_cons,g,e'];exact j h
theorem G.cut0 {c:List Af}{p:Pt}(g:G 0 c p):(∃ t u v a b d f h i,c=t ::(a ++u ::(b ++v ::d))∧p= .ite t.at_ f h i∧see Du t=true∧see BQ u=true∧see AI v=true∧G 0 a f∧G 0 b h∧G 0 d i)∨G 1 c p:=by
 cases g with
 | up hk g=>exact .inr g
 | ite ht hu j k l m=>exact .inl ⟨_,_,_,_,_,_,_,_,_,rfl,rfl,ht,hu,j,k,l,m⟩
 | bin hk=>omega
theorem G.cutB {k:Nat}{c:List Af}{p:Pt}(g:G k c p)(hk:k=1∨k=2∨k=5∨k=6):(∃ l t r op a b,c=l ++t ::r∧p= .bin t.at_ op a b∧CF k t=some op∧G k l a∧G (k+1) r b)∨G (k+1) c p:=by
 cases g with
 | up hk g=>exact .inr g
 | bin hk d ht f=>exact .inl ⟨_,_,_,_,_,_,rfl,rfl,ht,d,f⟩
 | _=>omega
theorem G.cut3 {c:List Af}{p:Pt}(g:G 3 c p):(∃ t r q,c=t ::r∧p= .un t.at_ 9 q∧see Ee t=true∧G 3 r q)∨G 4 c p:=by
 cases g with
 | up hk g=>exact .inr g
 | not ht g=>exact .inl ⟨_,_,_,rfl,rfl,ht,g⟩
 | bin hk=>omega
theorem G.cut4 {c:List Af}{p:Pt}(g:G 4 c p):(∃ l t r op a b,c=l ++t ::r∧p= .bin t.at_ op a b∧CF 4 t=some op∧G 5 l a∧G 5 r b)∨G 5 c p:=by
 cases g with
 | up hk g=>exact .inr g
 | cmp d ht f=>exact .inl ⟨_,_,_,_,_,_,rfl,rfl,ht,d,f⟩
 | bin hk=>omega
theorem G.cut7 {c:List Af}{p:Pt}(g:G 7 c p):(∃ t r q,c=t ::r∧p= .un t.at_ 8 q∧see AX t=true∧G 7 r q)∨G 8 c p:=by
 cases g with
 | up hk g=>exact .inr g
 | neg ht g=>exact .inl ⟨_,_,_,rfl,rfl,ht,g⟩
 | bin hk=>omega
theorem G.head {k:Nat}{c:List Af}{p:Pt}(g:G k c p):∃ t r,c=t ::r∧(1≤k→see Du t=false)∧(4≤k→see Ee t=false)∧(8≤k→see AX t=false):=by
 induction g with
 | up hk g b=>
  obtain ⟨t,r,e,h1,h2,h3⟩:=b;exact ⟨t,r,e,fun h=>h1 (by omega),fun h=>h2 (by omega),fun h=>h3 (by omega)⟩
 | ite=>exact ⟨_,_,rfl,fun h=>by omega,fun h=>by omega,fun h=>by omega⟩
 | @bin k l r t op d f hk i ht j a m=>
  obtain ⟨u,q,e,h1,h2,h3⟩:=a;exact ⟨u,q ++t ::r,by rw[e];rfl,h1,h2,h3⟩
 | @cmp l r t op d f i ht j a m=>
  obtain ⟨u,q,e,h1,h2,h3⟩:=a;exact ⟨u,q ++t ::r,by rw[e];rfl,fun _=>h1 (by omega),fun _=>h2 (by omega),fun h=>by omega⟩
 | not ht g=>exact ⟨_,_,rfl,fun _=>Ag ht (by decide),fun h=>by omega,fun h=>by omega⟩
 | neg ht g=>exact ⟨_,_,rfl,fun _=>Ag ht (by decide),fun _=>Ag ht (by decide),fun h=>by omega⟩
 | par ht g hu=>exact ⟨_,_,rfl,fun _=>Ag ht (by decide),fun _=>Ag ht (by decide),fun _=>Ag ht (by decide)⟩
 | size ht hu g n=>exact ⟨_,_,rfl,fun _=>Ag ht (by decide),fun _=>Ag ht (by decide),fun _=>Ag ht (by decide)⟩
 | set ht hc hu=>exact ⟨_,_,rfl,fun _=>Ag ht (by decide),fun _=>Ag ht (by decide),fun _=>Ag ht (by decide)⟩
 | num h | text h | name h=>exact ⟨_,_,rfl,fun _=>Av (by omega) (by omega),fun _=>Av (by omega) (by omega),fun _=>Av (by omega) (by omega)⟩
 | tru h | fls h=>exact ⟨_,_,rfl,fun _=>Ag h (by decide),fun _=>Ag h (by decide),fun _=>Ag h (by decide)⟩
theorem G.free {k:Nat}{c:List Af}{p:Pt}(g:G k c p):∀ t∈c,see AF t=false∧see Bh t=false:=by
 induction g with
 | up hk g a=>exact a
 | ite ht hu b n o q i j id=>
  intro x hx;simp only[List.mem_cons,List.mem_append] at hx;rcases hx with rfl | hx | rfl | hx | rfl | hx
  ·exact ⟨Ag ht (by decide),Ag ht (by decide)⟩
  ·exact i x hx
  ·exact ⟨Ag hu (by decide),Ag hu (by decide)⟩
  ·exact j x hx
  ·exact ⟨Ag b (by decide),Ag b (by decide)⟩
  ·exact id x hx
 | bin hk l ht m d f=>
  intro x hx;simp only[List.mem_cons,List.mem_append] at hx;rcases hx with hx | rfl | hx
  ·exact d x hx
  ·have:=(Dr ht).2.2;exact ⟨this _ (by decide),this _ (by decide)⟩
  ·exact f x hx
 | cmp l ht m d f=>
  intro x hx;simp only[List.mem_cons,List.mem_append] at hx;rcases hx with hx | rfl | hx
  ·exact d x hx
  ·have:=(Dr ht).2.2;exact ⟨this _ (by decide),this _ (by decide)⟩
  ·exact f x hx
 | not ht g a | neg ht g a=>
  intro x hx;rcases List.mem_cons.1 hx with rfl | hx
  ·exact ⟨Ag ht (by decide),Ag ht (by decide)⟩
  ·exact a x hx
 | par ht g hu a=>
  intro x hx;simp only[List.mem_cons,List.mem_append,List.mem_nil_iff,or_false] at hx;rcases hx with rfl | hx | rfl
  ·exact ⟨Ag ht (by decide),Ag ht (by decide)⟩
  ·exact a x hx
  ·exact ⟨Ag hu (by decide),Ag hu (by decide)⟩
 | size ht hu g b a=>
  intro x hx;simp only[List.mem_cons,List.mem_append,List.mem_nil_iff,or_false] at hx;rcases hx with rfl | rfl | hx | rfl
  ·exact ⟨Ag ht (by decide),Ag ht (by decide)⟩
  ·exact ⟨Ag hu (by decide),Ag hu (by decide)⟩
  ·exact a x hx
  ·exact ⟨Ag b (by decide),Ag b (by decide)⟩
 | set ht hc hu=>
  intro x hx;simp only[List.mem_cons,List.mem_append,List.mem_nil_iff,or_false] at hx;rcases hx with rfl | hx | rfl
  ·exact ⟨Ag ht (by decide),Ag ht (by decide)⟩
  ·rcases hc x hx with e | e
   ·exact ⟨Av (by omega) (by omega),Av (by omega) (by omega)⟩
   ·exact ⟨Ag e (by decide),Ag e (by decide)⟩
  ·exact ⟨Ag hu (by decide),Ag hu (by decide)⟩
 | num h | text h | name h=>
  intro x hx;rw[List.mem_singleton.1 hx];exact ⟨Av (by omega) (by omega),Av (by omega) (by omega)⟩
 | tru h | fls h=>
  intro x hx;rw[List.mem_singleton.1 hx];exact ⟨Ag h (by decide),Ag h (by decide)⟩
def BW (w:List UInt8):List Af→Int→Int→Int→Int
 | [],_,_,i=>i
 | t ::r,o,d,i=>if see AD t then BW w r o (d+1) (i+1) else if see AT t then BW w r o (d - 1) (i+1) else if d=0∧see Du t=true then BW w r (o+1) d (i+1)
  else if d=0∧see w t=true then (if o - 1=0 then i else BW w r (o - 1) d (i+1)) else BW w r o d (i+1)
theorem CZ {w s:List UInt8}{t:Af}(h:see s t=true)(hs:s ∉ [AD,AT,Du,w])(r:List Af)(a d i:Int):BW w (t ::r) a d i=BW w r a d (i+1):=by
 have e1:=Ag h (s':=AD) (fun e=>hs (by rw[e];simp));have e2:=Ag h (s':=AT) (fun e=>hs (by rw[e];simp));have e3:=Ag h (s':=Du) (fun e=>hs (by rw[e];simp));have e4:=Ag h (s':=w) (fun e=>hs (by rw[e];simp));rw[BW,e1,e2,e3,e4];simp
theorem N8 {w:List UInt8}{t:Af}(h4:t.kind≠4)(h5:t.kind≠5)(r:List Af)(a d i:Int):BW w (t ::r) a d i=BW w r a d (i+1):=by
 rw[BW,Av h4 h5,Av h4 h5,Av h4 h5,Av h4 h5];simp
theorem Kx {w:List UInt8}{t:Af}(h:see AD t=true)(r:List Af)(a d i:Int):BW w (t ::r) a d i=BW w r a (d+1) (i+1):=by
 rw[BW,if_pos h]
theorem I0 {w:List UInt8}{t:Af}(h:see AT t=true)(r:List Af)(a d i:Int):BW w (t ::r) a d i=BW w r a (d - 1) (i+1):=by
 rw[BW,Ag h (s':=AD) (by decide),if_neg (by decide),if_pos h]
theorem XQ {w:List UInt8}{t:Af}(h:see Du t=true)(c:w≠Du)(r:List Af)(b d i:Int):BW w (t ::r) b d i=BW w r (if d=0 then b+1 else b) d (i+1):=by
 rw[BW,Ag h (s':=AD) (by decide),Ag h (s':=AT) (by decide),if_neg (by decide),if_neg (by decide),Ag h (s':=w) (fun e=>c e.symm)];by_cases a:d=0
 ·rw[if_pos ⟨a,h⟩,if_pos a]
 ·rw[if_neg (fun e=>a e.1),if_neg (fun e=>a e.1),if_neg a]
theorem N9 {w:List UInt8}{t:Af}(h:see w t=true)(c:w ∉ [AD,AT,Du])(r:List Af)(b d i:Int)(f:d=0→2≤b):BW w (t ::r) b d i=BW w r (if d=0 then b - 1 else b) d (i+1):=by
 have e1:=Ag h (s':=AD) (fun e=>c (by rw[e];simp));have e2:=Ag h (s':=AT) (fun e=>c (by rw[e];simp));have e3:=Ag h (s':=Du) (fun e=>c (by rw[e];simp));rw[BW,e1,e2,e3,if_neg (by decide),if_neg (by decide),if_neg (fun e=>by cases e.2)];by_cases a:d=0
 ·have:=f a;rw[if_pos ⟨a,h⟩,if_pos a,if_neg (by omega)]
 ·rw[if_neg (fun e=>a e.1),if_neg a]
theorem Se {w:List UInt8}{t:Af}(h:see w t=true)(a:w ∉ [AD,AT,Du])(r:List Af)(i:Int):BW w (t ::r) 1 0 i=i:=by
 have e1:=Ag h (s':=AD) (fun e=>a (by rw[e];simp));have e2:=Ag h (s':=AT) (fun e=>a (by rw[e];simp));have e3:=Ag h (s':=Du) (fun e=>a (by rw[e];simp));rw[BW,e1,e2,e3,if_neg (by decide),if_neg (by decide),if_neg (fun e=>by cases e.2),if_pos ⟨rfl,h⟩,if_pos (by decide)]
theorem UL (w:List UInt8)(b:w=BQ∨w=AI):∀ (c:List Af),(∀ x∈c,XP x)→∀ (r:List Af) (a d i:Int),BW w (c ++r) a d i=BW w r a d (i+c.length)
 | [],_,r,a,d,i=>by simp
 | t ::c,h,r,a,d,i=>by
  have f:=UL w b c (fun x hx=>h x (List.mem_cons_of_mem _ hx)) r a d (i+1);have e:BW w (t ::(c ++r)) a d i=BW w (c ++r) a d (i+1):=by
   rcases h t (List.mem_cons_self ..) with e | e
   ·exact N8 (by omega) (by omega) _ _ _ _
   ·exact CZ e (by rcases b with rfl | rfl <;> decide) _ _ _ _
  rw[List.cons_append,e,f,List.length_cons]
  congr 1
  omega
theorem UM {w:List UInt8}(b:w=BQ∨w=AI){k:Nat}{t:Af}{op:Int}(h:CF k t=some op)(r:List Af)(a d i:Int):BW w (t ::r) a d i=BW w r a d (i+1):=by
 obtain ⟨s,h1,h2⟩:=Fj h;refine CZ h2 (fun hm=>Kv h1 ?_) r a d i;rcases b with rfl | rfl <;> (simp only[List.mem_cons,List.mem_nil_iff,or_false] at hm ⊢;grind)
theorem G.mat {w:List UInt8}(n:w=BQ∨w=AI){k:Nat}{c:List Af}{p:Pt}(g:G k c p):∀ (r:List Af) (f d i:Int),1≤f→0≤d→BW w (c ++r) f d i=BW w r f d (i+c.length):=by
 have B:w≠Du:=by rcases n with rfl | rfl <;> decide
 have K:w ∉ [AD,AT,Du]:=by rcases n with rfl | rfl <;> decide
 induction g with
 | up hk g o=>exact o
 | @ite t u v a b e L M N ht hu s O P Q C z id=>
  intro r f d i j m;have E:(t ::(a ++u ::(b ++v ::e))) ++r=t ::(a ++(u ::(b ++(v ::(e ++r))))):=by simp
  rw[E,XQ ht B];have A: 1≤(if d=0 then f+1 else f):=by split <;> omega
  rw[C _ _ _ _ A m];rcases n with rfl | rfl
  ·rw[N9 hu (by decide) _ _ _ _ (fun h=>by rw[if_pos h];omega)];have e1:(if d=0 then (if d=0 then f+1 else f) - 1 else (if d=0 then f+1 else f))=f:=by split <;> omega
   rw[e1,z _ _ _ _ j m,CZ s (by decide),id _ _ _ _ j m]
   congr 1
   simp only[List.length_cons,List.length_append];omega
  ·rw[CZ hu (by decide),z _ _ _ _ A m,N9 s (by decide) _ _ _ _ (fun h=>by rw[if_pos h];omega)];have e1:(if d=0 then (if d=0 then f+1 else f) - 1 else (if d=0 then f+1 else f))=f:=by split <;> omega
   rw[e1,id _ _ _ _ j m]
   congr 1
   simp only[List.length_cons,List.length_append];omega
 | @bin k l q t op F H hk I ht J x y=>
  intro r f d i j m;rw[List.append_assoc,List.cons_append,x _ _ _ _ j m,UM n ht,y _ _ _ _ j m]
  congr 1
  simp only[List.length_cons,List.length_append];omega
 | @cmp l q t op F H I ht J x y=>
  intro r f d i j m;rw[List.append_assoc,List.cons_append,x _ _ _ _ j m,UM n ht,y _ _ _ _ j m]
  congr 1
  simp only[List.length_cons,List.length_append];omega
 | @not t q p ht g o=>
  intro r f d i j m;rw[List.cons_append,CZ ht (by rcases n with rfl | rfl <;> decide),o _ _ _ _ j m]
  congr 1
  simp only[List.length_cons];omega
 | @neg t q p ht g o=>
  intro r f d i j m;rw[List.cons_append,CZ ht (by rcases n with rfl | rfl <;> decide),o _ _ _ _ j m]
  congr 1
  simp only[List.length_cons];omega
 | @par t u q p ht g hu o=>
  intro r f d i j m;rw[List.cons_append,List.append_assoc,Kx ht,o _ _ _ _ j (by omega),List.cons_append,List.nil_append,I0 hu,show d+1 - 1=d by omega]
  congr 1
  simp only[List.length_cons,List.length_append,List.length_nil];omega
 | @size t u v q p ht hu g s o=>
  intro r f d i j m;rw[List.cons_append,List.cons_append,List.append_assoc,CZ ht (by rcases n with rfl | rfl <;> decide),Kx hu,o _ _ _ _ j (by omega),List.cons_append,List.nil_append,I0 s,show d+1 - 1=d by omega]
  congr 1
  simp only[List.length_cons,List.length_append,List.length_nil];omega
 | @set t u c ht hc hu=>
  intro r f d i j m;rw[List.cons_append,List.append_assoc,CZ ht (by rcases n with rfl | rfl <;> decide),UL w n c hc,List.cons_append,List.nil_append,CZ hu (by rcases n with rfl | rfl <;> decide)]
  congr 1
  simp only[List.length_cons,List.length_append,List.length_nil];omega
 | num h | text h | name h=>
  intro r f d i j m;exact N8 (by omega) (by omega) r f d i
 | tru h | fls h=>
  intro r f d i j m;exact CZ h (by rcases n with rfl | rfl <;> decide) r f d i
structure Ps where
 at_:Nat
 kind:Int
 name:ByteArray
 cond:Option Pt
 grant:Option Pt
inductive DR where
 | ok (g:Option Pt) (r:List Af)
 | bad (r:List Af)
def DR.rest:DR→List Af
 | .ok _ r=>r
 | .bad r=>r
inductive DD (s:List UInt8):List Af→DR→Prop
 | no {ts:List Af} (h:AL s ts=false):DD s ts (.bad ts)
 | deny {t u:Af} {r:List Af} (h:see s t=true) (hu:see EA u=true):DD s (t ::u ::r) (.ok none r)
 | grant {t:Af} {r q:List Af} {e:Pt} (h:see s t=true) (hu:AL EA r=false) (d:D (.beh Br) r (.ok e q)):DD s (t ::r) (.ok (some e) q)
 | grant_bad {t:Af} {r q:List Af} (h:see s t=true) (hu:AL EA r=false) (d:D (.beh Br) r (.bad q)):DD s (t ::r) (.bad q)
inductive SR where
 | ok (s:Ps) (r:List Af)
 | bad (r:List Af)
def SR.rest:SR→List Af
 | .ok _ r=>r
 | .bad r=>r
inductive DS:List Af→SR→Prop
 | let_nil {t:Af} (h:see CU t=true):DS [t] (.bad [])
 | let_no {t n:Af} {r:List Af} (h:see CU t=true) (hn:n.kind≠3):DS (t ::n ::r) (.bad (n ::r))
 | let_bad {t n:Af} {r q:List Af} (h:see CU t=true) (hn:n.kind=3) (d:D (.beh NU) r (.bad q)):DS (t ::n ::r) (.bad q)
 | let_end {t n:Af} {r q:List Af} {e:Pt} (h:see CU t=true) (hn:n.kind=3) (d:D (.beh NU) r (.ok e q)) (hq:AL AF q=false):DS (t ::n ::r) (.bad q)
 | let_ {t n u:Af} {r q:List Af} {e:Pt} (h:see CU t=true) (hn:n.kind=3) (d:D (.beh NU) r (.ok e (u ::q))) (hq:see AF u=true):DS (t ::n ::r) (.ok ⟨t.at_,1,n.text,some e,none⟩ q)
 | when_bad {t:Af} {r q:List Af} (h:see AZ t=true) (d:D (.beh AZ) (t ::r) (.bad q)):DS (t ::r) (.bad q)
 | when_bad2 {t:Af} {r q p:List Af} {e:Pt} (h:see AZ t=true) (d:D (.beh AZ) (t ::r) (.ok e q)) (d2:DD Bh q (.bad p)):DS (t ::r) (.bad p)
 | when_end {t:Af} {r q p:List Af} {e:Pt} {g:Option Pt} (h:see AZ t=true) (d:D (.beh AZ) (t ::r) (.ok e q)) (d2:DD Bh q (.ok g p)) (hq:AL AF p=false):DS (t ::r) (.bad p)
 | when {t u:Af} {r q p:List Af} {e:Pt} {g:Option Pt} (h:see AZ t=true) (d:D (.beh AZ) (t ::r) (.ok e q)) (d2:DD Bh q (.ok g (u ::p))) (hq:see AF u=true):DS (t ::r) (.ok ⟨t.at_,2,Ax [],some e,g⟩ p)
 | else_bad {t:Af} {r q:List Af} (h:see AI t=true) (d:DD AI (t ::r) (.bad q)):DS (t ::r) (.bad q)
 | else_end {t:Af} {r q:List Af} {g:Option Pt} (h:see AI t=true) (d:DD AI (t ::r) (.ok g q)) (hq:AL AF q=false):DS (t ::r) (.bad q)
 | else_ {t u:Af} {r q:List Af} {g:Option Pt} (h:see AI t=true) (d:DD AI (t ::r) (.ok g (u ::q))) (hq:see AF u=true):DS (t ::r) (.ok ⟨t.at_,3,Ax [],none,g⟩ q)
 | none {ts:List Af} (h1:AL CU ts=false) (h2:AL AZ ts=false) (h3:AL AI ts=false):DS ts (.bad ts)
inductive QR where
 | ok (S:List Ps)
 | bad (r:List Af)
def QR.res:QR→Option (List Af)
 | .ok _=>none
 | .bad q=>some q
def QR.cons (s:Ps):QR→QR
 | .ok S=> .ok (s ::S)
 | .bad r=> .bad r
inductive DP:List Af→QR→Prop
 | bad {ts q:List Af} (d:DS ts (.bad q)):DP ts (.bad q)
 | more {ts r:List Af} {s:Ps} {x:QR} (d:DS ts (.ok s r)) (hk:s.kind≠3) (d2:DP r x):DP ts (x.cons s)
 | last {ts:List Af} {s:Ps} (d:DS ts (.ok s [])) (hk:s.kind=3):DP ts (.ok [s])
 | over {ts r:List Af} {t:Af} {s:Ps} (d:DS ts (.ok s (t ::r))) (hk:s.kind=3):DP ts (.bad (t ::r))
theorem D.any (nt:NT)(a:List Af)(h:nt.good):∃ x,D nt a x:=D.total _ nt a h NLN
theorem DD.total (s:List UInt8)(b:List Af):∃ x,DD s b x:=by
 cases h:AL s b
 ·exact ⟨_,.no h⟩
 ·cases b with
  | nil=>cases h
  | cons t r=>
   cases a:AL EA r
   ·obtain ⟨x,d⟩:=D.any (.beh Br) r trivial;cases x with
    | ok e q=>exact ⟨_,.grant h a d⟩
    | bad q=>exact ⟨_,.grant_bad h a d⟩
   ·cases r with
    | nil=>cases a
    | cons u r=>exact ⟨_,.deny h a⟩
theorem DS.total (a:List Af):∃ x,DS a x:=by
 cases h1:AL CU a
 case true=>
  cases a with
  | nil=>cases h1
  | cons t r=>
   cases r with
   | nil=>exact ⟨_,.let_nil h1⟩
   | cons n r=>
    by_cases b:n.kind=3
    ·obtain ⟨x,d⟩:=D.any (.beh NU) r trivial;cases x with
     | bad q=>exact ⟨_,.let_bad h1 b d⟩
     | ok e q=>
      cases hq:AL AF q
      ·exact ⟨_,.let_end h1 b d hq⟩
      ·cases q with
       | nil=>cases hq
       | cons u q=>exact ⟨_,.let_ h1 b d hq⟩
    ·exact ⟨_,.let_no h1 b⟩
 cases h2:AL AZ a
 case true=>
  cases a with
  | nil=>cases h2
  | cons t r=>
   obtain ⟨x,d⟩:=D.any (.beh AZ) (t ::r) trivial;cases x with
   | bad q=>exact ⟨_,.when_bad h2 d⟩
   | ok e q=>
    obtain ⟨y,d2⟩:=DD.total Bh q;cases y with
    | bad p=>exact ⟨_,.when_bad2 h2 d d2⟩
    | ok g p=>
     cases hq:AL AF p
     ·exact ⟨_,.when_end h2 d d2 hq⟩
     ·cases p with
      | nil=>cases hq
      | cons u p=>exact ⟨_,.when h2 d d2 hq⟩
 cases h3:AL AI a
 case true=>
  cases a with
  | nil=>cases h3
  | cons t r=>
   obtain ⟨y,d2⟩:=DD.total AI (t ::r);cases y with
   | bad p=>exact ⟨_,.else_bad h3 d2⟩
   | ok g p=>
    cases hq:AL AF p
    ·exact ⟨_,.else_end h3 d2 hq⟩
    ·cases p with
     | nil=>cases hq
     | cons u p=>exact ⟨_,.else_ h3 d2 hq⟩
 exact ⟨_,.none h1 h2 h3⟩
theorem DD.suf {s:List UInt8}{a:List Af}{x:DR}(d:DD s a x):∃ c,a=c ++x.rest∧(∀ g r,x= .ok g r→c≠ []):=by
 cases d with
 | no h=>exact ⟨[],rfl,fun _ _ h=>by cases h⟩
 | @deny t u r h hu=>exact ⟨[t,u],rfl,fun _ _ _=>by simp⟩
 | @grant t r q e h hu d=>obtain ⟨c,hc,_⟩:=d.suf;exact ⟨t ::c,by rw[hc];rfl,fun _ _ _=>by simp⟩
 | @grant_bad t r q h hu d=>obtain ⟨c,hc,_⟩:=d.suf;exact ⟨t ::c,by rw[hc];rfl,fun _ _ h=>by cases h⟩
theorem DS.suf {f:List Af}{x:SR}(d:DS f x):∃ c,f=c ++x.rest∧(∀ g r,x= .ok g r→c≠ []):=by
 cases d with
 | @let_nil t h=>exact ⟨[t],rfl,fun _ _ h=>by cases h⟩
 | @let_no t n r h a=>exact ⟨[t],rfl,fun _ _ h=>by cases h⟩
 | @let_bad t n r q h a d=>obtain ⟨c,hc,_⟩:=d.suf;exact ⟨t ::n ::c,by rw[hc];rfl,fun _ _ h=>by cases h⟩
 | @let_end t n r q e h a d hq=>obtain ⟨c,hc,_⟩:=d.suf;exact ⟨t ::n ::c,by rw[hc];rfl,fun _ _ h=>by cases h⟩
 | @let_ t n u r q e h a d hq=>obtain ⟨c,hc,_⟩:=d.suf;exact ⟨t ::n ::(c ++ [u]),by rw[hc];simp[PR.rest,SR.rest],fun _ _ _=>by simp⟩
 | @when_bad t r q h d=>obtain ⟨c,hc,_⟩:=d.suf;exact ⟨c,hc,fun _ _ h=>by cases h⟩
 | @when_bad2 t r q p e h d d2=>obtain ⟨c,hc,_⟩:=d.suf;obtain ⟨c2,b,_⟩:=d2.suf;dsimp only[PR.rest,DR.rest,SR.rest] at *;exact ⟨c ++c2,by rw[List.append_assoc,← b];exact hc,fun _ _ h=>by cases h⟩
 | @when_end t r q p e g h d d2 hq=>obtain ⟨c,hc,_⟩:=d.suf;obtain ⟨c2,b,_⟩:=d2.suf;dsimp only[PR.rest,DR.rest,SR.rest] at *;exact ⟨c ++c2,by rw[List.append_assoc,← b];exact hc,fun _ _ h=>by cases h⟩
 | @when t u r q p e g h d d2 hq=>obtain ⟨c,hc,a⟩:=d.suf;obtain ⟨c2,b,_⟩:=d2.suf;exact ⟨c ++(c2 ++ [u]),by rw[hc];simp only[List.append_assoc];congr 1,fun _ _ _ h=>a _ _ rfl rfl (List.append_eq_nil_iff.1 h).1⟩
 | @else_bad t r q h d=>obtain ⟨c,hc,_⟩:=d.suf;exact ⟨c,hc,fun _ _ h=>by cases h⟩
 | @else_end t r q g h d hq=>obtain ⟨c,hc,_⟩:=d.suf;exact ⟨c,hc,fun _ _ h=>by cases h⟩
 | @else_ t u r q g h d hq=>obtain ⟨c,hc,_⟩:=d.suf;exact ⟨c ++ [u],by rw[hc];simp[DR.rest,SR.rest],fun _ _ _=>by simp⟩
 | none h1 h2 h3=>exact ⟨[],rfl,fun _ _ h=>by cases h⟩
theorem DP.total:∀ (n:Nat) (a:List Af),a.length≤n→∃ x,DP a x
 | n,a,hn=>by
  obtain ⟨x,d⟩:=DS.total a;cases x with
  | bad q=>exact ⟨_,.bad d⟩
  | ok s r=>
   by_cases hk:s.kind=3
   ·cases r with
    | nil=>exact ⟨_,.last d hk⟩
    | cons t r=>exact ⟨_,.over d hk⟩
   ·obtain ⟨c,hc,b⟩:=d.suf;have h1: 0 < c.length:=List.length_pos_iff.2 (b _ _ rfl);have h2:a.length=c.length+r.length:=by rw[hc,List.length_append];rfl
    match n with
    | 0=>omega
    | n+1=>
     obtain ⟨y,d2⟩:=DP.total n r (by omega);exact ⟨_,.more d hk d2⟩
theorem DD.run {s:List UInt8}{j:List Af}{x:DR}(d:DD s j x)(hs:s∈Ck)(a:∀ t∈j,BL t)(st:List Sy)(b:Option (List Af))(h1:∀ q,x= .bad q→b=some q)(h2:∀ g r,x= .ok g r→Ru st r b):Ru (.t s :: .decision ::st) j b:=by
 cases d with
 | no h=>rw[h1 _ rfl];exact .term_no (Dh a hs h)
 | @deny t u r h hu=>
  have e2:=AO (a u (by simp)) (by decide) hu;exact .term (AO (a t (by simp)) hs h) (.exp (m:= [.t EA]) (by show Ae .decision (tk u)=_;rw[e2];rfl) (.term e2 (h2 _ _ rfl)))
 | @grant t r q e h hu d=>
  have f:∀ u∈r,BL u:=fun u hu=>a u (by simp[hu]);refine .term (AO (a t (by simp)) hs h) ?_;have k:Ru ([Sy.t Br,Sy.expr] ++st) r b:=d.run (show Br∈Ck by decide) f st b (h2 _ _ rfl);by_cases i:G8 r=Br
  ·exact .exp (m:= [.t Br,.expr]) (if_pos i) k
  ·exfalso;obtain ⟨l,c,hc,n,_⟩:=d.tree trivial _ _ rfl;refine i ?_;rw[hc];exact AO (f l (by rw[hc];simp)) (by decide) n
 | @grant_bad t r q h hu d=>
  have f:∀ u∈r,BL u:=fun u hu=>a u (by simp[hu]);refine .term (AO (a t (by simp)) hs h) ?_;have k:Ru ([Sy.t Br,Sy.expr] ++st) r b:=d.run (show Br∈Ck by decide) f st b (h1 _ rfl);by_cases i:G8 r=Br
  ·exact .exp (m:= [.t Br,.expr]) (if_pos i) k
  ·refine .exp (m:= [.t EA]) (if_neg i) ?_;have e:q=r:=by
    cases d with
    | beh_no h=>rfl
    | @beh _ l p _ o d1=>exact absurd (AO (f l (by simp)) (by decide) o) i
   rw[h1 _ rfl,e];exact .term_no (Dh f (by decide) hu)
theorem FS {c r:List Af}(h:∀ t∈c ++r,BL t):∀ t∈r,BL t:=fun t ht=>h t (List.mem_append_right _ ht)
theorem DS.run {w:List Af}{x:SR}(d:DS w x)(a:∀ t∈w,BL t)(b:Option (List Af))(h1:∀ q,x= .bad q→b=some q)(h2:∀ s r,x= .ok s r→Ru (if s.kind=3 then [] else [.policy]) r b):Ru [.policy] w b:=by
 have l:Ae .policy CU=some [.t CU,.t DW,.t NU,.expr,.t AF,.policy]:=rfl;have v:Ae .policy AZ=some [.t AZ,.expr,.t Bh,.decision,.t AF,.policy]:=rfl;have y:Ae .policy AI=some [.t AI,.decision,.t AF]:=rfl;have A:∀ n:Af,BL n→n.kind≠3→tk n≠DW:=fun n i hk e=>by
  rcases i with h | h | h | ⟨h,z⟩
  ·rw[tk,if_pos h] at e;revert e;decide
  ·rw[tk,if_neg (by omega),if_pos h] at e;revert e;decide
  ·exact hk h
  ·have:tk n=Ak n.text:=by rcases h with h | h <;> simp[tk,h]
   rw[← this,e] at z;revert z;decide
 cases d with
 | @let_nil t h=>
  have e1:=AO (a t (by simp)) (by decide) h;have h3:Ru [.t DW,.t NU,.expr,.t AF,.policy] [] b:=by rw[h1 _ rfl];exact .term_no (by decide)
  exact .exp (by show Ae .policy (tk t)=_;rw[e1];exact l) (.term e1 h3)
 | @let_no t n r h i=>
  have e1:=AO (a t (by simp)) (by decide) h;have h3:Ru [.t DW,.t NU,.expr,.t AF,.policy] (n ::r) b:=by rw[h1 _ rfl];exact .term_no (A n (a n (by simp)) i)
  exact .exp (by show Ae .policy (tk t)=_;rw[e1];exact l) (.term e1 h3)
 | @let_bad t n r q h i d=>
  have e1:=AO (a t (by simp)) (by decide) h;have e2:tk n=DW:=by rw[tk,i];rfl
  have f:Ru ([Sy.t NU,Sy.expr] ++ [.t AF,.policy]) r b:=d.run (show NU∈Ck by decide) (fun u hu=>a u (by simp[hu])) _ _ (h1 _ rfl);exact .exp (by show Ae .policy (tk t)=_;rw[e1];exact l) (.term e1 (.term e2 f))
 | @let_end t n r q e h i d hq=>
  have e1:=AO (a t (by simp)) (by decide) h;have e2:tk n=DW:=by rw[tk,i];rfl
  have o:∀ u∈r,BL u:=fun u hu=>a u (by simp[hu]);have f:Ru ([Sy.t NU,Sy.expr] ++ [.t AF,.policy]) r b:=d.run (show NU∈Ck by decide) o _ _ (by
   show Ru _ q b;rw[h1 _ rfl];exact .term_no (Dh (BC d o) (by decide) hq))
  exact .exp (by show Ae .policy (tk t)=_;rw[e1];exact l) (.term e1 (.term e2 f))
 | @let_ t n u r q e h i d hq=>
  have e1:=AO (a t (by simp)) (by decide) h;have e2:tk n=DW:=by rw[tk,i];rfl
  have o:∀ u∈r,BL u:=fun u hu=>a u (by simp[hu]);have hu:=BC d o u (by simp[PR.rest]);have f:Ru ([Sy.t NU,Sy.expr] ++ [.t AF,.policy]) r b:=d.run (show NU∈Ck by decide) o _ _ (by
   show Ru _ (u ::q) b;exact .term (AO hu (by decide) hq) (h2 _ _ rfl))
  exact .exp (by show Ae .policy (tk t)=_;rw[e1];exact l) (.term e1 (.term e2 f))
 | @when_bad t r q h d=>
  have e1:=AO (a t (by simp)) (by decide) h;have f:Ru ([Sy.t AZ,Sy.expr] ++ [.t Bh,.decision,.t AF,.policy]) (t ::r) b:=d.run (show AZ∈Ck by decide) a _ _ (h1 _ rfl);exact .exp (by show Ae .policy (tk t)=_;rw[e1];exact v) f
 | @when_bad2 t r q p e h d d2=>
  have e1:=AO (a t (by simp)) (by decide) h;have hq:=BC d a;have h3:Ru (.t Bh :: .decision :: [.t AF,.policy]) q b:=d2.run (by decide) hq _ _ (fun _ e=>h1 _ (by cases e;rfl)) (fun _ _ e=>by cases e);have f:Ru ([Sy.t AZ,Sy.expr] ++ [.t Bh,.decision,.t AF,.policy]) (t ::r) b:=d.run (show AZ∈Ck by decide) a _ _ h3;exact .exp (by show Ae .policy (tk t)=_;rw[e1];exact v) f
 | @when_end t r q p e g h d d2 hq=>
  have e1:=AO (a t (by simp)) (by decide) h;have j:∀ u∈q,BL u:=BC d a;have k:∀ u∈p,BL u:=by obtain ⟨c,hc,_⟩:=d2.suf;rw[hc] at j;exact FS j
  have h3:Ru (.t Bh :: .decision :: [.t AF,.policy]) q b:=d2.run (by decide) j _ _ (fun _ e=>by cases e) (fun _ _ e=>by cases e;rw[h1 _ rfl];exact .term_no (Dh k (by decide) hq));have f:Ru ([Sy.t AZ,Sy.expr] ++ [.t Bh,.decision,.t AF,.policy]) (t ::r) b:=d.run (show AZ∈Ck by decide) a _ _ h3;exact .exp (by show Ae .policy (tk t)=_;rw[e1];exact v) f
 | @when t u r q p e g h d d2 hq=>
  have e1:=AO (a t (by simp)) (by decide) h;have j:∀ u∈q,BL u:=BC d a;have k:∀ x∈u ::p,BL x:=by obtain ⟨c,hc,_⟩:=d2.suf;rw[hc] at j;exact FS j
  have h3:Ru (.t Bh :: .decision :: [.t AF,.policy]) q b:=d2.run (by decide) j _ _ (fun _ e=>by cases e) (fun _ _ e=>by cases e;exact .term (AO (k u (by simp)) (by decide) hq) (h2 _ _ rfl));have f:Ru ([Sy.t AZ,Sy.expr] ++ [.t Bh,.decision,.t AF,.policy]) (t ::r) b:=d.run (show AZ∈Ck by decide) a _ _ h3;exact .exp (by show Ae .policy (tk t)=_;rw[e1];exact v) f
 | @else_bad t r q h d=>
  have e1:=AO (a t (by simp)) (by decide) h;exact .exp (by show Ae .policy (tk t)=_;rw[e1];exact y) (d.run (by decide) a _ _ (fun _ e=>h1 _ (by cases e;rfl)) (fun _ _ e=>by cases e))
 | @else_end t r q g h d hq=>
  have e1:=AO (a t (by simp)) (by decide) h;have k:∀ u∈q,BL u:=by obtain ⟨c,hc,_⟩:=d.suf;rw[hc] at a;exact FS a
  have h3:Ru (.t AI :: .decision :: [.t AF]) (t ::r) b:=d.run (by decide) a _ _ (fun _ e=>by cases e) (fun _ _ e=>by cases e;rw[h1 _ rfl];exact .term_no (Dh k (by decide) hq));exact .exp (by show Ae .policy (tk t)=_;rw[e1];exact y) h3
 | @else_ t u r q g h d hq=>
  have e1:=AO (a t (by simp)) (by decide) h;have k:∀ x∈u ::q,BL x:=by obtain ⟨c,hc,_⟩:=d.suf;rw[hc] at a;exact FS a
  have h3:Ru (.t AI :: .decision :: [.t AF]) (t ::r) b:=d.run (by decide) a _ _ (fun _ e=>by cases e) (fun _ _ e=>by cases e;exact .term (AO (k u (by simp)) (by decide) hq) (h2 _ _ rfl));exact .exp (by show Ae .policy (tk t)=_;rw[e1];exact y) h3
 | none B C E=>
  have F:=Dh a (by decide) B;have H:=Dh a (by decide) C;have I:=Dh a (by decide) E;rw[h1 _ rfl];exact .exp (m:= [.t AI,.decision,.t AF]) (by rw[Ae,if_neg F,if_neg H]) (.term_no I)
theorem DP.run {b:List Af}{x:QR}(d:DP b x):(∀ t∈b,BL t)→Ru [.policy] b x.res:=by
 induction d with
 | bad d=>intro a;exact d.run a _ (fun _ e=>by cases e;rfl) (fun _ _ e=>by cases e)
 | @more b r s x d hk d2 f=>
  intro a;have g:∀ t∈r,BL t:=by obtain ⟨c,hc,_⟩:=d.suf;rw[hc] at a;exact FS a
  have h3:=f g;refine d.run a _ (fun _ e=>by cases e) (fun _ _ e=>by cases e;rw[if_neg hk];cases x <;> exact h3)
 | last d hk=>intro a;exact d.run a _ (fun _ e=>by cases e) (fun _ _ e=>by cases e;rw[if_pos hk];exact ⟨0,.fin⟩)
 | over d hk=>intro a;exact d.run a _ (fun _ e=>by cases e) (fun _ _ e=>by cases e;rw[if_pos hk];exact ⟨0,.over⟩)
inductive GC:List Af→Option Pt→Prop
 | deny {t:Af} (h:see EA t=true):GC [t] none
 | grant {t:Af} {c:List Af} {p:Pt} (h:see Br t=true) (g:G 0 c p):GC (t ::c) (some p)
inductive SC:List Af→Ps→Prop
 | let_ {t n e:Af} {c:List Af} {p:Pt} (h:see CU t=true) (hn:n.kind=3) (he:see NU e=true) (g:G 0 c p):SC (t ::n ::e ::c) ⟨t.at_,1,n.text,some p,none⟩
 | when {t a:Af} {c d:List Af} {p:Pt} {g:Option Pt} (h:see AZ t=true) (gc:G 0 c p) (ha:see Bh a=true) (gd:GC d g):SC (t ::(c ++a ::d)) ⟨t.at_,2,Ax [],some p,g⟩
 | else_ {t:Af} {d:List Af} {g:Option Pt} (h:see AI t=true) (gd:GC d g):SC (t ::d) ⟨t.at_,3,Ax [],none,g⟩
inductive PC:List Af→List Ps→Prop
 | nil:PC [] []
 | cons {c r:List Af} {u:Af} {s:Ps} {S:List Ps} (sc:SC c s) (hu:see AF u=true) (pc:PC r S):PC (c ++u ::r) (s ::S)
theorem DD.cut {s:List UInt8}{a:List Af}{x:DR}(d:DD s a x){g:Option Pt}{r:List Af}(hx:x= .ok g r):∃ t c,a=t ::(c ++r)∧see s t=true∧GC c g:=by
 cases d with
 | no h=>cases hx
 | @deny t u r h hu=>cases hx;exact ⟨t, [u],rfl,h,.deny hu⟩
 | @grant t r q e h hu d=>
  cases hx;obtain ⟨b,c,hc,hs,f⟩:=d.tree trivial _ _ rfl;exact ⟨t,b ::c,by rw[hc];rfl,h,.grant hs f⟩
 | grant_bad=>cases hx
theorem DS.cut {i:List Af}{x:SR}(d:DS i x){s:Ps}{r:List Af}(hx:x= .ok s r):∃ c u,i=c ++u ::r∧see AF u=true∧SC c s:=by
 cases d with
 | @let_ t n u r q e h l d hq=>
  cases hx;obtain ⟨j,c,hc,hs,f⟩:=d.tree trivial _ _ rfl;exact ⟨t ::n ::j ::c,u,by rw[hc];rfl,hq,.let_ h l hs f⟩
 | @when t u r q p e g h d d2 hq=>
  cases hx;obtain ⟨j,c,hc,hs,f⟩:=d.tree trivial _ _ rfl;obtain ⟨a,c2,b,k,g2⟩:=d2.cut rfl;injection hc with h0 hc;subst h0;exact ⟨t ::(c ++a ::c2),u,by rw[hc,b];simp,hq,.when h f k g2⟩
 | @else_ t u r q g h d hq=>
  cases hx;obtain ⟨a,c2,b,k,g2⟩:=d.cut rfl;injection b with h0 b;subst h0;exact ⟨t ::c2,u,by rw[b];simp,hq,.else_ h g2⟩
 | _=>cases hx
theorem DP.cut {a:List Af}{x:QR}(d:DP a x):∀ S,x= .ok S→PC a S:=by
 induction d with
 | bad=>intro S h;cases h
 | over=>intro S h;cases h
 | @more a r s x d hk d2 f=>
  intro S h;cases x with
  | bad=>cases h
  | ok T=>
   cases h;obtain ⟨c,u,hc,hu,b⟩:=d.cut rfl;rw[hc];exact .cons b hu (f T rfl)
 | @last a s d hk=>
  intro S h;cases h;obtain ⟨c,u,hc,hu,b⟩:=d.cut rfl;rw[hc];exact .cons b hu .nil
def I1:List Af→List ByteArray
 | []=> []
 | t ::r=>if see BK t then [] else if t.kind=2 then t.text ::I1 r else I1 r
def Dc:List Af→List (Nat × List ByteArray)
 | []=> []
 | t ::r=>if see BV t then (t.at_,I1 r) ::Dc r else Dc r
def Pt.sets:Pt→List (Nat × List ByteArray)
 | .set i ss=> [(i,ss)]
 | .un _ _ k=>k.sets
 | .bin _ _ l r=>l.sets ++r.sets
 | .ite _ c t e=>c.sets ++(t.sets ++e.sets)
 | _=> []
theorem MP:∀ (c:List Af),(∀ x∈c,XP x)→∀ (u:Af) (r:List Af),see BK u=true→I1 (c ++u ::r)=NZ c
 | [],_,u,r,hu=>by rw[List.nil_append,I1,if_pos hu];rfl
 | t ::c,h,u,r,hu=>by
  have a:=MP c (fun x hx=>h x (List.mem_cons_of_mem _ hx)) u r hu;have b:see BK t=false:=by
   rcases h t (List.mem_cons_self ..) with e | e
   ·exact Av (by omega) (by omega)
   ·exact Ag e (by decide)
  rw[List.cons_append,I1,b,NZ,a];rfl
theorem AQ {t:Af}(h:see BV t=false)(r:List Af):Dc (t ::r)=Dc r:=by
 rw[Dc,h];rfl
theorem Oc:∀ (c:List Af),(∀ x∈c,XP x)→∀ (r:List Af),Dc (c ++r)=Dc r
 | [],_,r=>rfl
 | t ::c,h,r=>by
  have a:=Oc c (fun x hx=>h x (List.mem_cons_of_mem _ hx)) r;have b:see BV t=false:=by
   rcases h t (List.mem_cons_self ..) with e | e
   ·exact Av (by omega) (by omega)
   ·exact Ag e (by decide)
  rw[List.cons_append,AQ b,a]
theorem G.sets {k:Nat}{c:List Af}{p:Pt}(g:G k c p):∀ (r:List Af),Dc (c ++r)=p.sets ++Dc r:=by
 induction g with
 | up hk g a=>exact a
 | ite ht hu b n o q i j id=>
  intro r;rw[List.cons_append,AQ (Ag ht (by decide)),List.append_assoc,i,List.cons_append,AQ (Ag hu (by decide)),List.append_assoc,j,List.cons_append,AQ (Ag b (by decide)),id,Pt.sets];simp
 | bin hk l ht m d f=>
  intro r;rw[List.append_assoc,d,List.cons_append,AQ ((Dr ht).2.2 _ (by decide)),f,Pt.sets,List.append_assoc]
 | cmp l ht m d f=>
  intro r;rw[List.append_assoc,d,List.cons_append,AQ ((Dr ht).2.2 _ (by decide)),f,Pt.sets,List.append_assoc]
 | not ht g a=>intro r;rw[List.cons_append,AQ (Ag ht (by decide)),a,Pt.sets]
 | neg ht g a=>intro r;rw[List.cons_append,AQ (Ag ht (by decide)),a,Pt.sets]
 | par ht g hu a=>intro r;rw[List.cons_append,AQ (Ag ht (by decide)),List.append_assoc,a,List.cons_append,List.nil_append,AQ (Ag hu (by decide))]
 | size ht hu g b a=>intro r;rw[List.cons_append,List.cons_append,AQ (Ag ht (by decide)),AQ (Ag hu (by decide)),List.append_assoc,a,List.cons_append,List.nil_append,AQ (Ag b (by decide)),Pt.sets]
 | @set t u c ht hc hu=>
  intro r;rw[List.cons_append,Dc,if_pos ht,List.append_assoc,List.cons_append,List.nil_append,MP c hc u r hu,Oc c hc,AQ (Ag hu (by decide))];rfl
 | num h | text h | name h=>intro r;exact AQ (Av (by omega) (by omega)) r
 | tru h | fls h=>intro r;exact AQ (Ag h (by decide)) r
def Od:Option Pt→List (Nat × List ByteArray)
 | none=> []
 | some p=>p.sets
def Ps.sets (s:Ps):List (Nat × List ByteArray):=Od s.cond ++Od s.grant
theorem GC.sets {c:List Af}{g:Option Pt}(h:GC c g)(r:List Af):Dc (c ++r)=Od g ++Dc r:=by
 cases h with
 | deny h=>exact AQ (Ag h (by decide)) r
 | grant h g=>rw[List.cons_append,AQ (Ag h (by decide)),g.sets];rfl
theorem SC.sets {c:List Af}{s:Ps}(h:SC c s)(r:List Af):Dc (c ++r)=s.sets ++Dc r:=by
 cases h with
 | let_ h f he g=>rw[List.cons_append,List.cons_append,List.cons_append,AQ (Ag h (by decide)),AQ (Av (by omega) (by omega)),AQ (Ag he (by decide)),g.sets];simp[Ps.sets,Od]
 | when h b d a=>rw[List.cons_append,AQ (Ag h (by decide)),List.append_assoc,b.sets,List.cons_append,AQ (Ag d (by decide)),a.sets];simp[Ps.sets,Od]
 | else_ h a=>rw[List.cons_append,AQ (Ag h (by decide)),a.sets];simp[Ps.sets,Od]
theorem PC.sets {a:List Af}{S:List Ps}(h:PC a S):Dc a=S.flatMap Ps.sets:=by
 induction h with
 | nil=>rfl
 | cons b hu d c=>rw[b.sets,AQ (Ag hu (by decide)),c];rfl
theorem GC.free {c:List Af}{g:Option Pt}(h:GC c g):∀ t∈c,see AF t=false:=by
 cases h with
 | deny h=>intro x hx;rw[List.mem_singleton.1 hx];exact Ag h (by decide)
 | grant h g=>
  intro x hx;rcases List.mem_cons.1 hx with rfl | hx
  ·exact Ag h (by decide)
  ·exact (g.free x hx).1
theorem SC.free {c:List Af}{s:Ps}(h:SC c s):∀ t∈c,see AF t=false:=by
 cases h with
 | let_ h f he g=>
  intro x hx;rcases List.mem_cons.1 hx with rfl | hx
  ·exact Ag h (by decide)
  rcases List.mem_cons.1 hx with rfl | hx
  ·exact Av (by omega) (by omega)
  rcases List.mem_cons.1 hx with rfl | hx
  ·exact Ag he (by decide)
  ·exact (g.free x hx).1
 | when h b d a=>
  intro x hx;rcases List.mem_cons.1 hx with rfl | hx
  ·exact Ag h (by decide)
  rcases List.mem_append.1 hx with hx | hx
  ·exact (b.free x hx).1
  rcases List.mem_cons.1 hx with rfl | hx
  ·exact Ag d (by decide)
  ·exact a.free x hx
 | else_ h a=>
  intro x hx;rcases List.mem_cons.1 hx with rfl | hx
  ·exact Ag h (by decide)
  ·exact a.free x hx
theorem Gh (p:UInt8→Bool):∀ (l:List UInt8) (j:Nat),AK p l≤j→AK p (l.take j)=AK p l
 | [],j,_=>by simp
 | c ::r,0,h=>by
  have:AK p (c ::r)=0:=by omega
  rw[this];rfl
 | c ::r,j+1,h=>by
  rw[List.take_succ_cons];by_cases a:p c=true
  ·have e:∀ x:List UInt8,AK p (c ::x)=AK p x+1:=fun x=>by simp[AK,a]
   rw[e] at h ⊢;rw[e,Gh p r j (by omega)]
  ·simp[AK,a]
theorem Dp {l:List UInt8}{i j:Nat}(h:i≤j):(l.take j).take i=l.take i:=by
 rw[List.take_take,Nat.min_eq_left h]
theorem SQ {c:UInt8}{r:List UInt8}{k m:Int}{s:List UInt8}{a j:Nat}(h:Cc (c ::r)= .tok k m s a)(n:a≤j):Cc ((c ::r).take j)= .tok k m s a:=by
 have o:=ES (c ::r);rw[h] at o;obtain ⟨u,v,_⟩: 1≤a∧a≤(c ::r).length∧s.length≤a:=o;obtain ⟨i,rfl⟩:∃ i,j=i+1:=⟨j - 1,by omega⟩
 rw[List.take_succ_cons];rw[Cc] at h ⊢;by_cases h1:NI c=true
 ·rw[if_pos h1,Bn] at h ⊢;split at h
  ·cases h
  ·rename_i p;have e4:AK Ed (c ::r)=a:=by simp only[L3.tok.injEq] at h;exact h.2.2.2
   have b:AK Ed (c ::r.take i)=AK Ed (c ::r):=Gh Ed (c ::r) (i+1) (by omega);have d:(c ::r.take i).take a=(c ::r).take a:=Dp (l:=c ::r) n;rw[b,if_neg p];rw[e4] at h ⊢;rw[d];exact h
 ·rw[if_neg h1] at h ⊢;by_cases h2:Ci c=true
  ·rw[if_pos h2,Bm] at h ⊢;split at h
   ·cases h
   ·rename_i g;have e4:AK Ci (c ::r)=a:=by simp only[L3.tok.injEq] at h;exact h.2.2.2
    have b:AK Ci (c ::r.take i)=AK Ci (c ::r):=Gh Ci (c ::r) (i+1) (by omega);have d:(c ::r.take i).take a=(c ::r).take a:=Dp (l:=c ::r) n;have q:BG (c ::r.take i) a=true→BG (c ::r) a=true:=by
     intro f;rw[BG] at f ⊢;have e5:(c ::r.take i)[a]? =if a < i+1 then (c ::r)[a]? else none:=by rw[← List.take_succ_cons,List.getElem?_take]
     rw[e5] at f;split at f
     ·rename_i x hx;split at hx
      ·rw[hx];exact f
      ·cases hx
     ·cases f
    rw[b];rw[e4] at h g ⊢;rw[d,if_neg (fun t=>g (t.imp id (Or.imp q id)))];exact h
  ·rw[if_neg h2] at h ⊢;by_cases h3:c=34
   ·rw[if_pos h3,BH] at h ⊢;split at h
    ·cases h
    ·rename_i g;have e4:AK GE r+2=a:=by simp only[L3.tok.injEq] at h;exact h.2.2.2
     have b:AK GE (r.take i)=AK GE r:=Gh GE r i (by omega);have e5:(r.take i)[AK GE r]? =r[AK GE r]? :=by rw[List.getElem?_take,if_pos (by omega)]
     rw[b,e5,if_neg g,Dp (by omega)];exact h
   ·rw[if_neg h3,A8] at h ⊢;by_cases h4:Cj.contains ((c ::r).take 2)=true
    ·rw[if_pos h4] at h;have e4: 2=a:=by simp only[L3.tok.injEq] at h;exact h.2.2.2
     have d:(c ::r.take i).take 2=(c ::r).take 2:=Dp (l:=c ::r) (i:=2) (j:=i+1) (by omega);rw[d,if_pos h4];exact h
    ·rw[if_neg h4] at h;have h5: ¬ Cj.contains ((c ::r.take i).take 2)=true:=by
      cases i with
      | zero=>simp[Cj]
      | succ i=>rw[show (c ::r.take (i+1)).take 2=(c ::r).take 2 from Dp (l:=c ::r) (i:=2) (j:=i+1+1) (by omega)];exact h4
     rw[if_neg h5];exact h
theorem En:∀ (b:Bool) (l:List UInt8) (c:UInt8) (r:List UInt8),Ce b l=c ::r→∃ a,l=a ++c ::r∧∀ x,Ce b (a ++x)=Ce false x
 | _, [],c,r,h=>by simp[Ce] at h
 | false,d ::q,c,r,h=>by
  rw[Ce] at h;split at h
  ·rename_i h1;obtain ⟨a,e1,e2⟩:=En false q c r h;exact ⟨d ::a,by rw[e1];rfl,fun x=>by rw[List.cons_append,Ce,if_pos h1];exact e2 x⟩
  ·rename_i h1;split at h
   ·rename_i h3;obtain ⟨a,e1,e2⟩:=En true q c r h;exact ⟨d ::a,by rw[e1];rfl,fun x=>by rw[List.cons_append,Ce,if_neg h1,if_pos h3];exact e2 x⟩
   ·exact ⟨[],by rw[h];rfl,fun x=>rfl⟩
 | true,d ::q,c,r,h=>by
  rw[Ce] at h;split at h
  ·rename_i h1;obtain ⟨a,e1,e2⟩:=En false q c r h;exact ⟨d ::a,by rw[e1];rfl,fun x=>by rw[List.cons_append,Ce,if_pos h1];exact e2 x⟩
  ·rename_i h1;obtain ⟨a,e1,e2⟩:=En true q c r h;exact ⟨d ::a,by rw[e1];rfl,fun x=>by rw[List.cons_append,Ce,if_neg h1];exact e2 x⟩
inductive CutT (n:Nat):List UInt8→List Af→List UInt8→Prop
 | nil {pre r:List UInt8} {c:UInt8} (hp:∀ x,Ce false (pre ++x)=Ce false x):CutT n (pre ++c ::r) [] (c ::r)
 | cons {pre r q:List UInt8} {c:UInt8} {k m:Int} {s:List UInt8} {wd:Nat} {T:List Af} (hp:∀ x,Ce false (pre ++x)=Ce false x) (hb:Ce false [c]= [c]) (ho:Cc (c ::r)= .tok k m s wd) (ht:CutT n ((c ::r).drop wd) T q):
   CutT n (pre ++c ::r) (⟨k,m,Ax s,n - (r.length+1)⟩ ::T) q
theorem MH {c:UInt8}{r:List UInt8}(h:Ce false (c ::r)=c ::r)(x:List UInt8):Ce false (c ::x)=c ::x:=by
 rw[Ce] at h ⊢;split at h
 ·have:=FA false r;rw[h] at this;simp at this;omega
 ·split at h
  ·have:=FA true r;rw[h] at this;simp at this;omega
  ·rename_i h1 h2;rw[if_neg h1,if_neg h2]
theorem Jz (n:Nat):∀ (f:Nat) (l:List UInt8) (out:List Af),(AH n f l out).code≠0→∃ T q,CutT n l T q∧(AH n f l out).at_=n - q.length
 | 0,l,out,h=>absurd rfl h
 | f+1,l,out,h=>by
  cases a:Ce false l with
  | nil=>rw[AH,a] at h;exact absurd rfl h
  | cons c r=>
   have b:Ce false (c ::r)=c ::r:=by rw[← a,DV]
   obtain ⟨g,e1,e2⟩:=En false l c r a;have e:AH n (f+1) l out=AH n (f+1) (c ::r) out:=by rw[← a,Fg]
   rw[e] at h ⊢;cases d:Cc (c ::r) with
   | bad code=>
    rw[Fh b d];exact ⟨[],c ::r,by rw[e1];exact .nil e2,rfl⟩
   | tok k m s i=>
    rw[Eo b d] at h ⊢;obtain ⟨T,q,h1,h2⟩:=Jz n f _ _ h;exact ⟨_,q,by rw[e1];exact .cons e2 (MH b _) d h1,h2⟩
theorem NJ (n:Nat):∀ (f:Nat) (l:List UInt8) (out a b:List Af) (u:Af),(AH n f l out).code=0→(AH n f l out).toks=out ++(a ++u ::b)→∃ q,CutT n l a q∧u.at_=n - q.length
 | 0,l,out,a,b,u,_,h=>by simp[AH] at h
 | f+1,l,out,a,b,u,hc,h=>by
  cases g:Ce false l with
  | nil=>rw[AH,g] at h;simp at h
  | cons c r=>
   have i:Ce false (c ::r)=c ::r:=by rw[← g,DV]
   obtain ⟨t,e1,e2⟩:=En false l c r g;have e:AH n (f+1) l out=AH n (f+1) (c ::r) out:=by rw[← g,Fg]
   rw[e] at h hc;cases j:Cc (c ::r) with
   | bad code=>rw[Fh i j] at h;simp at h
   | tok k m s o=>
    rw[Eo i j] at h hc;obtain ⟨X,d⟩:=scanF_more n f ((c ::r).drop o) (out ++ [⟨k,m,Ax s,n - (r.length+1)⟩]) hc;have p:=d;rw[h,List.append_assoc,List.append_cancel_left_eq] at d;cases a with
    | nil=>
     simp only[List.nil_append,List.cons_append,List.cons.injEq] at d;exact ⟨c ::r,by rw[e1];exact .nil e2,by rw[d.1];rfl⟩
    | cons v a=>
     simp only[List.nil_append,List.cons_append,List.cons.injEq] at d;obtain ⟨rfl,d⟩:=d;obtain ⟨q,h1,h2⟩:=NJ n f _ _ a b u hc (by rw[p,← d]);exact ⟨q,by rw[e1];exact .cons e2 (MH i _) j h1,h2⟩
where
 scanF_more (n:Nat):∀ (f:Nat) (l:List UInt8) (out:List Af),(AH n f l out).code=0→∃ X,(AH n f l out).toks=out ++X
 | 0,l,out,_=>⟨[],by simp[AH]⟩
 | f+1,l,out,hc=>by
  rw[AH] at hc ⊢;split
  ·exact ⟨[],by simp⟩
  ·rename_i c r hbl;rw[hbl] at hc;dsimp only at hc;split
   ·rename_i code ho;rw[ho] at hc;exfalso;have hc':code=0:=hc;have:code≠0:=by
     rw[Cc] at ho;split at ho
     ·rw[Bn] at ho;(split at ho <;> cases ho) <;> decide
     ·split at ho
      ·rw[Bm] at ho;(split at ho <;> cases ho) <;> decide
      ·split at ho
       ·rw[BH] at ho;(split at ho <;> cases ho) <;> decide
       ·rw[A8] at ho;split at ho
        ·cases ho
        ·(split at ho <;> cases ho) <;> decide
    exact this hc'
   ·rename_i k m s wd ho;rw[ho] at hc;obtain ⟨X,hX⟩:=scanF_more n f _ _ hc;exact ⟨_,by rw[hX,List.append_assoc]⟩
theorem CutT.suf {n:Nat}{l q:List UInt8}{T:List Af}(h:CutT n l T q):∃ p,l=p ++q∧q≠ []:=by
 induction h with
 | nil a=>exact ⟨_,rfl,by simp⟩
 | @cons b r q c k m s d T a g i ht f=>
  obtain ⟨p,e,hq⟩:=f;exact ⟨b ++((c ::r).take d ++p),by rw[List.append_assoc,List.append_assoc,← e,List.take_append_drop],hq⟩
theorem CutT.scan {n:Nat}{l q:List UInt8}{T:List Af}(h:CutT n l T q):l.length≤n→∀ (f:Nat) (out:List Af),l.length - q.length < f→AH (n - q.length) f (l.take (l.length - q.length)) out=⟨out ++T,0,0⟩:=by
 induction h with
 | @nil b r c o=>
  intro B f out t;have e:(b ++c ::r).take ((b ++c ::r).length - (c ::r).length)=b:=by
   rw[List.length_append,Nat.add_sub_cancel,List.take_append_of_le_length NLN,List.take_length]
  rw[e];have e2:=o [];rw[List.append_nil] at e2;cases f with
  | zero=>simp[AH]
  | succ f=>rw[AH,e2];simp[Ce]
 | @cons b r q c k m s a T o C u ht E=>
  intro B f out t;obtain ⟨p,e,hq⟩:=ht.suf;have v:=ES (c ::r);rw[u] at v;obtain ⟨L,F,_⟩: 1≤a∧a≤(c ::r).length∧s.length≤a:=v;have w:((c ::r).drop a).length=p.length+q.length:=by rw[e,List.length_append]
  rw[List.length_drop] at w;have hl:(b ++c ::r).length=b.length+(r.length+1):=by simp
  simp only[List.length_cons] at w F;have e1:(b ++c ::r).take ((b ++c ::r).length - q.length)=b ++(c ::r).take (a+p.length):=by
   rw[hl,List.take_append,List.take_of_length_le (by omega)]
   congr 2
   omega
  rw[e1];obtain ⟨f,rfl⟩:∃ i,f=i+1:=⟨f - 1,by omega⟩
  have y:=SQ (j:=a+p.length) u (by omega);have z:((c ::r).take (a+p.length)).drop a=p:=by
   rw[List.drop_take,e,Nat.add_sub_cancel_left,List.take_append_of_le_length NLN,List.take_length]
  have g:((c ::r).take (a+p.length)).length=a+p.length:=by rw[List.length_take,List.length_cons];omega
  cases hx:(c ::r).take (a+p.length) with
  | nil=>rw[hx] at g;simp at g;omega
  | cons d x=>
   obtain ⟨i,hi⟩:∃ i,a+p.length=i+1:=⟨a+p.length - 1,by omega⟩
   have H:d=c:=by rw[hi,List.take_succ_cons] at hx;cases hx;rfl
   subst H;rw[hx] at y z g;simp only[List.length_cons] at g;have I:=MH C x;rw[CH (n - q.length) (f+1) (o (d ::x)),Eo I y,z];have J:((d ::r).drop a).length≤n:=by rw[List.length_drop,List.length_cons];omega
   have A:=E J f (out ++ [⟨k,m,Ax s,n - q.length - (x.length+1)⟩]) (by rw[List.length_drop,List.length_cons];rw[hl] at t;omega);have K:((d ::r).drop a).take (((d ::r).drop a).length - q.length)=p:=by
    rw[e,List.length_append,Nat.add_sub_cancel,List.take_append_of_le_length NLN,List.take_length]
   rw[K] at A;rw[A,List.append_assoc]
   congr 3
   simp only[List.cons_append,List.nil_append]
   congr 2
   omega
theorem Uz (t:ByteArray)(j:Nat):Ak (t.extract 0 j)=(Ak t).take j:=by rw[Bk];simp
theorem CutT.text {t:ByteArray}{T:List Af}{q:List UInt8}(hl: ¬ 4000 < t.size)(h:CutT t.size (Ak t) T q):t.size - q.length≤t.size∧Ar (t.extract 0 (t.size - q.length))=⟨T,0,0⟩:=by
 have a:(t.extract 0 (t.size - q.length)).size=t.size - q.length:=by rw[ByteArray.size_extract];omega
 refine ⟨by omega, ?_⟩;rw[Ar,a,if_neg (by omega),Uz];have:=h.scan (by rw[As];exact NLN) (t.size - q.length+1) [] (by rw[As];omega);rw[As] at this;exact this
theorem NL {t:ByteArray}(h:(Ar t).code≠0)(h1:(Ar t).code≠1):(Ar t).at_≤t.size∧(Ar (t.extract 0 (Ar t).at_)).code=0:=by
 have hl: ¬ 4000 < t.size:=by intro hl;rw[Ar,if_pos hl] at h1;exact h1 rfl
 have e:Ar t=AH t.size (t.size+1) (Ak t) []:=by rw[Ar,if_neg hl]
 rw[e] at h;obtain ⟨T,q,h2,h3⟩:=Jz _ _ _ _ h;rw[e,h3];obtain ⟨a,b⟩:=h2.text hl;exact ⟨a,by rw[b]⟩
theorem UA {t:ByteArray}{a b:List Af}{u:Af}(h:(Ar t).code=0)(ht:(Ar t).toks=a ++u ::b):u.at_≤t.size∧Ar (t.extract 0 u.at_)=⟨a,0,0⟩:=by
 have hl: ¬ 4000 < t.size:=by intro hl;rw[Ar,if_pos hl] at ht;simp at ht
 have e:Ar t=AH t.size (t.size+1) (Ak t) []:=by rw[Ar,if_neg hl]
 rw[e] at h ht;obtain ⟨q,h2,h3⟩:=NJ _ _ _ [] a b u h (by rw[ht];rfl);rw[h3];exact h2.text hl
theorem G6.det {n:Nat}{st:List Sy}{i:List Af}{j:Option (List Af)}(h:G6 n st i j):∀ {m:Nat} {c:Option (List Af)},G6 m st i c→j=c:=by
 induction h with
 | fin=>intro m c h;cases h;rfl
 | over=>intro m c h;cases h;rfl
 | exp he d g=>
  intro m c h;cases h with
  | exp a b=>rw[he] at a;cases a;exact g b
  | scope | scope_nil | scope_no | term | term_nil | term_no=>cases he
 | scope hk d g=>
  intro m c h;cases h with
  | exp a b=>cases a
  | scope f b=>exact g b
  | scope_no f=>exact absurd hk f
 | scope_nil=>intro m c h;cases h with
  | exp a b=>cases a
  | scope_nil=>rfl
 | scope_no hk=>intro m c h;cases h with
  | exp a b=>cases a
  | scope f b=>exact absurd f hk
  | scope_no=>rfl
 | term hk d g=>
  intro m c h;cases h with
  | exp a b=>cases a
  | term f b=>exact g b
  | term_no f=>exact absurd hk f
 | term_nil=>intro m c h;cases h with
  | exp a b=>cases a
  | term_nil=>rfl
 | term_no hk=>intro m c h;cases h with
  | exp a b=>cases a
  | term f b=>exact absurd f hk
  | term_no=>rfl
theorem G6.suf {n:Nat}{st:List Sy}{c:List Af}{f:Option (List Af)}(h:G6 n st c f):∀ q,f=some q→∃ a,c=a ++q:=by
 induction h with
 | fin=>intro q h;cases h
 | over | scope_nil | scope_no | term_nil | term_no=>intro q h;cases h;exact ⟨[],rfl⟩
 | exp he d b=>exact b
 | scope hk d b | term hk d b=>
  intro q h;obtain ⟨a,rfl⟩:=b q h;exact ⟨_ ::a,rfl⟩
theorem H8:∀ (st:List Sy),Ru st [] none∨Ru st [] (some [])
 | []=> .inl ⟨0,.fin⟩
 | x ::st=>by
  have T:∀ (s:List UInt8) (st:List Sy),Ru (.t s ::st) [] (some []):=fun s st=>⟨1,.term_nil⟩
  have a:∀ {x:Sy} {m st:List Sy} {b:Option (List Af)},Ae x []=some m→Ru (m ++st) [] b→Ru (x ::st) [] b:=fun h d=>Ru.exp h d;have c:∀ st,Ru (.primary ::st) [] (some []):=fun st=>a (m:= [.t Kk]) (by rfl) (T _ _);have f:∀ st,Ru (.unary ::st) [] (some []):=fun st=>a (m:= [.primary]) (by rfl) (c _);have g:∀ st,Ru (.term ::st) [] (some []):=fun st=>a (m:= [.unary,.termMore]) (by rfl) (f _);have i:∀ st,Ru (.sum ::st) [] (some []):=fun st=>a (m:= [.term,.sumMore]) (by rfl) (g _);have j:∀ st,Ru (.not_ ::st) [] (some []):=fun st=>a (m:= [.sum,.compared]) (by rfl) (i _);have k:∀ st,Ru (.and_ ::st) [] (some []):=fun st=>a (m:= [.not_,.andMore]) (by rfl) (j _);have l:=H8 st;cases x with
  | policy=>exact .inr (a (m:= [.t AI,.decision,.t AF]) (by rfl) (T _ _))
  | decision=>exact .inr (a (m:= [.t EA]) (by rfl) (T _ _))
  | expr=>exact .inr (a (m:= [.and_,.orMore]) (by rfl) (k _))
  | and_=>exact .inr (k _)
  | not_=>exact .inr (j _)
  | sum=>exact .inr (i _)
  | term=>exact .inr (g _)
  | unary=>exact .inr (f _)
  | primary=>exact .inr (c _)
  | orMore | andMore | compared | sumMore | termMore=>exact l.imp (a (m:= []) (by rfl)) (a (m:= []) (by rfl))
  | scopes=>exact .inr (a (m:= [.scope,.scopesMore]) (by rfl) ⟨1,.scope_nil⟩)
  | scopesMore=>exact .inr (a (m:= [.t BK]) (by rfl) (T _ _))
  | scope=>exact .inr ⟨1,.scope_nil⟩
  | t s=>exact .inr (T _ _)
theorem G6.cut {n:Nat}{st:List Sy}{c:List Af}{f:Option (List Af)}(h:G6 n st c f):∀ (q a:List Af),f=some q→c=a ++q→Ru st a none∨Ru st a (some []):=by
 induction h with
 | fin=>intro q a h;cases h
 | over | scope_nil | scope_no | term_nil | term_no=>
  intro q a h ht;cases h;have:a= []:=by simpa using ht
  rw[this];exact H8 _
 | @exp n x m st c f he d b=>
  intro q a h ht;cases a with
  | nil=>exact H8 _
  | cons v a=>
   have e:G8 c=G8 (v ::a):=by rw[ht];rfl
   rw[e] at he;exact (b q (v ::a) h ht).imp (Ru.exp he) (Ru.exp he)
 | scope hk d b=>
  intro q a h ht;cases a with
  | nil=>exact H8 _
  | cons v a=>
   rw[List.cons_append] at ht;cases ht;exact (b q a h rfl).imp (Ru.scope hk) (Ru.scope hk)
 | term hk d b=>
  intro q a h ht;cases a with
  | nil=>exact H8 _
  | cons v a=>
   rw[List.cons_append] at ht;cases ht;exact (b q a h rfl).imp (Ru.term hk) (Ru.term hk)
theorem DP.ahead {b q:List Af}{a:List Af}(d:DP b (.bad q))(c:∀ t∈b,BL t)(f:b=a ++q){x:QR}(i:DP a x):(∃ S,x= .ok S)∨x= .bad []:=by
 obtain ⟨n,h⟩:=d.run c;obtain ⟨j,g⟩:=i.run (fun t ht=>c t (by rw[f];exact List.mem_append_left _ ht));rcases h.cut q a rfl f with ⟨m,hm⟩ | ⟨m,hm⟩
 ·have:=g.det hm;cases x with
  | ok S=>exact .inl ⟨S,rfl⟩
  | bad r=>cases this
 ·have:=g.det hm;cases x with
  | ok S=>cases this
  | bad r=>cases this;exact .inr rfl
theorem DP.tail {b q:List Af}(d:DP b (.bad q))(c:∀ t∈b,BL t):∃ a,b=a ++q:=by
 obtain ⟨n,h⟩:=d.run c;exact h.suf q rfl
def Wd (w:World) (x:Addr) (n:Nat) (t:TypeId):Prop:=∃ q cs,x=⟨q,0,none⟩∧An w q cs t∧cs.size=n
theorem Wd.below {w w':World}{B n:Nat}{x:Addr}{t:TypeId}(h:Wd w x n t)(a:Below B w w')(b:w.heap.size≤B):Wd w' x n t:=by
 obtain ⟨q,cs,e,r,c⟩:=h;exact ⟨q,cs,e,r.after a b,c⟩
theorem Wd.setFar {w:World}{n:Nat}{x:Addr}{t:TypeId}(h:Wd w x n t){p:Addr}(a:p.block≠x.block)(u:Value):Wd (w.setCell p u) x n t:=by
 obtain ⟨q,cs,rfl,r,b⟩:=h;exact ⟨q,cs,rfl,r.setFar (fun e=>a e.symm) u,b⟩
theorem Wd.of_owns {w:World}{B n:Nat}{x:Addr}{t:TypeId}{a:List Value}(h:w.ownsRow B t 1 (.slice (some x) n n) n a):Wd w x n t:=by
 rcases h.2 with ⟨q,_⟩ | ⟨g,cap,b,q,_,c,_,_,d,_⟩
 ·cases q
 ·cases q;exact ⟨g,b,rfl,⟨c⟩,by omega⟩
end Go.Proofs.YtdldimphcpojoaaGreatDoor
