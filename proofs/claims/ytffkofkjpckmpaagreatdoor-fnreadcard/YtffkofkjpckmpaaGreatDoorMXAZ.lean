/-
  GD, GE, HE, PickH. Own work.
-/
import Derived.Test.YtffkofkjpckmpaaGreatDoorMXAN
import Derived.Test.YtffkofkjpckmpaaGreatDoorMXAM
namespace Go.Proofs.YtffkofkjpckmpaaGreatDoor
open Go.RowKit
set_option linter.unusedVariables false
theorem OT {k m:Nat}{t:Ae}{op:Int}(h:BZ k t=some op)(hk:m < k):(A9 m).any (fun x=>see x t)=false:=by
 obtain ⟨s,h1,h2⟩:=Eu h;refine Yd h2 (fun hm=>?_);have hs:s∈A9 k:=zb.2 ⟨_,h1,rfl⟩;have c:∀ (a b:List (List UInt8)),(∀ x∈a,x ∉ b)→s∈a→s∈b→False:=fun a b h d f=>h s d f
 match k,m,hk with
 | 2,1,_=>exact c (A9 2) (A9 1) (by decide) hs hm
 | 4,1,_=>exact c (A9 4) (A9 1) (by decide) hs hm
 | 4,2,_=>exact c (A9 4) (A9 2) (by decide) hs hm
 | 5,1,_=>exact c (A9 5) (A9 1) (by decide) hs hm
 | 5,2,_=>exact c (A9 5) (A9 2) (by decide) hs hm
 | 5,4,_=>exact c (A9 5) (A9 4) (by decide) hs hm
 | 6,1,_=>exact c (A9 6) (A9 1) (by decide) hs hm
 | 6,2,_=>exact c (A9 6) (A9 2) (by decide) hs hm
 | 6,4,_=>exact c (A9 6) (A9 4) (by decide) hs hm
 | 6,5,_=>exact c (A9 6) (A9 5) (by decide) hs hm
 |_,0,_=>cases hm
 |_,3,_=>cases hm
 | 1,m+1,h=>omega
 | 3,_,_=>cases hs
 |k+7,_,_=>cases hs
theorem Ye {k:Nat}{t:Ae}{op:Int}(h:BZ k t=some op):(A9 k).any (fun x=>see x t)=true:=by
 obtain ⟨s,h1,h2⟩:=Eu h;exact List.any_eq_true.2 ⟨s,zb.2 ⟨_,h1,rfl⟩,h2⟩
theorem Kv {k:Nat}{s:List UInt8}(h:s∈A9 k):s ∉ [AH,Ch,AS,Bp,BS,Bl,DO,BE,AK,DT,AG,Br]:=by
 obtain ⟨⟨x,op⟩,h1,h2⟩:=zb.1 h;rw[← h2];exact Mx h1
theorem G.flat (m:Nat){k:Nat}{c:List Ae}{p:Pt}(g:G k c p): 1≤k→∀ (s:LS),s.d=0→s.pe=false→∃ acc,c.foldl (CL (A9 m)) s=⟨true,0,s.i+c.length,acc⟩∧(m < k→acc=s.acc):=by
 induction g with
 |up hk g b=>
  intro h1 s hs hp;obtain ⟨acc,e,a⟩:=b (by omega) s hs hp;exact ⟨acc,e,fun h=>a (by omega)⟩
 |ite=>intro h1;omega
 |@bin k l r t op y z hk A ht B f j=>
  intro h1 s hs hp;obtain ⟨e1,e2,e3⟩:=Dr ht;obtain ⟨acc,e,a⟩:=f h1 s hs hp;have n:CL (A9 m) ⟨true,0,s.i+l.length,acc⟩ t=⟨false,0,s.i+l.length+1,if (A9 m).any (fun x=>see x t) then s.i+l.length else acc⟩:=by
   rw[CL,e1,e2,if_neg (by rintro (h | h);exact absurd h (Int.lt_irrefl 0);cases h)]
  obtain ⟨o,e',q⟩:=j (by omega) ⟨false,0,s.i+l.length+1,if (A9 m).any (fun x=>see x t) then s.i+l.length else acc⟩ rfl rfl;refine ⟨o, ?_,fun h=>?_⟩
  ·rw[zo,e,List.foldl_cons,n,e'];simp only[LS.mk.injEq,true_and,and_true,List.length_cons,zB];omega
  ·have:=q (by omega);rw[OT ht h,if_neg (by decide),a h] at this;exact this
 |@cmp l r t op y z A ht B f j=>
  intro h1 s hs hp;obtain ⟨e1,e2,e3⟩:=Dr ht;obtain ⟨acc,e,a⟩:=f (by omega) s hs hp;have n:CL (A9 m) ⟨true,0,s.i+l.length,acc⟩ t=⟨false,0,s.i+l.length+1,if (A9 m).any (fun x=>see x t) then s.i+l.length else acc⟩:=by
   rw[CL,e1,e2,if_neg (by rintro (h | h);exact absurd h (Int.lt_irrefl 0);cases h)]
  obtain ⟨o,e',q⟩:=j (by omega) ⟨false,0,s.i+l.length+1,if (A9 m).any (fun x=>see x t) then s.i+l.length else acc⟩ rfl rfl;refine ⟨o, ?_,fun h=>?_⟩
  ·rw[zo,e,List.foldl_cons,n,e'];simp only[LS.mk.injEq,true_and,and_true,List.length_cons,zB];omega
  ·have:=q (by omega);rw[OT ht h,if_neg (by decide),a (by omega)] at this;exact this
 |@not t r p ht g b=>
  intro h1 s hs hp;have e1:=CH ht (by decide) s.d;have e2:=Mw ht (by decide);obtain ⟨acc,e,a⟩:=b h1 ⟨false,0,s.i+1,s.acc⟩ rfl rfl;refine ⟨acc, ?_,a⟩;rw[List.foldl_cons,CF _ hp,e1,e2,hs,e];simp only[LS.mk.injEq,true_and,and_true,List.length_cons];omega
 |@neg t r p ht g b=>
  intro h1 s hs hp;have e1:=CH ht (by decide) s.d;have e2:=Mw ht (by decide);obtain ⟨acc,e,a⟩:=b h1 ⟨false,0,s.i+1,s.acc⟩ rfl rfl;refine ⟨acc, ?_,a⟩;rw[List.foldl_cons,CF _ hp,e1,e2,hs,e];simp only[LS.mk.injEq,true_and,and_true,List.length_cons];omega
 |@par t u r p ht g hu b=>
  intro h1 s hs hp;have e1:=FF (.inl ht) s.d;have e2:=Ey (.inl hu) (s.d+1);refine ⟨s.acc, ?_,fun _=>rfl⟩;rw[List.foldl_cons,CF _ hp,e1,zo,g.deep (A9 m) _ (by show 0 < s.d+1;omega),List.foldl_cons,zy,My _ hu (fun h=>Kv h (by decide))];simp only[e2,LS.mk.injEq,List.length_cons,zB,List.length_nil];exact ⟨EY (.inl hu),by omega,by omega,trivial⟩
 |@size t u v r p ht hu g w b=>
  intro h1 s hs hp;have C:=CH ht (by decide) s.d;have e1:=FF (.inl hu) s.d;have e2:=Ey (.inl w) (s.d+1);refine ⟨s.acc, ?_,fun _=>rfl⟩;rw[List.foldl_cons,CF _ hp,C,List.foldl_cons,AY _ (by show 0 < dL s.d u;rw[e1];omega),zo,g.deep (A9 m) _ (by show 0 < dL s.d u;rw[e1];omega),List.foldl_cons,zy,My _ w (fun h=>Kv h (by decide))];simp only[e1,e2,LS.mk.injEq,List.length_cons,zB,List.length_nil];exact ⟨EY (.inl w),by omega,by omega,trivial⟩
 |@set t u c ht hc hu=>
  intro h1 s hs hp;have e1:=FF (.inr ht) s.d;have e2:=Ey (.inr hu) (s.d+1);obtain ⟨pe,he⟩:=PV (A9 m) c hc ⟨EM t,s.d+1,s.i+1,s.acc⟩ (by show 0 < s.d+1;omega);refine ⟨s.acc, ?_,fun _=>rfl⟩;rw[List.foldl_cons,CF _ hp,e1,zo,he,List.foldl_cons,zy,My _ hu (fun h=>Kv h (by decide))];simp only[e2,LS.mk.injEq,List.length_cons,zB,List.length_nil];exact ⟨EY (.inr hu),by omega,by omega,trivial⟩
 |@num t h | @text t h | @name t h=>
  intro h1 s hs hp;refine ⟨s.acc, ?_,fun _=>rfl⟩;have e1:=PU (t:=t) (by omega) (by omega) s.d;rw[List.foldl_cons,zy,CF _ hp,e1,Rp (by omega) (by omega),hs];rfl
 |@tru t h=>
  intro h1 s hs hp;refine ⟨s.acc, ?_,fun _=>rfl⟩;have e1:=CH h (by decide) s.d;rw[List.foldl_cons,zy,CF _ hp,e1,JC (.inl h),hs];rfl
 |@fls t h=>
  intro h1 s hs hp;refine ⟨s.acc, ?_,fun _=>rfl⟩;have e1:=CH h (by decide) s.d;rw[List.foldl_cons,zy,CF _ hp,e1,JC (.inr h),hs];rfl
def Lo (m:Nat) (c:List Ae) (i:Int):Int:=(c.foldl (CL (A9 m)) ⟨false,0,i,-1⟩).acc
theorem G.last_no {m k:Nat}{c:List Ae}{p:Pt}(g:G k c p)(h:m < k)(i:Int):Lo m c i= -1:=by
 obtain ⟨acc,e,a⟩:=g.flat m (by omega) ⟨false,0,i,-1⟩ rfl rfl;rw[Lo,e];exact a h
theorem G.last_at {m k a:Nat}{l r:List Ae}{t:Ae}{op:Int}{b c:Pt}(d:G k l b)(hk: 1≤k)(ht:BZ m t=some op)(f:G a r c)(h:m < a)(i:Int):Lo m (l ++t ::r) i=i+l.length:=by
 obtain ⟨acc,e,n⟩:=d.flat m hk ⟨false,0,i,-1⟩ rfl rfl;obtain ⟨e1,e2,e3⟩:=Dr ht;have g:CL (A9 m) ⟨true,0,i+l.length,acc⟩ t=⟨false,0,i+l.length+1,i+l.length⟩:=by
  rw[CL,e1,e2,if_neg (by rintro (h | h);exact absurd h (Int.lt_irrefl 0);cases h),Ye ht];rfl
 obtain ⟨o,e',j⟩:=f.flat m (by omega) ⟨false,0,i+l.length+1,i+l.length⟩ rfl rfl;rw[Lo,zo,e,List.foldl_cons,g,e'];exact j h
theorem G.cut0 {c:List Ae}{p:Pt}(g:G 0 c p):(∃ t u v a b d f h i,c=t ::(a ++u ::(b ++v ::d))∧p= .ite t.at_ f h i∧see DO t=true∧see BE u=true∧see AK v=true∧G 0 a f∧G 0 b h∧G 0 d i)∨G 1 c p:=by
 cases g with
 |up hk g=>exact .inr g
 |ite ht hu j k l m=>exact .inl ⟨_,_,_,_,_,_,_,_,_,rfl,rfl,ht,hu,j,k,l,m⟩
 |bin hk=>omega
theorem G.cutB {k:Nat}{c:List Ae}{p:Pt}(g:G k c p)(hk:k=1∨k=2∨k=5∨k=6):(∃ l t r op a b,c=l ++t ::r∧p= .bin t.at_ op a b∧BZ k t=some op∧G k l a∧G (k+1) r b)∨G (k+1) c p:=by
 cases g with
 |up hk g=>exact .inr g
 |bin hk d ht f=>exact .inl ⟨_,_,_,_,_,_,rfl,rfl,ht,d,f⟩
 |_=>omega
theorem G.cut3 {c:List Ae}{p:Pt}(g:G 3 c p):(∃ t r q,c=t ::r∧p= .un t.at_ 9 q∧see DT t=true∧G 3 r q)∨G 4 c p:=by
 cases g with
 |up hk g=>exact .inr g
 |not ht g=>exact .inl ⟨_,_,_,rfl,rfl,ht,g⟩
 |bin hk=>omega
theorem G.cut4 {c:List Ae}{p:Pt}(g:G 4 c p):(∃ l t r op a b,c=l ++t ::r∧p= .bin t.at_ op a b∧BZ 4 t=some op∧G 5 l a∧G 5 r b)∨G 5 c p:=by
 cases g with
 |up hk g=>exact .inr g
 |cmp d ht f=>exact .inl ⟨_,_,_,_,_,_,rfl,rfl,ht,d,f⟩
 |bin hk=>omega
theorem G.cut7 {c:List Ae}{p:Pt}(g:G 7 c p):(∃ t r q,c=t ::r∧p= .un t.at_ 8 q∧see Bd t=true∧G 7 r q)∨G 8 c p:=by
 cases g with
 |up hk g=>exact .inr g
 |neg ht g=>exact .inl ⟨_,_,_,rfl,rfl,ht,g⟩
 |bin hk=>omega
theorem G.head {k:Nat}{c:List Ae}{p:Pt}(g:G k c p):∃ t r,c=t ::r∧(1≤k→see DO t=false)∧(4≤k→see DT t=false)∧(8≤k→see Bd t=false):=by
 induction g with
 |up hk g b=>
  obtain ⟨t,r,e,h1,h2,h3⟩:=b;exact ⟨t,r,e,fun h=>h1 (by omega),fun h=>h2 (by omega),fun h=>h3 (by omega)⟩
 |ite=>exact ⟨_,_,rfl,fun h=>by omega,fun h=>by omega,fun h=>by omega⟩
 |@bin k l r t op d f hk i ht j a m=>
  obtain ⟨u,q,e,h1,h2,h3⟩:=a;exact ⟨u,q ++t ::r,by rw[e];rfl,h1,h2,h3⟩
 |@cmp l r t op d f i ht j a m=>
  obtain ⟨u,q,e,h1,h2,h3⟩:=a;exact ⟨u,q ++t ::r,by rw[e];rfl,fun _=>h1 (by omega),fun _=>h2 (by omega),fun h=>by omega⟩
 |not ht g=>exact ⟨_,_,rfl,fun _=>Ag ht (by decide),fun h=>by omega,fun h=>by omega⟩
 |neg ht g=>exact ⟨_,_,rfl,fun _=>Ag ht (by decide),fun _=>Ag ht (by decide),fun h=>by omega⟩
 |par ht g hu=>exact ⟨_,_,rfl,fun _=>Ag ht (by decide),fun _=>Ag ht (by decide),fun _=>Ag ht (by decide)⟩
 |size ht hu g n=>exact ⟨_,_,rfl,fun _=>Ag ht (by decide),fun _=>Ag ht (by decide),fun _=>Ag ht (by decide)⟩
 |set ht hc hu=>exact ⟨_,_,rfl,fun _=>Ag ht (by decide),fun _=>Ag ht (by decide),fun _=>Ag ht (by decide)⟩
 |num h | text h | name h=>exact ⟨_,_,rfl,fun _=>AC (by omega) (by omega),fun _=>AC (by omega) (by omega),fun _=>AC (by omega) (by omega)⟩
 |tru h | fls h=>exact ⟨_,_,rfl,fun _=>Ag h (by decide),fun _=>Ag h (by decide),fun _=>Ag h (by decide)⟩
theorem G.free {k:Nat}{c:List Ae}{p:Pt}(g:G k c p):∀ t∈c,see AG t=false∧see Br t=false:=by
 induction g with
 |up hk g a=>exact a
 |ite ht hu b n o q i j id=>
  intro x hx;simp only[zG,zH] at hx;rcases hx with rfl | hx | rfl | hx | rfl | hx
  ·exact ⟨Ag ht (by decide),Ag ht (by decide)⟩
  ·exact i x hx
  ·exact ⟨Ag hu (by decide),Ag hu (by decide)⟩
  ·exact j x hx
  ·exact ⟨Ag b (by decide),Ag b (by decide)⟩
  ·exact id x hx
 |bin hk l ht m d f=>
  intro x hx;simp only[zG,zH] at hx;rcases hx with hx | rfl | hx
  ·exact d x hx
  ·have:=(Dr ht).2.2;exact ⟨this _ (by decide),this _ (by decide)⟩
  ·exact f x hx
 |cmp l ht m d f=>
  intro x hx;simp only[zG,zH] at hx;rcases hx with hx | rfl | hx
  ·exact d x hx
  ·have:=(Dr ht).2.2;exact ⟨this _ (by decide),this _ (by decide)⟩
  ·exact f x hx
 |not ht g a | neg ht g a=>
  intro x hx;rcases zG.1 hx with rfl | hx
  ·exact ⟨Ag ht (by decide),Ag ht (by decide)⟩
  ·exact a x hx
 |par ht g hu a=>
  intro x hx;simp only[zG,zH,zf,or_false] at hx;rcases hx with rfl | hx | rfl
  ·exact ⟨Ag ht (by decide),Ag ht (by decide)⟩
  ·exact a x hx
  ·exact ⟨Ag hu (by decide),Ag hu (by decide)⟩
 |size ht hu g b a=>
  intro x hx;simp only[zG,zH,zf,or_false] at hx;rcases hx with rfl | rfl | hx | rfl
  ·exact ⟨Ag ht (by decide),Ag ht (by decide)⟩
  ·exact ⟨Ag hu (by decide),Ag hu (by decide)⟩
  ·exact a x hx
  ·exact ⟨Ag b (by decide),Ag b (by decide)⟩
 |set ht hc hu=>
  intro x hx;simp only[zG,zH,zf,or_false] at hx;rcases hx with rfl | hx | rfl
  ·exact ⟨Ag ht (by decide),Ag ht (by decide)⟩
  ·rcases hc x hx with e | e
   ·exact ⟨AC (by omega) (by omega),AC (by omega) (by omega)⟩
   ·exact ⟨Ag e (by decide),Ag e (by decide)⟩
  ·exact ⟨Ag hu (by decide),Ag hu (by decide)⟩
 |num h | text h | name h=>
  intro x hx;rw[zJ.1 hx];exact ⟨AC (by omega) (by omega),AC (by omega) (by omega)⟩
 |tru h | fls h=>
  intro x hx;rw[zJ.1 hx];exact ⟨Ag h (by decide),Ag h (by decide)⟩
def Ci (w:List UInt8):List Ae→Int→Int→Int→Int
 | [],_,_,i=>i
 |t ::r,o,d,i=>if see AH t then Ci w r o (d+1) (i+1) else if see AS t then Ci w r o (d - 1) (i+1) else if d=0∧see DO t=true then Ci w r (o+1) d (i+1)
  else if d=0∧see w t=true then (if o - 1=0 then i else Ci w r (o - 1) d (i+1)) else Ci w r o d (i+1)
theorem Ds {w s:List UInt8}{t:Ae}(h:see s t=true)(hs:s ∉ [AH,AS,DO,w])(r:List Ae)(a d i:Int):Ci w (t ::r) a d i=Ci w r a d (i+1):=by
 have e1:=Ag h (s':=AH) (fun e=>hs (by rw[e];simp));have e2:=Ag h (s':=AS) (fun e=>hs (by rw[e];simp));have e3:=Ag h (s':=DO) (fun e=>hs (by rw[e];simp));have e4:=Ag h (s':=w) (fun e=>hs (by rw[e];simp));rw[Ci,e1,e2,e3,e4];simp
theorem Rq {w:List UInt8}{t:Ae}(h4:t.kind≠4)(h5:t.kind≠5)(r:List Ae)(a d i:Int):Ci w (t ::r) a d i=Ci w r a d (i+1):=by
 rw[Ci,AC h4 h5,AC h4 h5,AC h4 h5,AC h4 h5];simp
theorem Mz {w:List UInt8}{t:Ae}(h:see AH t=true)(r:List Ae)(a d i:Int):Ci w (t ::r) a d i=Ci w r a (d+1) (i+1):=by
 rw[Ci,if_pos h]
theorem Kw {w:List UInt8}{t:Ae}(h:see AS t=true)(r:List Ae)(a d i:Int):Ci w (t ::r) a d i=Ci w r a (d - 1) (i+1):=by
 rw[Ci,Ag h (s':=AH) (by decide),if_neg (by decide),if_pos h]
theorem AbT {w:List UInt8}{t:Ae}(h:see DO t=true)(c:w≠DO)(r:List Ae)(b d i:Int):Ci w (t ::r) b d i=Ci w r (if d=0 then b+1 else b) d (i+1):=by
 rw[Ci,Ag h (s':=AH) (by decide),Ag h (s':=AS) (by decide),if_neg (by decide),if_neg (by decide),Ag h (s':=w) (fun e=>c e.symm)];by_cases a:d=0
 ·rw[if_pos ⟨a,h⟩,if_pos a]
 ·rw[if_neg (fun e=>a e.1),if_neg (fun e=>a e.1),if_neg a]
theorem Rt {w:List UInt8}{t:Ae}(h:see w t=true)(c:w ∉ [AH,AS,DO])(r:List Ae)(b d i:Int)(f:d=0→2≤b):Ci w (t ::r) b d i=Ci w r (if d=0 then b - 1 else b) d (i+1):=by
 have e1:=Ag h (s':=AH) (fun e=>c (by rw[e];simp));have e2:=Ag h (s':=AS) (fun e=>c (by rw[e];simp));have e3:=Ag h (s':=DO) (fun e=>c (by rw[e];simp));rw[Ci,e1,e2,e3,if_neg (by decide),if_neg (by decide),if_neg (fun e=>by cases e.2)];by_cases a:d=0
 ·have:=f a;rw[if_pos ⟨a,h⟩,if_pos a,if_neg (by omega)]
 ·rw[if_neg (fun e=>a e.1),if_neg a]
theorem VB {w:List UInt8}{t:Ae}(h:see w t=true)(a:w ∉ [AH,AS,DO])(r:List Ae)(i:Int):Ci w (t ::r) 1 0 i=i:=by
 have e1:=Ag h (s':=AH) (fun e=>a (by rw[e];simp));have e2:=Ag h (s':=AS) (fun e=>a (by rw[e];simp));have e3:=Ag h (s':=DO) (fun e=>a (by rw[e];simp));rw[Ci,e1,e2,e3,if_neg (by decide),if_neg (by decide),if_neg (fun e=>by cases e.2),if_pos ⟨rfl,h⟩,if_pos (by decide)]
theorem Yf (w:List UInt8)(b:w=BE∨w=AK):∀ (c:List Ae),(∀ x∈c,scT x)→∀ (r:List Ae) (a d i:Int),Ci w (c ++r) a d i=Ci w r a d (i+c.length)
 | [],_,r,a,d,i=>by simp
 |t ::c,h,r,a,d,i=>by
  have f:=Yf w b c (fun x hx=>h x (zS _ hx)) r a d (i+1);have e:Ci w (t ::(c ++r)) a d i=Ci w (c ++r) a d (i+1):=by
   rcases h t (zQ ..) with e | e
   ·exact Rq (by omega) (by omega) _ _ _ _
   ·exact Ds e (by rcases b with rfl | rfl <;> decide) _ _ _ _
  rw[List.cons_append,e,f,List.length_cons]
  congr 1
  omega
theorem Yg {w:List UInt8}(b:w=BE∨w=AK){k:Nat}{t:Ae}{op:Int}(h:BZ k t=some op)(r:List Ae)(a d i:Int):Ci w (t ::r) a d i=Ci w r a d (i+1):=by
 obtain ⟨s,h1,h2⟩:=Eu h;refine Ds h2 (fun hm=>Mx h1 ?_) r a d i;rcases b with rfl | rfl <;> (simp only[zG,zf,or_false] at hm ⊢;grind)
theorem G.mat {w:List UInt8}(n:w=BE∨w=AK){k:Nat}{c:List Ae}{p:Pt}(g:G k c p):∀ (r:List Ae) (f d i:Int),1≤f→0≤d→Ci w (c ++r) f d i=Ci w r f d (i+c.length):=by
 have B:w≠DO:=by rcases n with rfl | rfl <;> decide
 have K:w ∉ [AH,AS,DO]:=by rcases n with rfl | rfl <;> decide
 induction g with
 |up hk g o=>exact o
 |@ite t u v a b e L M N ht hu s O P Q C z id=>
  intro r f d i j m;have E:(t ::(a ++u ::(b ++v ::e))) ++r=t ::(a ++(u ::(b ++(v ::(e ++r))))):=by simp
  rw[E,AbT ht B];have A: 1≤(if d=0 then f+1 else f):=by split <;> omega
  rw[C _ _ _ _ A m];rcases n with rfl | rfl
  ·rw[Rt hu (by decide) _ _ _ _ (fun h=>by rw[if_pos h];omega)];have e1:(if d=0 then (if d=0 then f+1 else f) - 1 else (if d=0 then f+1 else f))=f:=by split <;> omega
   rw[e1,z _ _ _ _ j m,Ds s (by decide),id _ _ _ _ j m]
   congr 1
   simp only[List.length_cons,zB];omega
  ·rw[Ds hu (by decide),z _ _ _ _ A m,Rt s (by decide) _ _ _ _ (fun h=>by rw[if_pos h];omega)];have e1:(if d=0 then (if d=0 then f+1 else f) - 1 else (if d=0 then f+1 else f))=f:=by split <;> omega
   rw[e1,id _ _ _ _ j m]
   congr 1
   simp only[List.length_cons,zB];omega
 |@bin k l q t op F H hk I ht J x y=>
  intro r f d i j m;rw[zC,List.cons_append,x _ _ _ _ j m,Yg n ht,y _ _ _ _ j m]
  congr 1
  simp only[List.length_cons,zB];omega
 |@cmp l q t op F H I ht J x y=>
  intro r f d i j m;rw[zC,List.cons_append,x _ _ _ _ j m,Yg n ht,y _ _ _ _ j m]
  congr 1
  simp only[List.length_cons,zB];omega
 |@not t q p ht g o=>
  intro r f d i j m;rw[List.cons_append,Ds ht (by rcases n with rfl | rfl <;> decide),o _ _ _ _ j m]
  congr 1
  simp only[List.length_cons];omega
 |@neg t q p ht g o=>
  intro r f d i j m;rw[List.cons_append,Ds ht (by rcases n with rfl | rfl <;> decide),o _ _ _ _ j m]
  congr 1
  simp only[List.length_cons];omega
 |@par t u q p ht g hu o=>
  intro r f d i j m;rw[List.cons_append,zC,Mz ht,o _ _ _ _ j (by omega),List.cons_append,List.nil_append,Kw hu,show d+1 - 1=d by omega]
  congr 1
  simp only[List.length_cons,zB,List.length_nil];omega
 |@size t u v q p ht hu g s o=>
  intro r f d i j m;rw[List.cons_append,List.cons_append,zC,Ds ht (by rcases n with rfl | rfl <;> decide),Mz hu,o _ _ _ _ j (by omega),List.cons_append,List.nil_append,Kw s,show d+1 - 1=d by omega]
  congr 1
  simp only[List.length_cons,zB,List.length_nil];omega
 |@set t u c ht hc hu=>
  intro r f d i j m;rw[List.cons_append,zC,Ds ht (by rcases n with rfl | rfl <;> decide),Yf w n c hc,List.cons_append,List.nil_append,Ds hu (by rcases n with rfl | rfl <;> decide)]
  congr 1
  simp only[List.length_cons,zB,List.length_nil];omega
 |num h | text h | name h=>
  intro r f d i j m;exact Rq (by omega) (by omega) r f d i
 |tru h | fls h=>
  intro r f d i j m;exact Ds h (by rcases n with rfl | rfl <;> decide) r f d i
structure Ps where
 at_:Nat
 kind:Int
 name:ByteArray
 cond:Option Pt
 grant:Option Pt
inductive DR where
 |ok (g:Option Pt) (r:List Ae)
 |bad (r:List Ae)
def DR.rest:DR→List Ae
 | .ok _ r=>r
 | .bad r=>r
inductive DD (s:List UInt8):List Ae→DR→Prop
 |no {ts:List Ae} (h:AM s ts=false):DD s ts (.bad ts)
 |deny {t u:Ae} {r:List Ae} (h:see s t=true) (hu:see FE u=true):DD s (t ::u ::r) (.ok none r)
 |grant {t:Ae} {r q:List Ae} {e:Pt} (h:see s t=true) (hu:AM FE r=false) (d:D (.beh BA) r (.ok e q)):DD s (t ::r) (.ok (some e) q)
 |grant_bad {t:Ae} {r q:List Ae} (h:see s t=true) (hu:AM FE r=false) (d:D (.beh BA) r (.bad q)):DD s (t ::r) (.bad q)
inductive SR where
 |ok (s:Ps) (r:List Ae)
 |bad (r:List Ae)
def SR.rest:SR→List Ae
 | .ok _ r=>r
 | .bad r=>r
inductive DS:List Ae→SR→Prop
 |let_nil {t:Ae} (h:see Dq t=true):DS [t] (.bad [])
 |let_no {t n:Ae} {r:List Ae} (h:see Dq t=true) (hn:n.kind≠3):DS (t ::n ::r) (.bad (n ::r))
 |let_bad {t n:Ae} {r q:List Ae} (h:see Dq t=true) (hn:n.kind=3) (d:D (.beh QW) r (.bad q)):DS (t ::n ::r) (.bad q)
 |let_end {t n:Ae} {r q:List Ae} {e:Pt} (h:see Dq t=true) (hn:n.kind=3) (d:D (.beh QW) r (.ok e q)) (hq:AM AG q=false):DS (t ::n ::r) (.bad q)
 |let_ {t n u:Ae} {r q:List Ae} {e:Pt} (h:see Dq t=true) (hn:n.kind=3) (d:D (.beh QW) r (.ok e (u ::q))) (hq:see AG u=true):DS (t ::n ::r) (.ok ⟨t.at_,1,n.text,some e,none⟩ q)
 |when_bad {t:Ae} {r q:List Ae} (h:see Bf t=true) (d:D (.beh Bf) (t ::r) (.bad q)):DS (t ::r) (.bad q)
 |when_bad2 {t:Ae} {r q p:List Ae} {e:Pt} (h:see Bf t=true) (d:D (.beh Bf) (t ::r) (.ok e q)) (d2:DD Br q (.bad p)):DS (t ::r) (.bad p)
 |when_end {t:Ae} {r q p:List Ae} {e:Pt} {g:Option Pt} (h:see Bf t=true) (d:D (.beh Bf) (t ::r) (.ok e q)) (d2:DD Br q (.ok g p)) (hq:AM AG p=false):DS (t ::r) (.bad p)
 |when {t u:Ae} {r q p:List Ae} {e:Pt} {g:Option Pt} (h:see Bf t=true) (d:D (.beh Bf) (t ::r) (.ok e q)) (d2:DD Br q (.ok g (u ::p))) (hq:see AG u=true):DS (t ::r) (.ok ⟨t.at_,2,AB [],some e,g⟩ p)
 |else_bad {t:Ae} {r q:List Ae} (h:see AK t=true) (d:DD AK (t ::r) (.bad q)):DS (t ::r) (.bad q)
 |else_end {t:Ae} {r q:List Ae} {g:Option Pt} (h:see AK t=true) (d:DD AK (t ::r) (.ok g q)) (hq:AM AG q=false):DS (t ::r) (.bad q)
 |else_ {t u:Ae} {r q:List Ae} {g:Option Pt} (h:see AK t=true) (d:DD AK (t ::r) (.ok g (u ::q))) (hq:see AG u=true):DS (t ::r) (.ok ⟨t.at_,3,AB [],none,g⟩ q)
 |none {ts:List Ae} (h1:AM Dq ts=false) (h2:AM Bf ts=false) (h3:AM AK ts=false):DS ts (.bad ts)
inductive QR where
 |ok (S:List Ps)
 |bad (r:List Ae)
def QR.res:QR→Option (List Ae)
 | .ok _=>none
 | .bad q=>some q
def QR.cons (s:Ps):QR→QR
 | .ok S=> .ok (s ::S)
 | .bad r=> .bad r
inductive DP:List Ae→QR→Prop
 |bad {ts q:List Ae} (d:DS ts (.bad q)):DP ts (.bad q)
 |more {ts r:List Ae} {s:Ps} {x:QR} (d:DS ts (.ok s r)) (hk:s.kind≠3) (d2:DP r x):DP ts (x.cons s)
 |last {ts:List Ae} {s:Ps} (d:DS ts (.ok s [])) (hk:s.kind=3):DP ts (.ok [s])
 |over {ts r:List Ae} {t:Ae} {s:Ps} (d:DS ts (.ok s (t ::r))) (hk:s.kind=3):DP ts (.bad (t ::r))
theorem D.any (nt:NT)(ts:List Ae)(h:nt.good):∃ x,D nt ts x:=D.total _ nt ts h NLN
theorem DD.total (s:List UInt8)(ts:List Ae):∃ x,DD s ts x:=by
 cases h:AM s ts
 ·exact ⟨_,.no h⟩
 ·cases ts with
  |nil=>cases h
  |cons t r=>
   cases a:AM FE r
   ·obtain ⟨x,d⟩:=D.any (.beh BA) r trivial;cases x with
    |ok e q=>exact ⟨_,.grant h a d⟩
    |bad q=>exact ⟨_,.grant_bad h a d⟩
   ·cases r with
    |nil=>cases a
    |cons u r=>exact ⟨_,.deny h a⟩
theorem DS.total (ts:List Ae):∃ x,DS ts x:=by
 cases h1:AM Dq ts
 case true=>
  cases ts with
  |nil=>cases h1
  |cons t r=>
   cases r with
   |nil=>exact ⟨_,.let_nil h1⟩
   |cons n r=>
    by_cases a:n.kind=3
    ·obtain ⟨x,d⟩:=D.any (.beh QW) r trivial;cases x with
     |bad q=>exact ⟨_,.let_bad h1 a d⟩
     |ok e q=>
      cases hq:AM AG q
      ·exact ⟨_,.let_end h1 a d hq⟩
      ·cases q with
       |nil=>cases hq
       |cons u q=>exact ⟨_,.let_ h1 a d hq⟩
    ·exact ⟨_,.let_no h1 a⟩
 cases h2:AM Bf ts
 case true=>
  cases ts with
  |nil=>cases h2
  |cons t r=>
   obtain ⟨x,d⟩:=D.any (.beh Bf) (t ::r) trivial;cases x with
   |bad q=>exact ⟨_,.when_bad h2 d⟩
   |ok e q=>
    obtain ⟨y,d2⟩:=DD.total Br q;cases y with
    |bad p=>exact ⟨_,.when_bad2 h2 d d2⟩
    |ok g p=>
     cases hq:AM AG p
     ·exact ⟨_,.when_end h2 d d2 hq⟩
     ·cases p with
      |nil=>cases hq
      |cons u p=>exact ⟨_,.when h2 d d2 hq⟩
 cases h3:AM AK ts
 case true=>
  cases ts with
  |nil=>cases h3
  |cons t r=>
   obtain ⟨y,d2⟩:=DD.total AK (t ::r);cases y with
   |bad p=>exact ⟨_,.else_bad h3 d2⟩
   |ok g p=>
    cases hq:AM AG p
    ·exact ⟨_,.else_end h3 d2 hq⟩
    ·cases p with
     |nil=>cases hq
     |cons u p=>exact ⟨_,.else_ h3 d2 hq⟩
 exact ⟨_,.none h1 h2 h3⟩
theorem DD.suf {s:List UInt8}{ts:List Ae}{x:DR}(d:DD s ts x):∃ c,ts=c ++x.rest∧(∀ g r,x= .ok g r→c≠ []):=by
 cases d with
 |no h=>exact ⟨[],rfl,fun _ _ h=>by cases h⟩
 |@deny t u r h hu=>exact ⟨[t,u],rfl,fun _ _ _=>by simp⟩
 |@grant t r q e h hu d=>obtain ⟨c,hc,_⟩:=d.suf;exact ⟨t ::c,by rw[hc];rfl,fun _ _ _=>by simp⟩
 |@grant_bad t r q h hu d=>obtain ⟨c,hc,_⟩:=d.suf;exact ⟨t ::c,by rw[hc];rfl,fun _ _ h=>by cases h⟩
theorem DS.suf {ts:List Ae}{x:SR}(d:DS ts x):∃ c,ts=c ++x.rest∧(∀ g r,x= .ok g r→c≠ []):=by
 cases d with
 |@let_nil t h=>exact ⟨[t],rfl,fun _ _ h=>by cases h⟩
 |@let_no t n r h a=>exact ⟨[t],rfl,fun _ _ h=>by cases h⟩
 |@let_bad t n r q h a d=>obtain ⟨c,hc,_⟩:=d.suf;exact ⟨t ::n ::c,by rw[hc];rfl,fun _ _ h=>by cases h⟩
 |@let_end t n r q e h a d hq=>obtain ⟨c,hc,_⟩:=d.suf;exact ⟨t ::n ::c,by rw[hc];rfl,fun _ _ h=>by cases h⟩
 |@let_ t n u r q e h a d hq=>obtain ⟨c,hc,_⟩:=d.suf;exact ⟨t ::n ::(c ++ [u]),by rw[hc];simp[PR.rest,SR.rest],fun _ _ _=>by simp⟩
 |@when_bad t r q h d=>obtain ⟨c,hc,_⟩:=d.suf;exact ⟨c,hc,fun _ _ h=>by cases h⟩
 |@when_bad2 t r q p e h d d2=>obtain ⟨c,hc,_⟩:=d.suf;obtain ⟨c2,b,_⟩:=d2.suf;dsimp only[PR.rest,DR.rest,SR.rest] at *;exact ⟨c ++c2,by rw[zC,← b];exact hc,fun _ _ h=>by cases h⟩
 |@when_end t r q p e g h d d2 hq=>obtain ⟨c,hc,_⟩:=d.suf;obtain ⟨c2,b,_⟩:=d2.suf;dsimp only[PR.rest,DR.rest,SR.rest] at *;exact ⟨c ++c2,by rw[zC,← b];exact hc,fun _ _ h=>by cases h⟩
 |@when t u r q p e g h d d2 hq=>obtain ⟨c,hc,a⟩:=d.suf;obtain ⟨c2,b,_⟩:=d2.suf;exact ⟨c ++(c2 ++ [u]),by rw[hc];simp only[zC];congr 1,fun _ _ _ h=>a _ _ rfl rfl (List.append_eq_nil_iff.1 h).1⟩
 |@else_bad t r q h d=>obtain ⟨c,hc,_⟩:=d.suf;exact ⟨c,hc,fun _ _ h=>by cases h⟩
 |@else_end t r q g h d hq=>obtain ⟨c,hc,_⟩:=d.suf;exact ⟨c,hc,fun _ _ h=>by cases h⟩
 |@else_ t u r q g h d hq=>obtain ⟨c,hc,_⟩:=d.suf;exact ⟨c ++ [u],by rw[hc];simp[DR.rest,SR.rest],fun _ _ _=>by simp⟩
 |none h1 h2 h3=>exact ⟨[],rfl,fun _ _ h=>by cases h⟩
theorem DP.total:∀ (n:Nat) (ts:List Ae),ts.length≤n→∃ x,DP ts x
 |n,ts,hn=>by
  obtain ⟨x,d⟩:=DS.total ts;cases x with
  |bad q=>exact ⟨_,.bad d⟩
  |ok s r=>
   by_cases hk:s.kind=3
   ·cases r with
    |nil=>exact ⟨_,.last d hk⟩
    |cons t r=>exact ⟨_,.over d hk⟩
   ·obtain ⟨c,hc,a⟩:=d.suf;have h1: 0 < c.length:=List.length_pos_iff.2 (a _ _ rfl);have h2:ts.length=c.length+r.length:=by rw[hc,zB];rfl
    match n with
    | 0=>omega
    |n+1=>
     obtain ⟨y,d2⟩:=DP.total n r (by omega);exact ⟨_,.more d hk d2⟩
theorem DD.run {s:List UInt8}{ts:List Ae}{x:DR}(d:DD s ts x)(hs:s∈Cq)(a:∀ t∈ts,BM t)(st:List Sy)(b:Option (List Ae))(h1:∀ q,x= .bad q→b=some q)(h2:∀ g r,x= .ok g r→Ru st r b):Ru (.t s :: .decision ::st) ts b:=by
 cases d with
 |no h=>rw[h1 _ rfl];exact .term_no (DA a hs h)
 |@deny t u r h hu=>
  have e2:=AT (a u (by simp)) (by decide) hu;exact .term (AT (a t (by simp)) hs h) (.exp (m:= [.t FE]) (by show An .decision (tk u)=_;rw[e2];rfl) (.term e2 (h2 _ _ rfl)))
 |@grant t r q e h hu d=>
  have f:∀ u∈r,BM u:=fun u hu=>a u (by simp[hu]);refine .term (AT (a t (by simp)) hs h) ?_;have j:Ru ([Sy.t BA,Sy.expr] ++st) r b:=d.run (show BA∈Cq by decide) f st b (h2 _ _ rfl);by_cases i:Km r=BA
  ·exact .exp (m:= [.t BA,.expr]) (if_pos i) j
  ·exfalso;obtain ⟨k,c,hc,l,_⟩:=d.tree trivial _ _ rfl;refine i ?_;rw[hc];exact AT (f k (by rw[hc];simp)) (by decide) l
 |@grant_bad t r q h hu d=>
  have f:∀ u∈r,BM u:=fun u hu=>a u (by simp[hu]);refine .term (AT (a t (by simp)) hs h) ?_;have j:Ru ([Sy.t BA,Sy.expr] ++st) r b:=d.run (show BA∈Cq by decide) f st b (h1 _ rfl);by_cases i:Km r=BA
  ·exact .exp (m:= [.t BA,.expr]) (if_pos i) j
  ·refine .exp (m:= [.t FE]) (if_neg i) ?_;have e:q=r:=by
    cases d with
    |beh_no h=>rfl
    |@beh _ k o _ n d1=>exact absurd (AT (f k (by simp)) (by decide) n) i
   rw[h1 _ rfl,e];exact .term_no (DA f (by decide) hu)
theorem GV {c r:List Ae}(h:∀ t∈c ++r,BM t):∀ t∈r,BM t:=fun t ht=>h t (zV _ ht)
theorem DS.run {ts:List Ae}{x:SR}(d:DS ts x)(a:∀ t∈ts,BM t)(b:Option (List Ae))(h1:∀ q,x= .bad q→b=some q)(h2:∀ s r,x= .ok s r→Ru (if s.kind=3 then [] else [.policy]) r b):Ru [.policy] ts b:=by
 have l:An .policy Dq=some [.t Dq,.t Ew,.t QW,.expr,.t AG,.policy]:=rfl;have v:An .policy Bf=some [.t Bf,.expr,.t Br,.decision,.t AG,.policy]:=rfl;have w:An .policy AK=some [.t AK,.decision,.t AG]:=rfl;have z:∀ n:Ae,BM n→n.kind≠3→tk n≠Ew:=fun n i hk e=>by
  rcases i with h | h | h | ⟨h,y⟩
  ·rw[tk,if_pos h] at e;revert e;decide
  ·rw[tk,if_neg (by omega),if_pos h] at e;revert e;decide
  ·exact hk h
  ·have:tk n=Aj n.text:=by rcases h with h | h <;> simp[tk,h]
   rw[← this,e] at y;revert y;decide
 cases d with
 |@let_nil t h=>
  have e1:=AT (a t (by simp)) (by decide) h;have h3:Ru [.t Ew,.t QW,.expr,.t AG,.policy] [] b:=by rw[h1 _ rfl];exact .term_no (by decide)
  exact .exp (by show An .policy (tk t)=_;rw[e1];exact l) (.term e1 h3)
 |@let_no t n r h i=>
  have e1:=AT (a t (by simp)) (by decide) h;have h3:Ru [.t Ew,.t QW,.expr,.t AG,.policy] (n ::r) b:=by rw[h1 _ rfl];exact .term_no (z n (a n (by simp)) i)
  exact .exp (by show An .policy (tk t)=_;rw[e1];exact l) (.term e1 h3)
 |@let_bad t n r q h i d=>
  have e1:=AT (a t (by simp)) (by decide) h;have e2:tk n=Ew:=by rw[tk,i];rfl
  have f:Ru ([Sy.t QW,Sy.expr] ++ [.t AG,.policy]) r b:=d.run (show QW∈Cq by decide) (fun u hu=>a u (by simp[hu])) _ _ (h1 _ rfl);exact .exp (by show An .policy (tk t)=_;rw[e1];exact l) (.term e1 (.term e2 f))
 |@let_end t n r q e h i d hq=>
  have e1:=AT (a t (by simp)) (by decide) h;have e2:tk n=Ew:=by rw[tk,i];rfl
  have o:∀ u∈r,BM u:=fun u hu=>a u (by simp[hu]);have f:Ru ([Sy.t QW,Sy.expr] ++ [.t AG,.policy]) r b:=d.run (show QW∈Cq by decide) o _ _ (by
   show Ru _ q b;rw[h1 _ rfl];exact .term_no (DA (BC d o) (by decide) hq))
  exact .exp (by show An .policy (tk t)=_;rw[e1];exact l) (.term e1 (.term e2 f))
 |@let_ t n u r q e h i d hq=>
  have e1:=AT (a t (by simp)) (by decide) h;have e2:tk n=Ew:=by rw[tk,i];rfl
  have o:∀ u∈r,BM u:=fun u hu=>a u (by simp[hu]);have hu:=BC d o u (by simp[PR.rest]);have f:Ru ([Sy.t QW,Sy.expr] ++ [.t AG,.policy]) r b:=d.run (show QW∈Cq by decide) o _ _ (by
   show Ru _ (u ::q) b;exact .term (AT hu (by decide) hq) (h2 _ _ rfl))
  exact .exp (by show An .policy (tk t)=_;rw[e1];exact l) (.term e1 (.term e2 f))
 |@when_bad t r q h d=>
  have e1:=AT (a t (by simp)) (by decide) h;have f:Ru ([Sy.t Bf,Sy.expr] ++ [.t Br,.decision,.t AG,.policy]) (t ::r) b:=d.run (show Bf∈Cq by decide) a _ _ (h1 _ rfl);exact .exp (by show An .policy (tk t)=_;rw[e1];exact v) f
 |@when_bad2 t r q p e h d d2=>
  have e1:=AT (a t (by simp)) (by decide) h;have hq:=BC d a;have h3:Ru (.t Br :: .decision :: [.t AG,.policy]) q b:=d2.run (by decide) hq _ _ (fun _ e=>h1 _ (by cases e;rfl)) (fun _ _ e=>by cases e);have f:Ru ([Sy.t Bf,Sy.expr] ++ [.t Br,.decision,.t AG,.policy]) (t ::r) b:=d.run (show Bf∈Cq by decide) a _ _ h3;exact .exp (by show An .policy (tk t)=_;rw[e1];exact v) f
 |@when_end t r q p e g h d d2 hq=>
  have e1:=AT (a t (by simp)) (by decide) h;have j:∀ u∈q,BM u:=BC d a;have k:∀ u∈p,BM u:=by obtain ⟨c,hc,_⟩:=d2.suf;rw[hc] at j;exact GV j
  have h3:Ru (.t Br :: .decision :: [.t AG,.policy]) q b:=d2.run (by decide) j _ _ (fun _ e=>by cases e) (fun _ _ e=>by cases e;rw[h1 _ rfl];exact .term_no (DA k (by decide) hq));have f:Ru ([Sy.t Bf,Sy.expr] ++ [.t Br,.decision,.t AG,.policy]) (t ::r) b:=d.run (show Bf∈Cq by decide) a _ _ h3;exact .exp (by show An .policy (tk t)=_;rw[e1];exact v) f
 |@when t u r q p e g h d d2 hq=>
  have e1:=AT (a t (by simp)) (by decide) h;have j:∀ u∈q,BM u:=BC d a;have k:∀ x∈u ::p,BM x:=by obtain ⟨c,hc,_⟩:=d2.suf;rw[hc] at j;exact GV j
  have h3:Ru (.t Br :: .decision :: [.t AG,.policy]) q b:=d2.run (by decide) j _ _ (fun _ e=>by cases e) (fun _ _ e=>by cases e;exact .term (AT (k u (by simp)) (by decide) hq) (h2 _ _ rfl));have f:Ru ([Sy.t Bf,Sy.expr] ++ [.t Br,.decision,.t AG,.policy]) (t ::r) b:=d.run (show Bf∈Cq by decide) a _ _ h3;exact .exp (by show An .policy (tk t)=_;rw[e1];exact v) f
 |@else_bad t r q h d=>
  have e1:=AT (a t (by simp)) (by decide) h;exact .exp (by show An .policy (tk t)=_;rw[e1];exact w) (d.run (by decide) a _ _ (fun _ e=>h1 _ (by cases e;rfl)) (fun _ _ e=>by cases e))
 |@else_end t r q g h d hq=>
  have e1:=AT (a t (by simp)) (by decide) h;have k:∀ u∈q,BM u:=by obtain ⟨c,hc,_⟩:=d.suf;rw[hc] at a;exact GV a
  have h3:Ru (.t AK :: .decision :: [.t AG]) (t ::r) b:=d.run (by decide) a _ _ (fun _ e=>by cases e) (fun _ _ e=>by cases e;rw[h1 _ rfl];exact .term_no (DA k (by decide) hq));exact .exp (by show An .policy (tk t)=_;rw[e1];exact w) h3
 |@else_ t u r q g h d hq=>
  have e1:=AT (a t (by simp)) (by decide) h;have k:∀ x∈u ::q,BM x:=by obtain ⟨c,hc,_⟩:=d.suf;rw[hc] at a;exact GV a
  have h3:Ru (.t AK :: .decision :: [.t AG]) (t ::r) b:=d.run (by decide) a _ _ (fun _ e=>by cases e) (fun _ _ e=>by cases e;exact .term (AT (k u (by simp)) (by decide) hq) (h2 _ _ rfl));exact .exp (by show An .policy (tk t)=_;rw[e1];exact w) h3
 |none A B C=>
  have E:=DA a (by decide) A;have F:=DA a (by decide) B;have H:=DA a (by decide) C;rw[h1 _ rfl];exact .exp (m:= [.t AK,.decision,.t AG]) (by rw[An,if_neg E,if_neg F]) (.term_no H)
theorem DP.run {ts:List Ae}{x:QR}(d:DP ts x):(∀ t∈ts,BM t)→Ru [.policy] ts x.res:=by
 induction d with
 |bad d=>intro a;exact d.run a _ (fun _ e=>by cases e;rfl) (fun _ _ e=>by cases e)
 |@more ts r s x d hk d2 b=>
  intro a;have f:∀ t∈r,BM t:=by obtain ⟨c,hc,_⟩:=d.suf;rw[hc] at a;exact GV a
  have h3:=b f;refine d.run a _ (fun _ e=>by cases e) (fun _ _ e=>by cases e;rw[if_neg hk];cases x <;> exact h3)
 |last d hk=>intro a;exact d.run a _ (fun _ e=>by cases e) (fun _ _ e=>by cases e;rw[if_pos hk];exact ⟨0,.fin⟩)
 |over d hk=>intro a;exact d.run a _ (fun _ e=>by cases e) (fun _ _ e=>by cases e;rw[if_pos hk];exact ⟨0,.over⟩)
inductive GC:List Ae→Option Pt→Prop
 |deny {t:Ae} (h:see FE t=true):GC [t] none
 |grant {t:Ae} {c:List Ae} {p:Pt} (h:see BA t=true) (g:G 0 c p):GC (t ::c) (some p)
inductive SC:List Ae→Ps→Prop
 |let_ {t n e:Ae} {c:List Ae} {p:Pt} (h:see Dq t=true) (hn:n.kind=3) (he:see QW e=true) (g:G 0 c p):SC (t ::n ::e ::c) ⟨t.at_,1,n.text,some p,none⟩
 |when {t a:Ae} {c d:List Ae} {p:Pt} {g:Option Pt} (h:see Bf t=true) (gc:G 0 c p) (ha:see Br a=true) (gd:GC d g):SC (t ::(c ++a ::d)) ⟨t.at_,2,AB [],some p,g⟩
 |else_ {t:Ae} {d:List Ae} {g:Option Pt} (h:see AK t=true) (gd:GC d g):SC (t ::d) ⟨t.at_,3,AB [],none,g⟩
inductive PC:List Ae→List Ps→Prop
 |nil:PC [] []
 |cons {c r:List Ae} {u:Ae} {s:Ps} {S:List Ps} (sc:SC c s) (hu:see AG u=true) (pc:PC r S):PC (c ++u ::r) (s ::S)
theorem DD.cut {s:List UInt8}{ts:List Ae}{x:DR}(d:DD s ts x){g:Option Pt}{r:List Ae}(hx:x= .ok g r):∃ t c,ts=t ::(c ++r)∧see s t=true∧GC c g:=by
 cases d with
 |no h=>cases hx
 |@deny t u r h hu=>cases hx;exact ⟨t, [u],rfl,h,.deny hu⟩
 |@grant t r q e h hu d=>
  cases hx;obtain ⟨a,c,hc,hs,b⟩:=d.tree trivial _ _ rfl;exact ⟨t,a ::c,by rw[hc];rfl,h,.grant hs b⟩
 |grant_bad=>cases hx
theorem DS.cut {ts:List Ae}{x:SR}(d:DS ts x){s:Ps}{r:List Ae}(hx:x= .ok s r):∃ c u,ts=c ++u ::r∧see AG u=true∧SC c s:=by
 cases d with
 |@let_ t n u r q e h k d hq=>
  cases hx;obtain ⟨i,c,hc,hs,f⟩:=d.tree trivial _ _ rfl;exact ⟨t ::n ::i ::c,u,by rw[hc];rfl,hq,.let_ h k hs f⟩
 |@when t u r q p e g h d d2 hq=>
  cases hx;obtain ⟨i,c,hc,hs,f⟩:=d.tree trivial _ _ rfl;obtain ⟨a,c2,b,j,g2⟩:=d2.cut rfl;injection hc with h0 hc;subst h0;exact ⟨t ::(c ++a ::c2),u,by rw[hc,b];simp,hq,.when h f j g2⟩
 |@else_ t u r q g h d hq=>
  cases hx;obtain ⟨a,c2,b,j,g2⟩:=d.cut rfl;injection b with h0 b;subst h0;exact ⟨t ::c2,u,by rw[b];simp,hq,.else_ h g2⟩
 |_=>cases hx
theorem DP.cut {ts:List Ae}{x:QR}(d:DP ts x):∀ S,x= .ok S→PC ts S:=by
 induction d with
 |bad=>intro S h;cases h
 |over=>intro S h;cases h
 |@more ts r s x d hk d2 b=>
  intro S h;cases x with
  |bad=>cases h
  |ok T=>
   cases h;obtain ⟨c,u,hc,hu,a⟩:=d.cut rfl;rw[hc];exact .cons a hu (b T rfl)
 |@last ts s d hk=>
  intro S h;cases h;obtain ⟨c,u,hc,hu,a⟩:=d.cut rfl;rw[hc];exact .cons a hu .nil
def Kx:List Ae→List ByteArray
 | []=> []
 |t ::r=>if see Bp t then [] else if t.kind=2 then t.text ::Kx r else Kx r
def Dt:List Ae→List (Nat × List ByteArray)
 | []=> []
 |t ::r=>if see Ch t then (t.at_,Kx r) ::Dt r else Dt r
def Pt.sets:Pt→List (Nat × List ByteArray)
 | .set i ss=> [(i,ss)]
 | .un _ _ k=>k.sets
 | .bin _ _ l r=>l.sets ++r.sets
 | .ite _ c t e=>c.sets ++(t.sets ++e.sets)
 |_=> []
theorem PW:∀ (c:List Ae),(∀ x∈c,scT x)→∀ (u:Ae) (r:List Ae),see Bp u=true→Kx (c ++u ::r)=IL c
 | [],_,u,r,hu=>by rw[List.nil_append,Kx,if_pos hu];rfl
 |t ::c,h,u,r,hu=>by
  have a:=PW c (fun x hx=>h x (zS _ hx)) u r hu;have b:see Bp t=false:=by
   rcases h t (zQ ..) with e | e
   ·exact AC (by omega) (by omega)
   ·exact Ag e (by decide)
  rw[List.cons_append,Kx,b,IL,a];rfl
theorem AV {t:Ae}(h:see Ch t=false)(r:List Ae):Dt (t ::r)=Dt r:=by
 rw[Dt,h];rfl
theorem Rv:∀ (c:List Ae),(∀ x∈c,scT x)→∀ (r:List Ae),Dt (c ++r)=Dt r
 | [],_,r=>rfl
 |t ::c,h,r=>by
  have a:=Rv c (fun x hx=>h x (zS _ hx)) r;have b:see Ch t=false:=by
   rcases h t (zQ ..) with e | e
   ·exact AC (by omega) (by omega)
   ·exact Ag e (by decide)
  rw[List.cons_append,AV b,a]
theorem G.sets {k:Nat}{c:List Ae}{p:Pt}(g:G k c p):∀ (r:List Ae),Dt (c ++r)=p.sets ++Dt r:=by
 induction g with
 |up hk g a=>exact a
 |ite ht hu b n o q i j id=>
  intro r;rw[List.cons_append,AV (Ag ht (by decide)),zC,i,List.cons_append,AV (Ag hu (by decide)),zC,j,List.cons_append,AV (Ag b (by decide)),id,Pt.sets];simp
 |bin hk l ht m d f=>
  intro r;rw[zC,d,List.cons_append,AV ((Dr ht).2.2 _ (by decide)),f,Pt.sets,zC]
 |cmp l ht m d f=>
  intro r;rw[zC,d,List.cons_append,AV ((Dr ht).2.2 _ (by decide)),f,Pt.sets,zC]
 |not ht g a=>intro r;rw[List.cons_append,AV (Ag ht (by decide)),a,Pt.sets]
 |neg ht g a=>intro r;rw[List.cons_append,AV (Ag ht (by decide)),a,Pt.sets]
 |par ht g hu a=>intro r;rw[List.cons_append,AV (Ag ht (by decide)),zC,a,List.cons_append,List.nil_append,AV (Ag hu (by decide))]
 |size ht hu g b a=>intro r;rw[List.cons_append,List.cons_append,AV (Ag ht (by decide)),AV (Ag hu (by decide)),zC,a,List.cons_append,List.nil_append,AV (Ag b (by decide)),Pt.sets]
 |@set t u c ht hc hu=>
  intro r;rw[List.cons_append,Dt,if_pos ht,zC,List.cons_append,List.nil_append,PW c hc u r hu,Rv c hc,AV (Ag hu (by decide))];rfl
 |num h | text h | name h=>intro r;exact AV (AC (by omega) (by omega)) r
 |tru h | fls h=>intro r;exact AV (Ag h (by decide)) r
def N6:Option Pt→List (Nat × List ByteArray)
 |none=> []
 |some p=>p.sets
def Ps.sets (s:Ps):List (Nat × List ByteArray):=N6 s.cond ++N6 s.grant
theorem GC.sets {c:List Ae}{g:Option Pt}(h:GC c g)(r:List Ae):Dt (c ++r)=N6 g ++Dt r:=by
 cases h with
 |deny h=>exact AV (Ag h (by decide)) r
 |grant h g=>rw[List.cons_append,AV (Ag h (by decide)),g.sets];rfl
theorem SC.sets {c:List Ae}{s:Ps}(h:SC c s)(r:List Ae):Dt (c ++r)=s.sets ++Dt r:=by
 cases h with
 |let_ h f he g=>rw[List.cons_append,List.cons_append,List.cons_append,AV (Ag h (by decide)),AV (AC (by omega) (by omega)),AV (Ag he (by decide)),g.sets];simp[Ps.sets,N6]
 |when h b d a=>rw[List.cons_append,AV (Ag h (by decide)),zC,b.sets,List.cons_append,AV (Ag d (by decide)),a.sets];simp[Ps.sets,N6]
 |else_ h a=>rw[List.cons_append,AV (Ag h (by decide)),a.sets];simp[Ps.sets,N6]
theorem PC.sets {ts:List Ae}{S:List Ps}(h:PC ts S):Dt ts=S.flatMap Ps.sets:=by
 induction h with
 |nil=>rfl
 |cons a hu c b=>rw[a.sets,AV (Ag hu (by decide)),b];rfl
theorem GC.free {c:List Ae}{g:Option Pt}(h:GC c g):∀ t∈c,see AG t=false:=by
 cases h with
 |deny h=>intro x hx;rw[zJ.1 hx];exact Ag h (by decide)
 |grant h g=>
  intro x hx;rcases zG.1 hx with rfl | hx
  ·exact Ag h (by decide)
  ·exact (g.free x hx).1
theorem SC.free {c:List Ae}{s:Ps}(h:SC c s):∀ t∈c,see AG t=false:=by
 cases h with
 |let_ h f he g=>
  intro x hx;rcases zG.1 hx with rfl | hx
  ·exact Ag h (by decide)
  rcases zG.1 hx with rfl | hx
  ·exact AC (by omega) (by omega)
  rcases zG.1 hx with rfl | hx
  ·exact Ag he (by decide)
  ·exact (g.free x hx).1
 |when h b d a=>
  intro x hx;rcases zG.1 hx with rfl | hx
  ·exact Ag h (by decide)
  rcases zH.1 hx with hx | hx
  ·exact (b.free x hx).1
  rcases zG.1 hx with rfl | hx
  ·exact Ag d (by decide)
  ·exact a.free x hx
 |else_ h a=>
  intro x hx;rcases zG.1 hx with rfl | hx
  ·exact Ag h (by decide)
  ·exact a.free x hx
def Sy.wt:Sy→Nat
 | .policy=>3 | .decision=>1 | .expr=>6 | .orMore=>1 | .and_=>5 | .andMore=>1 | .not_=>4 | .compared=>1 | .sum=>3 | .sumMore=>1
 | .term=>2 | .termMore=>1 | .unary=>1 | .primary=>1 | .scopes=>2 | .scopesMore=>1 | .scope=>1 | .t _=>1
def NR:List Sy→Nat
 | []=>0
 |x ::st=>x.wt+NR st
theorem Ql:∀ (a b:List Sy),NR (a ++b)=NR a+NR b
 | [],b=>by simp[NR]
 |x ::a,b=>by rw[List.cons_append,NR,NR,Ql a b];omega
theorem VJ:∀ (st:List Sy),st.length≤NR st
 | []=>by simp[NR]
 |x ::st=>by
  have:=VJ st;have h1: 1≤x.wt:=by cases x <;> simp[Sy.wt]
  rw[List.length_cons,NR];omega
theorem Ab0 {x:Sy}{t:List UInt8}{m:List Sy}(h:An x t=some m):NR m≤x.wt∨(t≠ []∧(∃ a,m= .t t ::a)∧NR m≤x.wt+15):=by
 cases x with
 |t s=>cases h
 |scope=>cases h
 |and_=>cases h;left;decide
 |sum=>cases h;left;decide
 |term=>cases h;left;decide
 |policy=>
  simp only[An] at h;split at h
  ·rename_i e;cases h;subst e;right;exact ⟨by decide,⟨_,rfl⟩,by decide⟩
  ·split at h
   ·rename_i e;cases h;subst e;right;exact ⟨by decide,⟨_,rfl⟩,by decide⟩
   ·cases h;left;decide
 |decision=>
  simp only[An] at h;split at h
  ·rename_i e;cases h;subst e;right;exact ⟨by decide,⟨_,rfl⟩,by decide⟩
  ·cases h;left;decide
 |expr=>
  simp only[An] at h;split at h
  ·rename_i e;cases h;subst e;right;exact ⟨by decide,⟨_,rfl⟩,by decide⟩
  ·cases h;left;decide
 |orMore=>
  simp only[An] at h;split at h
  ·rename_i e;cases h;subst e;right;exact ⟨by decide,⟨_,rfl⟩,by decide⟩
  ·cases h;left;decide
 |andMore=>
  simp only[An] at h;split at h
  ·rename_i e;cases h;subst e;right;exact ⟨by decide,⟨_,rfl⟩,by decide⟩
  ·cases h;left;decide
 |not_=>
  simp only[An] at h;split at h
  ·rename_i e;cases h;subst e;right;exact ⟨by decide,⟨_,rfl⟩,by decide⟩
  ·cases h;left;decide
 |compared=>
  simp only[An] at h;split at h
  ·rename_i e;cases h;right;exact ⟨fun h0=>(by rw[h0] at e;revert e;decide),⟨_,rfl⟩,by simp[NR,Sy.wt]⟩
  ·cases h;left;decide
 |sumMore=>
  simp only[An] at h;split at h
  ·rename_i e;cases h;right;exact ⟨fun h0=>(by rw[h0] at e;revert e;decide),⟨_,rfl⟩,by simp[NR,Sy.wt]⟩
  ·cases h;left;decide
 |termMore=>
  simp only[An] at h;split at h
  ·rename_i e;cases h;right;exact ⟨fun h0=>(by rw[h0] at e;revert e;decide),⟨_,rfl⟩,by simp[NR,Sy.wt]⟩
  ·cases h;left;decide
 |unary=>
  simp only[An] at h;split at h
  ·rename_i e;cases h;subst e;right;exact ⟨by decide,⟨_,rfl⟩,by decide⟩
  ·cases h;left;decide
 |primary=>
  simp only[An] at h;split at h
  ·rename_i e;cases h;subst e;right;exact ⟨by decide,⟨_,rfl⟩,by decide⟩
  ·split at h
   ·rename_i e;cases h;subst e;right;exact ⟨by decide,⟨_,rfl⟩,by decide⟩
   ·split at h
    ·rename_i e;cases h;subst e;right;exact ⟨by decide,⟨_,rfl⟩,by decide⟩
    ·split at h
     ·cases h;left;simp[NR,Sy.wt]
     ·cases h;left;decide
 |scopes=>
  simp only[An] at h;split at h
  ·cases h;left;decide
  ·cases h;left;decide
 |scopesMore=>
  simp only[An] at h;split at h
  ·rename_i e;cases h;subst e;right;exact ⟨by decide,⟨_,rfl⟩,by decide⟩
  ·cases h;left;decide
def Qm (B:Nat) (st:List Sy) (ts:List Ae):Prop:=
 NR st+14 * ts.length≤B∨(ts≠ []∧(∃ st',st= .t (Km ts) ::st')∧NR st+14 * ts.length≤B+15)
theorem Qm.len {B:Nat}{st:List Sy}{ts:List Ae}(h:Qm B st ts):st.length≤B+15:=by
 have:=VJ st;rcases h with h | ⟨_,_,h⟩ <;> omega
theorem Qm.exp {B:Nat}{x:Sy}{st m:List Sy}{ts:List Ae}(h:Qm B (x ::st) ts)(he:An x (Km ts)=some m):Qm B (m ++st) ts:=by
 have h1:NR (x ::st)+14 * ts.length≤B:=by
  rcases h with h | ⟨_,⟨b,e⟩,_⟩
  ·exact h
  ·injection e with e1 e2;rw[e1] at he;cases he
 rw[NR] at h1;rcases Ab0 he with h2 | ⟨h2,⟨a,h3⟩,h4⟩
 ·exact .inl (by rw[Ql];omega)
 ·refine .inr ⟨fun e=>h2 (by rw[e];rfl),⟨a ++st,by rw[h3];rfl⟩,by rw[Ql];omega⟩
theorem Qm.pop {B:Nat}{x:Sy}{st:List Sy}{t:Ae}{r:List Ae}(h:Qm B (x ::st) (t ::r)):Qm B st r:=by
 have hx: 1≤x.wt:=by cases x <;> simp[Sy.wt]
 refine .inl ?_;rcases h with h | ⟨_,_,h⟩ <;> (rw[NR,List.length_cons] at h;omega)
def okY:Sy→Prop
 | .t s=>s∈Cq∨s=N8∨s=Fe∨s=Ew
 |_=>True
instance (x:Sy):Decidable (okY x):=by cases x <;> (unfold okY;infer_instance)
theorem YI {x:Sy}{t:List UInt8}{m:List Sy}(h:An x t=some m):∀ y∈m,okY y:=by
 have a:∀ k,t∈A9 k→okY (.t t):=fun k hk=> .inl (JB hk);cases x with
 |t s=>cases h
 |scope=>cases h
 |and_=>cases h;decide
 |sum=>cases h;decide
 |term=>cases h;decide
 |compared=>
  simp only[An] at h;split at h
  ·rename_i e;cases h;intro y hy;simp only[zG,zf,or_false] at hy;rcases hy with rfl | rfl;exact a _ e;trivial
  ·cases h;decide
 |sumMore=>
  simp only[An] at h;split at h
  ·rename_i e;cases h;intro y hy;simp only[zG,zf,or_false] at hy;rcases hy with rfl | rfl | rfl;exact a _ e;trivial;trivial
  ·cases h;decide
 |termMore=>
  simp only[An] at h;split at h
  ·rename_i e;cases h;intro y hy;simp only[zG,zf,or_false] at hy;rcases hy with rfl | rfl | rfl;exact a _ e;trivial;trivial
  ·cases h;decide
 |primary=>
  simp only[An] at h;split at h
  ·cases h;decide
  ·split at h
   ·cases h;decide
   ·split at h
    ·cases h;decide
    ·split at h
     ·rename_i e;cases h;intro y hy;rw[zJ.1 hy];rcases e with rfl | rfl | rfl | rfl <;> decide
     ·cases h;decide
 |policy=>
  simp only[An] at h;split at h
  ·cases h;decide
  ·split at h <;> (cases h;decide)
 |_=>
  simp only[An] at h;split at h <;> (cases h;decide)
def YJ (T:List Ae):Option (List Ae)→Int
 |none=>-1
 |some q=>(T.length:Int) - (q.length:Int)
set_option maxHeartbeats 800000
theorem WN (a:Option Addr)(n c:Nat)(d:List ByteArray)(s:ByteArray)(w:World)(h:BL w a n c d):
  Calls Tryz.prog 116 #[.slice a n c,.string s] w fun e w'=>e= .returned (.bool (Uq d s))∧w'=w:=by
 have r:n≤9223372036854775807:=by have:=h.cap;have:=h.small;unfold maxLen at this;omega
 go_enter Tryz.func116,Tryz.ntmps116
 go_wp2
 go_loop [6,9] (fun _ i=>∃ k:Nat,k≤n∧i= .int .i64 k∧∀ j,j < k→eqS (D0 d j) s=false) (fun _ i=>n - (intOf i).toNat)
 case atStart=>exact ⟨0,zN _,rfl,fun j f=>by omega⟩
 case round=>
  obtain ⟨k,hk,rfl,g⟩:=hrel;have l:=Ab g;clear g;by_cases o:k < n
  ·obtain ⟨b,t,p,_,hc⟩:=h.cells k o;subst p;cases m:((D0 d k).toList== s.toList)
   ·go_wp2
    go_round
    case rel=>
     refine ⟨k+1,by omega,by go_num,fun j f=>?_⟩
     by_cases e:j=k
     ·subst e;exact m
     ·exact Aa l j (by omega)
    case measure=>simp[intOf];omega
   ·have q:=Ab (AaZ d s k (by have:=h.len;omega) m);go_wp2
    go_ret
    exact ⟨Ah (Aa q).symm,rfl⟩
  ·go_wp2
   go_ret
   exact ⟨Ah (Xs d s fun j f=>Aa l j (by have:=h.len;omega)).symm,rfl⟩
end Go.Proofs.YtffkofkjpckmpaaGreatDoor
