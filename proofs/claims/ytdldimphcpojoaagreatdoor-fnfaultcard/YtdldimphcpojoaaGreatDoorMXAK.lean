/-
  VPD, LawsE, Mark, Own0, OwnM, GC. Own work.
-/
import Derived.Test.YtdldimphcpojoaaGreatDoorMXAC
import Derived.Test.YtdldimphcpojoaaGreatDoorMXAA
import Derived.Test.YtdldimphcpojoaaGreatDoorMXAJ
namespace Go.Proofs.YtdldimphcpojoaaGreatDoor
open Go.RowKit
set_option linter.unusedVariables false
def Ia:Array Value:=#[.int .i64 26,.int .i64 1,.string ⟨#[111,114]⟩,.int .i64 25,.int .i64 2,.string ⟨#[97,110,100]⟩,.int .i64 19,.int .i64 4,.string ⟨#[61,61]⟩,.int .i64 20,.int .i64 4,.string ⟨#[33,61]⟩,.int .i64 21,.int .i64 4,.string ⟨#[60]⟩,.int .i64 22,.int .i64 4,.string ⟨#[60,61]⟩,.int .i64 23,.int .i64 4,.string ⟨#[105,110]⟩,.int .i64 24,.int .i64 4,.string ⟨#[119,105,116,104,105,110]⟩,.int .i64 11,.int .i64 5,.string ⟨#[43]⟩,.int .i64 12,.int .i64 5,.string ⟨#[45]⟩,.int .i64 16,.int .i64 5,.string ⟨#[124]⟩,.int .i64 18,.int .i64 5,.string ⟨#[92]⟩,.int .i64 13,.int .i64 6,.string ⟨#[42]⟩,.int .i64 14,.int .i64 6,.string ⟨#[47]⟩,.int .i64 15,.int .i64 6,.string ⟨#[37]⟩,.int .i64 17,.int .i64 6,.string ⟨#[38]⟩]
structure Zq where
 op:Int
 lv:Int
 text:ByteArray
def FL:Nat→Zq
 | 0=>⟨26,1,⟨#[111,114]⟩⟩
 | 1=>⟨25,2,⟨#[97,110,100]⟩⟩
 | 2=>⟨19,4,⟨#[61,61]⟩⟩
 | 3=>⟨20,4,⟨#[33,61]⟩⟩
 | 4=>⟨21,4,⟨#[60]⟩⟩
 | 5=>⟨22,4,⟨#[60,61]⟩⟩
 | 6=>⟨23,4,⟨#[105,110]⟩⟩
 | 7=>⟨24,4,⟨#[119,105,116,104,105,110]⟩⟩
 | 8=>⟨11,5,⟨#[43]⟩⟩
 | 9=>⟨12,5,⟨#[45]⟩⟩
 | 10=>⟨16,5,⟨#[124]⟩⟩
 | 11=>⟨18,5,⟨#[92]⟩⟩
 | 12=>⟨13,6,⟨#[42]⟩⟩
 | 13=>⟨14,6,⟨#[47]⟩⟩
 | 14=>⟨15,6,⟨#[37]⟩⟩
 | 15=>⟨17,6,⟨#[38]⟩⟩
 | _=>⟨0,0,⟨#[]⟩⟩
theorem NQ:∀ k,k < 16→Ia.extract (k * 3) (k * 3+3)= #[.int .i64 (FL k).op,.int .i64 (FL k).lv,.string (FL k).text]
 | 0,_=>rfl
 | 1,_=>rfl
 | 2,_=>rfl
 | 3,_=>rfl
 | 4,_=>rfl
 | 5,_=>rfl
 | 6,_=>rfl
 | 7,_=>rfl
 | 8,_=>rfl
 | 9,_=>rfl
 | 10,_=>rfl
 | 11,_=>rfl
 | 12,_=>rfl
 | 13,_=>rfl
 | 14,_=>rfl
 | 15,_=>rfl
 | n+16,h=>absurd h (by omega)
theorem Qq {w:World}{b:Nat}{a c d:Value}{t:TypeId}(R:An w b #[a,c,d] t):w.cell? ⟨b,0,none⟩=some a∧w.cell? ⟨b,1,none⟩=some c∧w.cell? ⟨b,2,none⟩=some d∧∀ j,w.frozen? ⟨b,j,none⟩=false:=
 ⟨R.cell 0,R.cell 1,R.cell 2,fun j=>R.frozen j⟩
theorem Sg {d:Func}{a b:Tmp}(h:d.results= #[.cell a 220,.tmp b]){c:Array Value}{w:World}{g:Nat}{f i j u:Value}(k:c.getD a undef= .pointer (some ⟨g,0,none⟩))(l:c.getD b undef=u)
  (m:w.cell? ⟨g,0,none⟩=some f)(g1:w.cell? ⟨g,1,none⟩=some i)(g2:w.cell? ⟨g,2,none⟩=some j):
  (results d c).run Tryz.prog w= .ok (.tuple #[.agg #[f,i,j],u]) w:=by
 rw[Array.getD_eq_getD_getElem?] at k l;simp[results,h,k,l,go_sem,m,g1,g2]
structure Ai (lo hi:Nat) (w w':World):Prop where
 os:w'.os=w.os
 tape:w'.tape=w.tape
 output:w'.output=w.output
 size:w.heap.size≤w'.heap.size
 block:∀ k,k < w.heap.size→(k < lo∨hi≤k)→w'.heap[k]? =w.heap[k]?
theorem Ai.refl (lo hi:Nat)(w:World):Ai lo hi w w:=⟨rfl,rfl,rfl,NLN,fun _ _ _=>rfl⟩
theorem Ai.trans {lo hi:Nat}{a b c:World}(h:Ai lo hi a b)(k:Ai lo hi b c):Ai lo hi a c:=
 ⟨k.os.trans h.os,k.tape.trans h.tape,k.output.trans h.output,Nat.le_trans h.size k.size,fun i hi d=>(k.block i (Nat.lt_of_lt_of_le hi h.size) d).trans (h.block i hi d)⟩
theorem Ai.of_below {lo hi B:Nat}{w w':World}(h:Below B w w')(a:w.heap.size≤B):Ai lo hi w w':=
 ⟨h.os,h.tape,h.output,h.size,fun k hk _=>h.block k (by omega)⟩
theorem Ai.setCell {lo hi:Nat}(w:World)(p:Addr)(u:Value)(h1:lo≤p.block)(h2:p.block < hi):Ai lo hi w (w.setCell p u):=
 ⟨rfl,rfl,rfl,by simp,fun k _ hk=>heap_setCell_other w p k u (by omega)⟩
theorem BR {B lo hi:Nat}{w a b:World}(h:Below B w a)(t:Ai lo hi a b)(c:B≤lo)(hs:B≤a.heap.size):Below B w b:=
 h.trans ⟨t.os,t.tape,t.output,t.size,fun k hk=>t.block k (by omega) (.inl (by omega))⟩
structure LW (w:World) (lo hi:Nat) (a:Option Addr) (n c:Nat) (ss:List ByteArray):Prop where
 own:w.ownsRow lo 9 1 (.slice a n c) n (ss.map Value.string)
 lt:∀ x,a=some x→x.block < hi
 sizes:∀ j,j < n→(EP ss j).size≤maxLen
 top:hi≤w.heap.size
theorem LW.strs {w:World}{lo hi n c:Nat}{a:Option Addr}{b:List ByteArray}(h:LW w lo hi a n c b):Bg w a n c b:=Bg.of_owns h.own h.sizes
theorem LW.of {w:World}{lo n c:Nat}{a:Option Addr}{b:List ByteArray}(h:w.ownsRow lo 9 1 (.slice a n c) n (b.map Value.string))(hs:∀ j,j < n→(EP b j).size≤maxLen):LW w lo w.heap.size a n c b:=
 ⟨h,fun x hx=>by subst hx;exact (h.lt _ rfl).2,hs,NLN⟩
theorem DN {w w':World}{lo n c:Nat}{a:Option Addr}{d:List Value}(h:w.ownsRow lo 9 1 (.slice a n c) n d)(f:∀ x,a=some x→w'.heap[x.block]? =w.heap[x.block]?):w'.ownsRow lo 9 1 (.slice a n c) n d:=by
 refine ⟨h.1, ?_⟩;rcases h.2 with h2 | ⟨g,cap,i,b,h3,j,h4⟩
 ·exact .inl h2
 ·refine .inr ⟨g,cap,i,b,h3, ?_,h4⟩;simp only[Value.slice.injEq] at b;rw[← j];exact f ⟨g,0,none⟩ b.1
theorem LW.below {w w':World}{lo hi n c B:Nat}{a:Option Addr}{b:List ByteArray}(h:LW w lo hi a n c b)(d:Below B w w')(f:hi≤B):LW w' lo hi a n c b:=
 ⟨DN h.own (fun x hx=>d.block _ (by have:=h.lt x hx;omega)),h.lt,h.sizes,Nat.le_trans h.top d.size⟩
theorem LW.touch {w w':World}{lo hi n c b d:Nat}{a:Option Addr}{f:List ByteArray}(h:LW w lo hi a n c f)(t:Ai b d w w')(g:hi≤b∨d≤lo):LW w' lo hi a n c f:=
 ⟨DN h.own (fun x hx=>t.block _ (by have:=h.lt x hx;have:=h.top;omega) (by
  have h1:=h.lt x hx;have h2:lo≤x.block:=by subst hx;exact (h.own.lt _ rfl).1
  omega)),h.lt,h.sizes,Nat.le_trans h.top t.size⟩
theorem Bg.touch {w w':World}{lo hi n c B:Nat}{a:Option Addr}{d:List ByteArray}(h:Bg w a n c d)(t:Ai lo hi w w')(i:∀ x,a=some x→x.block < B)(m:B≤lo):Bg w' a n c d:=
 ⟨h.len,h.cap,h.small,h.sizes,fun j k=>by
  obtain ⟨b,l,f,g,hc⟩:=h.cells j k;refine ⟨b,l,f,Nat.lt_of_lt_of_le g t.size, ?_⟩;rw[← hc];exact World.cell?_of_block (t.block b g (.inl (by have:=i _ f;simp at this;omega)))⟩
theorem IW {w:World}{a base' e n:Nat}{v:Value}{b:List Value}(h:w.ownsRow a e 1 v n b)(c:base'≤a):w.ownsRow base' e 1 v n b:=by
 refine ⟨h.1, ?_⟩;rcases h.2 with h2 | ⟨g,cap,d,f,h3,h4⟩
 ·exact .inl h2
 ·exact .inr ⟨g,cap,d,f,Nat.le_trans c h3,h4⟩
def Zd (k n:Nat):List ByteArray:=(List.range n).map fun j=>XF (k+j)
def Y4 (ss:List ByteArray) (k n i:Nat):List ByteArray:=(List.range n).map fun j=>if j < i then XF (k+j) else EP ss j
def XP (t:Af):Prop:=t.kind=2∨see DA t=true
def NZ:List Af→List ByteArray
 | []=> []
 | t ::r=>if t.kind=2 then t.text ::NZ r else NZ r
theorem Sd:∀ (f:List Af) (a b:List ByteArray) (q:List Af),IU f a=(b,true,q)→∃ c,f=c ++q∧(∀ x∈c,XP x)∧b=a ++NZ c
 | [],a,b,q,h=>by simp[IU] at h
 | [t],a,b,q,h=>by
  rw[IU] at h;by_cases hc:FM t
  ·rw[if_pos hc] at h;simp only[Prod.mk.injEq,true_and] at h;exact ⟨[t],by rw[← h.2];rfl,fun x hx=>by rw[List.mem_singleton.1 hx];exact .inl hc.1,by rw[← h.1,NZ,if_pos hc.1];rfl⟩
  ·rw[if_neg hc] at h;simp at h
 | t ::d ::r,a,b,q,h=>by
  rw[IU] at h;by_cases hc:FM t
  ·rw[if_pos hc] at h;cases hk:see DA d
   ·rw[hk,if_neg (by decide)] at h;simp only[Prod.mk.injEq,true_and] at h;exact ⟨[t],by rw[← h.2];rfl,fun x hx=>by rw[List.mem_singleton.1 hx];exact .inl hc.1,by rw[← h.1,NZ,if_pos hc.1];rfl⟩
   ·rw[hk,if_pos rfl] at h;obtain ⟨c,h1,h2,h3⟩:=Sd r _ b q h;have g:d.kind≠2:=by rcases FR hk with e | e <;> omega
    refine ⟨t ::d ::c,by rw[h1];rfl,fun x hx=>?_,by rw[h3,NZ,if_pos hc.1,NZ,if_neg g,List.append_assoc];rfl⟩;rcases List.mem_cons.1 hx with rfl | hx
    ·exact .inl hc.1
    ·rcases List.mem_cons.1 hx with rfl | hx
     ·exact .inr hk
     ·exact h2 x hx
  ·rw[if_neg hc] at h;simp at h
theorem Wv {a q:List Af}{b:List ByteArray}(h:FN a=(b,true,q)):∃ c,a=c ++q∧(∀ x∈c,XP x)∧b=NZ c:=by
 rw[FN] at h;split at h
 ·simp only[Prod.mk.injEq,true_and] at h;exact ⟨[],by rw[← h.2];rfl,(fun x hx=>by cases hx),by rw[← h.1];rfl⟩
 ·obtain ⟨c,h1,h2,h3⟩:=Sd a [] b q h;exact ⟨c,h1,h2,by simpa using h3⟩
inductive G:Nat→List Af→Pt→Prop
 | up {k:Nat} {c:List Af} {p:Pt} (hk:k < 8) (g:G (k+1) c p):G k c p
 | ite {t u v:Af} {a b d:List Af} {pa pb pd:Pt} (ht:see Du t=true) (hu:see BQ u=true) (hv:see AI v=true) (ga:G 0 a pa) (gb:G 0 b pb) (gd:G 0 d pd):G 0 (t ::(a ++u ::(b ++v ::d))) (.ite t.at_ pa pb pd)
 | bin {k:Nat} {l r:List Af} {t:Af} {op:Int} {pl pr:Pt} (hk:k=1∨k=2∨k=5∨k=6) (gl:G k l pl) (ht:CF k t=some op) (gr:G (k+1) r pr):G k (l ++t ::r) (.bin t.at_ op pl pr)
 | cmp {l r:List Af} {t:Af} {op:Int} {pl pr:Pt} (gl:G 5 l pl) (ht:CF 4 t=some op) (gr:G 5 r pr):G 4 (l ++t ::r) (.bin t.at_ op pl pr)
 | not {t:Af} {r:List Af} {p:Pt} (ht:see Ee t=true) (g:G 3 r p):G 3 (t ::r) (.un t.at_ 9 p)
 | neg {t:Af} {r:List Af} {p:Pt} (ht:see AX t=true) (g:G 7 r p):G 7 (t ::r) (.un t.at_ 8 p)
 | par {t u:Af} {r:List Af} {p:Pt} (ht:see AD t=true) (g:G 0 r p) (hu:see AT u=true):G 8 (t ::(r ++ [u])) p
 | size {t u v:Af} {r:List Af} {p:Pt} (ht:see BO t=true) (hu:see AD u=true) (g:G 0 r p) (hv:see AT v=true):G 8 (t ::u ::(r ++ [v])) (.un t.at_ 10 p)
 | set {t u:Af} {c:List Af} (ht:see BV t=true) (hc:∀ x∈c,XP x) (hu:see BK u=true):G 8 (t ::(c ++ [u])) (.set t.at_ (NZ c))
 | num {t:Af} (h:t.kind=1):G 8 [t] (.int t.at_ t.num)
 | text {t:Af} (h:t.kind=2):G 8 [t] (.text t.at_ t.text)
 | name {t:Af} (h:t.kind=3):G 8 [t] (.name t.at_ t.text)
 | tru {t:Af} (h:see Ca t=true):G 8 [t] (.bool t.at_ true)
 | fls {t:Af} (h:see Bs t=true):G 8 [t] (.bool t.at_ false)
theorem G.lift {c:List Af}{p:Pt} :∀ (n k:Nat),k+n≤8→G (k+n) c p→G k c p
 | 0,k,_,h=>h
 | n+1,k,hk,h=> .up (by omega) (G.lift n (k+1) (by omega) (by rw[Nat.add_right_comm];exact h))
theorem G.le8 {k:Nat}{c:List Af}{p:Pt}(h:G k c p):k≤8:=by
 cases h <;> omega
theorem G.low {k j:Nat}{c:List Af}{p:Pt}(h:G k c p)(a:j≤k):G j c p:=by
 have h8:=h.le8;obtain ⟨n,rfl⟩:∃ n,k=j+n:=⟨k - j,by omega⟩
 exact G.lift n j h8 h
def Tr:NT→List Af→Pt→List Af→Prop
 | .more k e0,ts,e,q=>∀ c0,G k c0 e0→∃ c,ts=c ++q∧G k (c0 ++c) e
 | .beh s,ts,e,q=>∃ t c,ts=t ::(c ++q)∧see s t=true∧G 0 c e
 | .encl,ts,e,q=>∃ t c u,ts=t ::(c ++u ::q)∧see AD t=true∧see AT u=true∧G 0 c e
 | .chain k,ts,e,q=>∃ c,ts=c ++q∧G k c e
 | .opd k,ts,e,q=>∃ c,ts=c ++q∧G (k+1) c e
 | .expr,ts,e,q=>∃ c,ts=c ++q∧G 0 c e
 | .neg,ts,e,q=>∃ c,ts=c ++q∧G 3 c e
 | .cmp,ts,e,q=>∃ c,ts=c ++q∧G 4 c e
 | .una,ts,e,q=>∃ c,ts=c ++q∧G 7 c e
 | .prim,ts,e,q=>∃ c,ts=c ++q∧G 8 c e
theorem D.tree {nt:NT}{w:List Af}{x:PR}(d:D nt w x):nt.good→∀ e q,x= .ok e q→Tr nt w e q:=by
 induction d with
 | beh_no | expr_if1 | expr_if2 | expr_if3 | chain_bad | more_bad | neg_bad | cmp_bad | cmp_two_bad | una_bad | size_bad | set_bad | set_end | prim_nil | prim_no | encl_bad | encl_end=>intro _ e q h;cases h
 | @beh s t r x h d i=>
  intro _ e q hx;obtain ⟨c,hc,g⟩:=i trivial e q hx;exact ⟨t,c,by rw[hc],h,g⟩
 | expr_no h d i=>
  intro _ e q hx;obtain ⟨c,hc,g⟩:=i (.inl rfl) e q hx;exact ⟨c,hc,g.low (by omega)⟩
 | @expr_if t r q p L a b c h d1 d2 d3 j l C=>
  intro _ e q hx;cases hx;obtain ⟨o,c1,h1,m,g1⟩:=j trivial _ _ rfl;obtain ⟨E,c2,h2,y,g2⟩:=l trivial _ _ rfl;obtain ⟨F,c3,h3,H,g3⟩:=C trivial _ _ rfl;injection h1 with h0 h1;subst h0;exact ⟨t ::(c1 ++E ::(c2 ++F ::c3)),by rw[h1,h2,h3];simp,.ite m y H g1 g2 g3⟩
 | chain d1 d2 j l=>
  intro n e q hx;obtain ⟨c,hc,g⟩:=j (by simp only[NT.good] at n ⊢;omega) _ _ rfl;have M:=g.le8;obtain ⟨z,A,v⟩:=l n e q hx c (g.low (by omega));exact ⟨c ++z,by rw[List.append_assoc,← A];exact hc,v⟩
 | @more_no k I w h=>
  intro n e q hx;cases hx;exact fun B g=>⟨[],rfl,by rw[List.append_nil];exact g⟩
 | @more k I f t r q op x h d1 d2 j l=>
  intro n e J hx B K;obtain ⟨c,hc,g⟩:=j (by simp only[NT.good] at n ⊢;omega) _ _ rfl;obtain ⟨z,A,v⟩:=l n e J hx (B ++t ::c) (.bin n K h g);exact ⟨t ::(c ++z),by rw[List.cons_append,List.append_assoc,← A,← hc],by rw[List.append_assoc] at v;exact v⟩
 | opd1 d i=>intro _ e q hx;exact i (.inr (.inl rfl)) e q hx
 | opd2 d i=>intro _ e q hx;exact i trivial e q hx
 | opd4 d i=>intro _ e q hx;exact i (.inr (.inr (.inl rfl))) e q hx
 | opd5 d i=>intro _ e q hx;exact i (.inr (.inr (.inr rfl))) e q hx
 | opd6 d i=>intro _ e q hx;exact i trivial e q hx
 | neg_no h d i=>intro _ e q hx;obtain ⟨c,hc,g⟩:=i trivial e q hx;exact ⟨c,hc,g.low (by omega)⟩
 | @neg t r q e h d i=>intro _ e q hx;cases hx;obtain ⟨c,hc,g⟩:=i trivial _ _ rfl;exact ⟨t ::c,by rw[hc];rfl,.not h g⟩
 | cmp_one d h i=>intro _ e q hx;cases hx;obtain ⟨c,hc,g⟩:=i (.inr (.inr (.inl rfl))) _ _ rfl;exact ⟨c,hc,g.low (by omega)⟩
 | @cmp_two w r q e f t op d h d2 j l=>
  intro _ e q hx;cases hx;obtain ⟨c,hc,g⟩:=j (.inr (.inr (.inl rfl))) _ _ rfl;obtain ⟨z,A,v⟩:=l (.inr (.inr (.inl rfl))) _ _ rfl;exact ⟨c ++t ::z,by rw[List.append_assoc,List.cons_append,← A];exact hc,.cmp g h v⟩
 | una_no h d i=>intro _ e q hx;obtain ⟨c,hc,g⟩:=i trivial e q hx;exact ⟨c,hc,g.low (by omega)⟩
 | @una t r q e h d i=>intro _ e q hx;cases hx;obtain ⟨c,hc,g⟩:=i trivial _ _ rfl;exact ⟨t ::c,by rw[hc];rfl,.neg h g⟩
 | @num t r h=>intro _ e q hx;cases hx;exact ⟨[t],rfl,.num h⟩
 | @text t r h=>intro _ e q hx;cases hx;exact ⟨[t],rfl,.text h⟩
 | @name t r h=>intro _ e q hx;cases hx;exact ⟨[t],rfl,.name h⟩
 | @tru t r h=>intro _ e q hx;cases hx;exact ⟨[t],rfl,.tru h⟩
 | @fls t r h=>intro _ e q hx;cases hx;exact ⟨[t],rfl,.fls h⟩
 | @size t r q e h d i=>
  intro _ e q hx;cases hx;obtain ⟨o,c,u,hc,m,y,g⟩:=i trivial _ _ rfl;exact ⟨t ::o ::(c ++ [u]),by rw[hc];simp,.size h m g y⟩
 | @par t r x h d i=>
  intro _ e q hx;obtain ⟨o,c,u,hc,m,y,g⟩:=i trivial e q hx;exact ⟨o ::(c ++ [u]),by rw[hc];simp,.par m g y⟩
 | @set t u r q N h hs hq=>
  intro _ e q hx;cases hx;obtain ⟨c,hc,h1,h2⟩:=Wv hs;exact ⟨t ::(c ++ [u]),by rw[hc];simp,by rw[h2];exact .set h h1 hq⟩
 | @encl w r e t d h i=>
  intro _ e q hx;cases hx;obtain ⟨o,c,hc,m,g⟩:=i trivial _ _ rfl;exact ⟨o,c,t,hc,m,h,g⟩
def Dv (t:Af):Bool:=(!decide (t.kind=4) && !decide (t.kind=5)) || see AT t || see BK t || see Ca t || see Bs t
def MM (t:Af):Bool:=see AD t || see BV t
def N5 (t:Af):Bool:=see AT t || see BK t
structure LS where
 pe:Bool
 d:Int
 i:Int
 acc:Int
def dL (d:Int) (t:Af):Int:=if N5 t then (if MM t then d+1 else d) - 1 else if MM t then d+1 else d
def Cl (of:List (List UInt8)) (s:LS) (t:Af):LS:=
 ⟨Dv t,dL s.d t,s.i+1,if dL s.d t > 0∨s.pe=false then s.acc else if of.any (fun x=>see x t) then s.i else s.acc⟩
theorem UJ {of:List (List UInt8)}{t:Af}{s:List UInt8}(h:see s t=true)(a:s ∉ of):of.any (fun x=>see x t)=false:=by
 rw[List.any_eq_false];intro x hx hs;have:=Ag h (s':=x) (fun e=>a (by rw[e];exact hx));rw[this] at hs;cases hs
theorem Cv {s:List UInt8}{t:Af}(h:see s t=true)(hs:s ∉ [AD,BV,AT,BK])(d:Int):dL d t=d:=by
 have e1:=Ag h (s':=AD) (fun e=>hs (by rw[e];decide));have e2:=Ag h (s':=BV) (fun e=>hs (by rw[e];decide));have e3:=Ag h (s':=AT) (fun e=>hs (by rw[e];decide));have e4:=Ag h (s':=BK) (fun e=>hs (by rw[e];decide));simp[dL,MM,N5,e1,e2,e3,e4]
theorem Ku {s:List UInt8}{t:Af}(h:see s t=true)(hs:s ∉ [AT,BK,Ca,Bs]):Dv t=false:=by
 have e1:=Ag h (s':=AT) (fun e=>hs (by rw[e];decide));have e2:=Ag h (s':=BK) (fun e=>hs (by rw[e];decide));have e3:=Ag h (s':=Ca) (fun e=>hs (by rw[e];decide));have e4:=Ag h (s':=Bs) (fun e=>hs (by rw[e];decide));have hk:=FR h;rw[Dv,e1,e2,e3,e4];rcases hk with hk | hk <;> simp[hk]
theorem Av {s:List UInt8}{t:Af}(h4:t.kind≠4)(h5:t.kind≠5):see s t=false:=by
 simp[see,h4,h5]
theorem MN {t:Af}(h4:t.kind≠4)(h5:t.kind≠5)(d:Int):dL d t=d:=by
 simp[dL,MM,N5,Av h4 h5]
theorem N6 {t:Af}(h4:t.kind≠4)(h5:t.kind≠5):Dv t=true:=by
 simp[Dv,h4,h5]
theorem Kv {k:Nat}{s:List UInt8}{op:Int}(h:(s,op)∈Cy k):s ∉ [AD,BV,AT,BK,Ca,Bs,Du,BQ,AI,Ee,AF,Bh]:=by
 match k,h with
 | 0,h | 3,h=>cases h
 | 1,h=>revert h;simp only[Cy,List.mem_cons,List.mem_nil_iff,Prod.mk.injEq,or_false];rintro ⟨rfl,rfl⟩;decide
 | 2,h=>revert h;simp only[Cy,List.mem_cons,List.mem_nil_iff,Prod.mk.injEq,or_false];rintro ⟨rfl,rfl⟩;decide
 | 4,h=>revert h;simp only[Cy,List.mem_cons,List.mem_nil_iff,Prod.mk.injEq,or_false];rintro (⟨rfl,rfl⟩ | ⟨rfl,rfl⟩ | ⟨rfl,rfl⟩ | ⟨rfl,rfl⟩ | ⟨rfl,rfl⟩ | ⟨rfl,rfl⟩) <;> decide
 | 5,h=>revert h;simp only[Cy,List.mem_cons,List.mem_nil_iff,Prod.mk.injEq,or_false];rintro (⟨rfl,rfl⟩ | ⟨rfl,rfl⟩ | ⟨rfl,rfl⟩ | ⟨rfl,rfl⟩) <;> decide
 | 6,h=>revert h;simp only[Cy,List.mem_cons,List.mem_nil_iff,Prod.mk.injEq,or_false];rintro (⟨rfl,rfl⟩ | ⟨rfl,rfl⟩ | ⟨rfl,rfl⟩ | ⟨rfl,rfl⟩) <;> decide
 | k+7,h=>cases h
theorem Dr {k:Nat}{t:Af}{op:Int}(h:CF k t=some op):(∀ d,dL d t=d)∧Dv t=false∧(∀ s∈ [AD,BV,AT,BK,Ca,Bs,Du,BQ,AI,Ee,AF,Bh],see s t=false):=by
 obtain ⟨s,h1,h2⟩:=Fj h;have a:=Kv h1;refine ⟨fun d=>Cv h2 (fun e=>a ?_) d,Ku h2 (fun e=>a ?_),fun x hx=>Ag h2 (fun e=>a (by rw[e];exact hx))⟩
 ·simp only[List.mem_cons,List.mem_nil_iff,or_false] at e ⊢;grind
 ·simp only[List.mem_cons,List.mem_nil_iff,or_false] at e ⊢;grind
theorem MO (of:List (List UInt8)):∀ (c:List Af),(∀ x∈c,XP x)→∀ (s:LS),0 < s.d→∃ pe,c.foldl (Cl of) s=⟨pe,s.d,s.i+c.length,s.acc⟩
 | [],_,s,_=>⟨s.pe,by simp⟩
 | t ::c,h,s,hd=>by
  have a:dL s.d t=s.d:=by
   rcases h t (List.mem_cons_self ..) with e | e
   ·exact MN (by omega) (by omega) _
   ·exact Cv e (by decide) _
  have e1:Cl of s t=⟨Dv t,s.d,s.i+1,s.acc⟩:=by rw[Cl,a,if_pos (.inl hd)]
  obtain ⟨pe,he⟩:=MO of c (fun x hx=>h x (List.mem_cons_of_mem _ hx)) ⟨Dv t,s.d,s.i+1,s.acc⟩ hd;refine ⟨pe, ?_⟩;rw[List.foldl_cons,e1,he];simp only[List.length_cons,LS.mk.injEq,true_and,and_true];omega
theorem EV {t:Af}(h:see AD t=true∨see BV t=true)(d:Int):dL d t=d+1:=by
 rcases h with h | h
 ·simp[dL,MM,N5,h,Ag h (s':=AT) (by decide),Ag h (s':=BK) (by decide)]
 ·simp[dL,MM,N5,h,Ag h (s':=AT) (by decide),Ag h (s':=BK) (by decide)]
theorem DX {t:Af}(h:see AT t=true∨see BK t=true)(d:Int):dL d t=d - 1:=by
 rcases h with h | h
 ·simp[dL,MM,N5,h,Ag h (s':=AD) (by decide),Ag h (s':=BV) (by decide)]
 ·simp[dL,MM,N5,h,Ag h (s':=AD) (by decide),Ag h (s':=BV) (by decide)]
theorem Ep {t:Af}(h:see AT t=true∨see BK t=true):Dv t=true:=by
 rcases h with h | h <;> simp[Dv,h]
theorem Ie {t:Af}(h:see Ca t=true∨see Bs t=true):Dv t=true:=by
 rcases h with h | h <;> simp[Dv,h]
theorem AV (of:List (List UInt8)){s:LS}{t:Af}(h: 0 < dL s.d t):Cl of s t=⟨Dv t,dL s.d t,s.i+1,s.acc⟩:=by
 rw[Cl,if_pos (.inl h)]
theorem Cs (of:List (List UInt8)){s:LS}{t:Af}(h:s.pe=false):Cl of s t=⟨Dv t,dL s.d t,s.i+1,s.acc⟩:=by
 rw[Cl,if_pos (.inr h)]
theorem Kw (of:List (List UInt8)){s:LS}{t:Af}{x:List UInt8}(h:see x t=true)(hx:x ∉ of):Cl of s t=⟨Dv t,dL s.d t,s.i+1,s.acc⟩:=by
 rw[Cl,UJ h hx];simp
theorem G.deep (of:List (List UInt8)){k:Nat}{c:List Af}{p:Pt}(g:G k c p):∀ (s:LS),0 < s.d→c.foldl (Cl of) s=⟨true,s.d,s.i+c.length,s.acc⟩:=by
 induction g with
 | up hk g f=>exact f
 | @ite t u v a b d B C E ht hu m F H I q w id=>
  intro s hs;have e1:=Cv ht (by decide) s.d;have e2:=Cv hu (by decide) s.d;have e3:=Cv m (by decide) s.d;rw[List.foldl_cons,AV of (by rw[e1];exact hs),List.foldl_append,q _ (by show 0 < dL s.d t;rw[e1];exact hs),List.foldl_cons,AV of (by show 0 < dL (dL s.d t) u;rw[e1,e2];exact hs),List.foldl_append,w _ (by show 0 < dL (dL s.d t) u;rw[e1,e2];exact hs),List.foldl_cons,AV of (by show 0 < dL (dL (dL s.d t) u) v;rw[e1,e2,e3];exact hs),id _ (by show 0 < dL (dL (dL s.d t) u) v;rw[e1,e2,e3];exact hs)];simp only[e1,e2,e3,LS.mk.injEq,true_and,and_true,List.length_cons,List.length_append];omega
 | @bin k l r t op x y hk z ht A n o=>
  intro s hs;have e1:=(Dr ht).1;rw[List.foldl_append,n s hs,List.foldl_cons,AV of (by rw[e1];exact hs),o _ (by show 0 < dL _ t;rw[e1];exact hs)];simp only[e1,LS.mk.injEq,true_and,and_true,List.length_cons,List.length_append];omega
 | @cmp l r t op x y z ht A n o=>
  intro s hs;have e1:=(Dr ht).1;rw[List.foldl_append,n s hs,List.foldl_cons,AV of (by rw[e1];exact hs),o _ (by show 0 < dL _ t;rw[e1];exact hs)];simp only[e1,LS.mk.injEq,true_and,and_true,List.length_cons,List.length_append];omega
 | @not t r p ht g f=>
  intro s hs;have e1:=Cv ht (by decide) s.d;rw[List.foldl_cons,AV of (by rw[e1];exact hs),f _ (by show 0 < dL _ t;rw[e1];exact hs)];simp only[e1,LS.mk.injEq,true_and,and_true,List.length_cons];omega
 | @neg t r p ht g f=>
  intro s hs;have e1:=Cv ht (by decide) s.d;rw[List.foldl_cons,AV of (by rw[e1];exact hs),f _ (by show 0 < dL _ t;rw[e1];exact hs)];simp only[e1,LS.mk.injEq,true_and,and_true,List.length_cons];omega
 | @par t u r p ht g hu f=>
  intro s hs;have e1:=EV (.inl ht) s.d;have e2:=DX (.inl hu) (s.d+1);rw[List.foldl_cons,AV of (by rw[e1];omega),List.foldl_append,f _ (by show 0 < dL _ t;rw[e1];omega),List.foldl_cons,List.foldl_nil,AV of (by show 0 < dL (dL _ t) u;rw[e1,e2];omega)];simp only[e1,e2,LS.mk.injEq,List.length_cons,List.length_append,List.length_nil];exact ⟨Ep (.inl hu),by omega,by omega,trivial⟩
 | @size t u v r p ht hu g m f=>
  intro s hs;have j:=Cv ht (by decide) s.d;have e1:=EV (.inl hu) s.d;have e2:=DX (.inl m) (s.d+1);rw[List.foldl_cons,AV of (by rw[j];omega),List.foldl_cons,AV of (by show 0 < dL (dL _ t) u;rw[j,e1];omega),List.foldl_append,f _ (by show 0 < dL (dL _ t) u;rw[j,e1];omega),List.foldl_cons,List.foldl_nil,AV of (by show 0 < dL (dL (dL _ t) u) v;rw[j,e1,e2];omega)];simp only[j,e1,e2,LS.mk.injEq,List.length_cons,List.length_append,List.length_nil];exact ⟨Ep (.inl m),by omega,by omega,trivial⟩
 | @set t u c ht hc hu=>
  intro s hs;have e1:=EV (.inr ht) s.d;have e2:=DX (.inr hu) (s.d+1);obtain ⟨pe,he⟩:=MO of c hc ⟨Dv t,s.d+1,s.i+1,s.acc⟩ (by show 0 < s.d+1;omega);rw[List.foldl_cons,AV of (by rw[e1];omega),e1,List.foldl_append,he,List.foldl_cons,List.foldl_nil,AV of (by show 0 < dL (s.d+1) u;rw[e2];omega)];simp only[e2,LS.mk.injEq,List.length_cons,List.length_append,List.length_nil];exact ⟨Ep (.inr hu),by omega,by omega,trivial⟩
 | @num t h | @text t h | @name t h=>
  intro s hs;have e1:=MN (t:=t) (by omega) (by omega) s.d;rw[List.foldl_cons,List.foldl_nil,AV of (by rw[e1];exact hs),e1,N6 (by omega) (by omega)];rfl
 | @tru t h=>
  intro s hs;have e1:=Cv h (by decide) s.d;rw[List.foldl_cons,List.foldl_nil,AV of (by rw[e1];exact hs),e1,Ie (.inl h)];rfl
 | @fls t h=>
  intro s hs;have e1:=Cv h (by decide) s.d;rw[List.foldl_cons,List.foldl_nil,AV of (by rw[e1];exact hs),e1,Ie (.inr h)];rfl
end Go.Proofs.YtdldimphcpojoaaGreatDoor
