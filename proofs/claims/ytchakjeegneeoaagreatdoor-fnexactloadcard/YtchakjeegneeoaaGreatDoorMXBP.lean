/-
  GH, GI, GK, GL. Own work.
-/
import Derived.Test.YtchakjeegneeoaaGreatDoorMXBC
import Derived.Test.YtchakjeegneeoaaGreatDoorMXAO
import Derived.Test.YtchakjeegneeoaaGreatDoorMXAT
namespace Go.Proofs.YtchakjeegneeoaaGreatDoor
set_option maxRecDepth 100000
set_option maxHeartbeats 1600000
open Go.RowKit
set_option linter.unusedVariables false
theorem Vu (s:List UInt8)(a:Nat)(ts:List Af):see s (DV a ts)=AM s ts:=by
 cases ts with
 |nil=>rfl
 |cons t r=>rfl
theorem AbS (a b:ByteArray):(a.toList== b.toList)=decide (a=b):=by
 have h:=Gc a b;rw[eqS] at h;by_cases e:a=b
 ·rw[zW e];exact h.2 e
 ·rw[zR e,z2];exact fun k=>e (h.1 k)
theorem AQ {w:World}{b g c:Nat}{T:List Af}{a:Nat}{ts:List Af}{k:Nat}(h:Pp w b g c T a ts k)(s:List UInt8):
  Calls Tryz.prog 113 #[.pointer (some ⟨b,0,none⟩),.string (AB s)] w fun e w'=>e= .returned (.bool (AM s ts))∧Below w.heap.size w w':=by
 rw[← Vu s a ts];have d:=Ab (BK h);generalize DV a ts=t at d ⊢;clear h;go_enter Tryz.func113,Tryz.ntmps113
 go_wp2_with fail
 refine (Aa d).mono ?_;rintro e i ⟨rfl,f⟩;rw[Dq];dsimp only;go_wp2_with fail
 all_goals
  go_ret
  refine ⟨?_,f.alloc f.size _⟩
  congr 2
  simp[see,AbS, *]
def Y9 (aY:Addr) (tl:Nat) (q:List Af) (b:Nat) (w:World):Prop:=Al w b #[.int .i64 ((DV tl q).at_:Int),.iface 276 (.pointer (some aY))] 112
def Ci (b:Nat):Value:= .iface 107 (.pointer (some ⟨b,0,none⟩))
structure Gy (w:World) (aY:Addr):Prop where
 cell:w.cell? ⟨7,0,none⟩=some (.iface 276 (.pointer (some aY)))
 big: 20≤w.heap.size
 tab:∀ k,w.cell? ⟨12,k,none⟩=Je[k]?
theorem Gy.touch {w w':World}{aY:Addr}{a:Nat}(h:Gy w aY)(T:Aj a (a+1) w w')(hp: 20≤a):Gy w' aY:=by
 have c:=h.big;have b:∀ q,q < 20→∀ j,w'.cell? ⟨q,j,none⟩=w.cell? ⟨q,j,none⟩:=fun q hq j=>by
  unfold World.cell?;rw[T.block q (by omega) (.inl (by omega))]
 exact ⟨(b _ (by decide) 0).trans h.cell,zD c T.size,fun k=>(b _ (by decide) k).trans (h.tab k)⟩
theorem Gy.below {w w':World}{aY:Addr}(h:Gy w aY)(a:Below w.heap.size w w'):Gy w' aY:=h.touch (Aj.of_below (lo:=20) (hi:=20 +1) a NLN) NLN
theorem CW (a b c d:Value)(w:World):(Instr.field 51 (.agg #[a,b,c,d]) 3).run Tryz.prog w= .ok d w:=by
 simp[Instr.field,run_underlying Tryz.underlying51,Sem.run_bind,part,asAgg,isAgg,go_sem]
theorem Fo {w:World}{j g c:Nat}{T:List Af}{f:Nat}{ts:List Af}{k:Nat}{aY:Addr}(h:Pp w j g c T f ts k)(a:Gy w aY):
  Calls Tryz.prog 86 #[.pointer (some ⟨j,0,none⟩)] w fun e w'=>∃ b,e= .returned (Ci b)∧Y9 aY f ts b w'∧Below w.heap.size w w':=by
 have l:=Ab (BK h.drew);have q:=a.cell;have r:=(a.below (Below.refl w.heap.size w).drew).cell;have m:=Ab (a.below (Below.refl w.heap.size w).drew);have i:=(Below.refl w.heap.size w).drew;unfold Y9;generalize DV f ts=t at l ⊢;have s:=CW (.int .i64 t.kind) (.int .i64 t.num) (.string t.text) (.int .i64 (t.at_:Int));clear h a;go_enter Tryz.func86,Tryz.ntmps86
 go_wp2_with fail
 go_region_held3 (fun w'=>w'.cell? ⟨7,0,none⟩=some (.iface 276 (.pointer (some aY)))) (first | assumption | go_keep) (first
  |(go_at_call 83;refine (ET _ _ _ o).mono ?_;rintro e w2 ⟨rfl,p,n⟩;have q3:=((Aa m).below d |>.below n).cell)
  |(go_at_call 117;refine (Aa l).mono ?_;rintro e o ⟨rfl,d⟩;rw[Dq];have q2:=((Aa m).below d).cell)
  |fail)
 all_goals
  go_wp2_with fail
  go_ret
  exact ⟨_,rfl,p,i.trans ((d.mono i.size).trans (n.mono (zD i.size d.size)))⟩
theorem Dw {w:World}{a g c:Nat}{T:List Af}{d:Nat}{t:Af}{r:List Af}{k:Nat}(h:Pp w a g c T d (t ::r) k)(s:List UInt8)(hs:see s t=true):
  Calls Tryz.prog 144 #[.pointer (some ⟨a,0,none⟩),.string (AB s)] w fun e w'=>e= .returned .nilIface∧Pp w' a g c T d r (k+1)∧Aj a (a+1) w w':=by
 have f:=Ab (AQ h s);have i:=Ab (show AM s (t ::r)=true from hs);have j:=Ab (fun w' (b:Below w.heap.size w w')=>BZ (h.below b));clear h hs;go_enter Tryz.func144,Tryz.ntmps144
 go_wp2_with fail
 refine (Aa f).mono ?_;rintro e l ⟨rfl,b⟩;rw[Aa i];dsimp only;go_wp2_with fail
 refine (Aa j l b).mono ?_;rintro e w2 ⟨rfl,m,n⟩;dsimp only[Dq];go_wp2_with fail
 go_ret
 exact ⟨rfl,m,(Aj.of_below b NLN).trans n⟩
theorem ED {w:World}{d g c:Nat}{T:List Af}{f:Nat}{ts:List Af}{k:Nat}{aY:Addr}(h:Pp w d g c T f ts k)(i:Gy w aY)(s:List UInt8)(hs:AM s ts=false):
  Calls Tryz.prog 144 #[.pointer (some ⟨d,0,none⟩),.string (AB s)] w fun e w'=>∃ b,e= .returned (Ci b)∧Y9 aY f ts b w'∧Below w.heap.size w w':=by
 have j:=Ab (AQ h s);have l:=Ab hs;have m:=Ab (fun w' (a:Below w.heap.size w w')=>Fo (h.below a) (i.below a));clear h hs i;go_enter Tryz.func144,Tryz.ntmps144
 go_wp2_with fail
 refine (Aa j).mono ?_;rintro e n ⟨rfl,a⟩;rw[Aa l];dsimp only;go_wp2_with fail
 refine (Aa m n a).mono ?_;rintro e w2 ⟨b,rfl,o,p⟩;dsimp only[Ci];go_wp2_with fail
 go_ret
 exact ⟨b,rfl,o,a.trans (p.mono a.size)⟩
end Go.Proofs.YtchakjeegneeoaaGreatDoor
namespace Go.Proofs.YtchakjeegneeoaaGreatDoor
set_option maxRecDepth 100000
set_option maxHeartbeats 1600000
open Go.RowKit
set_option linter.unusedVariables false
def Er:Ex→Pt→Prop
 | .int i n,.int j m=>i=j∧n=m
 | .text i s,.text j t=>i=j∧s=t
 | .bool i b,.bool j d=>i=j∧b=d
 | .set i _ _ _ K,.set j ss=>i=j∧Cw ss K
 | .name i s,.name j t=>i=j∧s=t
 | .un i op k,.un j o q=>i=j∧op=o∧Er k q
 | .bin i op l r,.bin j o p q=>i=j∧op=o∧Er l p∧Er r q
 | .ite i c t e,.ite j x y z=>i=j∧Er c x∧Er t y∧Er e z
 |_,_=>False
def Ex.own (lo:Nat) (w:World):Ex→Prop
 | .set _ a n c ss=>w.ownsRow lo 9 1 (.slice a n c) n (ss.map Value.string)
 | .un _ _ k=>k.own lo w
 | .bin _ _ l r=>l.own lo w∧r.own lo w
 | .ite _ c t e=>c.own lo w∧t.own lo w∧e.own lo w
 |_=>True
theorem Ex.own_touch {b:Nat}{w w':World}(T:Aj b (b+1) w w'):∀ (e:Ex),e.own (b+1) w→e.own (b+1) w'
 | .int ..,h=>h
 | .text ..,h=>h
 | .bool ..,h=>h
 | .set _ a n c ss,h=>by
  have d:w.ownsRow (b+1) 9 1 (.slice a n c) n (ss.map Value.string):=h;exact Ac d (fun q hq=>T.block q (d.lt q hq).2 (.inr (d.lt q hq).1))
 | .name ..,h=>h
 | .attr ..,h=>h
 | .lett ..,h=>h
 | .un _ _ k,h=>k.own_touch T h
 | .bin _ _ l r,h=>⟨l.own_touch T h.1,r.own_touch T h.2⟩
 | .ite _ c t e,h=>⟨c.own_touch T h.1,t.own_touch T h.2.1,e.own_touch T h.2.2⟩
def Io (v:Value):Prop:=v= .nilIface∨∃ t u,v= .iface t u
def Gd (aY:Addr) (pb g c:Nat) (T:List Af) (tl:Nat):PR→World→Ending→World→Prop
 | .ok p q,w,r,w'=>(∃ e k,r= .returned (.tuple #[Ex.val e,.nilIface])∧Er e p∧e.own (pb+1) w'∧Pp w' pb g c T tl q k)∧Aj pb (pb+1) w w'
 | .bad q,w,r,w'=>(∃ v b,r= .returned (.tuple #[v,Ci b])∧Io v∧Y9 aY tl q b w')∧Aj pb (pb+1) w w'
theorem Gd.from {aY:Addr}{a g c:Nat}{T:List Af}{b:Nat}{x:PR}{d w w':World}{r:Ending}(h:Gd aY a g c T b x w r w')(T0:Aj a (a+1) d w):Gd aY a g c T b x d r w':=by
 cases x with
 |ok p q=>exact ⟨h.1,T0.trans h.2⟩
 |bad q=>exact ⟨h.1,T0.trans h.2⟩
theorem Ex.val_if (e:Ex):Io e.val:= .inr (by obtain ⟨t,u,h⟩:=e.form;exact ⟨t,u,h⟩)
theorem Gd.form {aY:Addr}{a g c:Nat}{T:List Af}{d:Nat}{x:PR}{w w':World}{r:Ending}(h:Gd aY a g c T d x w r w'):∃ v e,r= .returned (.tuple #[v,e])∧Io v∧Io e:=by
 cases x with
 |ok p q=>obtain ⟨⟨e,k,rfl,_⟩,_⟩:=h;exact ⟨_,_,rfl,e.val_if,.inl rfl⟩
 |bad q=>obtain ⟨⟨v,b,rfl,f,_⟩,_⟩:=h;exact ⟨_,_,rfl,f,.inr ⟨_,_,rfl⟩⟩
def NT.fn:NT→Nat
 | .expr=>155
 | .chain _=>169
 | .opd _=>175
 | .neg=>179
 | .cmp=>183
 | .una=>180
 | .prim=>184
 | .encl=>189
 | .beh _=>143
 | .more _ _=>0
def NT.args (pb:Nat):NT→Array Value
 | .chain k=>#[.pointer (some ⟨pb,0,none⟩),.int .i64 (k:Int)]
 | .opd k=>#[.pointer (some ⟨pb,0,none⟩),.int .i64 (k:Int)]
 | .beh s=>#[.pointer (some ⟨pb,0,none⟩),.string (AB s)]
 |_=>#[.pointer (some ⟨pb,0,none⟩)]
def CS (aY:Addr) (pb g c:Nat) (T:List Af) (tl:Nat) (nt:NT) (ts:List Af) (x:PR):Prop:=
 ∀ w k,Pp w pb g c T tl ts k→Gy w aY→Calls Tryz.prog nt.fn (nt.args pb) w (Gd aY pb g c T tl x w)
variable {aY : Addr} {pb g c : Nat} {T : List Af} {tl : Nat}
theorem ZT (hp: 20≤pb)(s:List UInt8)(ts:List Af)(x:PR)(d:D (.beh s) ts x)(f:∀ r x,D .expr r x→r.length < ts.length→CS aY pb g c T tl .expr r x):CS aY pb g c T tl (.beh s) ts x:=by
 intro w k h a;show Calls Tryz.prog 143 #[.pointer (some ⟨pb,0,none⟩),.string (AB s)] w (Gd aY pb g c T tl x w);cases d with
 |beh_no hs=>
  have i:=Ab (ED h a s hs);clear h hs a f;go_enter Tryz.func143,Tryz.ntmps143
  go_wp2_with fail
  refine (Aa i).mono ?_;rintro e l ⟨b,rfl,m,n⟩;dsimp only[Ci];go_wp2_with fail
  go_ret2
  exact ⟨⟨.nilIface,b,rfl,.inl rfl,m⟩,Aj.of_below n NLN⟩
 |@beh s t r x hs d=>
  have i:=Ab (Dw h s hs);have o:=Ab (f r x d (by simp));have p:=Ab a;clear h hs a f;go_enter Tryz.func143,Tryz.ntmps143
  go_wp2_with fail
  refine (Aa i).mono ?_;rintro e l ⟨rfl,q,T1⟩;dsimp only;go_wp2_with fail
  refine (Aa o l _ q ((Aa p).touch T1 hp)).mono ?_;intro r w2 j;obtain ⟨v,e,rfl,y,he⟩:=j.form;have u:=Ab (j.from T1);clear j;dsimp only;go_wp2_with fail
  go_ret2
  exact Aa u
theorem XV (hp: 20≤pb)(ts:List Af)(x:PR)(d:D .encl ts x)(f:∀ x,D (.beh AF) ts x→CS aY pb g c T tl (.beh AF) ts x):CS aY pb g c T tl .encl ts x:=by
 intro w k h a;show Calls Tryz.prog 189 #[.pointer (some ⟨pb,0,none⟩)] w (Gd aY pb g c T tl x w);have s:=Ab a;cases d with
 |encl_bad d=>
  have i:=Ab (f _ d w k h a);clear h a f;go_enter Tryz.func189,Tryz.ntmps189
  go_wp2_with fail
  refine (Aa i).mono ?_;rintro e n ⟨⟨v,b,rfl,u,y⟩,T1⟩;rcases u with rfl | ⟨I,J,rfl⟩
  all_goals
   dsimp only[Ci];go_wp2_with fail
   go_ret2
   exact ⟨⟨.nilIface,b,rfl,.inl rfl,y⟩,T1⟩
 |@encl_end ts r p d hs=>
  have i:=Ab (f _ d w k h a);clear h a f;go_enter Tryz.func189,Tryz.ntmps189
  go_wp2_with fail
  refine (Aa i).mono ?_;rintro e n ⟨⟨e,z,rfl,he,l,j⟩,T1⟩;obtain ⟨A,B,hf⟩:=e.form;rw[hf];dsimp only;have m:=Ab (ED j ((Aa s).touch T1 hp) AS hs);clear j;go_wp2_with fail
  refine (Aa m).mono ?_;rintro e w2 ⟨b,rfl,C,E⟩;dsimp only[Ci];go_wp2_with fail
  go_ret2
  exact ⟨⟨_,b,rfl,.inr ⟨_,_,rfl⟩,C⟩,T1.allP E⟩
 |@encl ts r p t d hs=>
  have i:=Ab (f _ d w k h a);clear h a f;go_enter Tryz.func189,Tryz.ntmps189
  go_wp2_with fail
  refine (Aa i).mono ?_;rintro e n ⟨⟨e,z,rfl,he,l,j⟩,T1⟩;obtain ⟨A,B,hf⟩:=e.form;have o:=Ab (And.intro he l);rw[hf];have F:=Ab hf;clear he l hf;dsimp only;have m:=Ab (Dw j AS hs);clear j;go_wp2_with fail
  refine (Aa m).mono ?_;rintro e w2 ⟨rfl,H,q⟩;dsimp only;go_wp2_with fail
  go_ret2
  exact ⟨⟨e,_,by rw[Aa F];rfl,(Aa o).1,e.own_touch q (Aa o).2,H⟩,T1.trans q⟩
end Go.Proofs.YtchakjeegneeoaaGreatDoor
namespace Go.Proofs.YtchakjeegneeoaaGreatDoor
set_option maxRecDepth 100000
set_option maxHeartbeats 3200000
open Go.RowKit
set_option linter.unusedVariables false
variable {aY : Addr} {pb g c : Nat} {T : List Af} {tl : Nat}
theorem AbT:∀ j,j < 16→(Ap (H5 j).text,(H5 j).op)∈CE (H5 j).lv.toNat∧0≤(H5 j).lv
 | 0,_=>by decide
 | 1,_=>by decide
 | 2,_=>by decide
 | 3,_=>by decide
 | 4,_=>by decide
 | 5,_=>by decide
 | 6,_=>by decide
 | 7,_=>by decide
 | 8,_=>by decide
 | 9,_=>by decide
 | 10,_=>by decide
 | 11,_=>by decide
 | 12,_=>by decide
 | 13,_=>by decide
 | 14,_=>by decide
 | 15,_=>by decide
 |n+16,h=>absurd h (by omega)
theorem AbU {k:Nat}{p:List UInt8 × Int}(h:p∈CE k):∃ j,j < 16∧(H5 j).lv=(k:Int)∧Ap (H5 j).text=p.1:=by
 have a1:∀ p∈CE 1,∃ j,j < 16∧(H5 j).lv=((1 :Nat):Int)∧Ap (H5 j).text=p.1:=by decide
 have a2:∀ p∈CE 2,∃ j,j < 16∧(H5 j).lv=((2 :Nat):Int)∧Ap (H5 j).text=p.1:=by decide
 have a4:∀ p∈CE 4,∃ j,j < 16∧(H5 j).lv=((4 :Nat):Int)∧Ap (H5 j).text=p.1:=by decide
 have a5:∀ p∈CE 5,∃ j,j < 16∧(H5 j).lv=((5 :Nat):Int)∧Ap (H5 j).text=p.1:=by decide
 have a:∀ p∈CE 6,∃ j,j < 16∧(H5 j).lv=((6 :Nat):Int)∧Ap (H5 j).text=p.1:=by decide
 match k,h with
 | 0,h | 3,h=>cases h
 | 1,h=>exact a1 p h
 | 2,h=>exact a2 p h
 | 4,h=>exact a4 p h
 | 5,h=>exact a5 p h
 | 6,h=>exact a p h
 |k+7,h=>cases h
theorem AbV {k:Nat} :∀ p∈CE k,∀ q∈CE k,p.1=q.1→p=q:=by
 match k with
 | 0 | 3=>intro p h;cases h
 | 1=>decide
 | 2=>decide
 | 4=>decide
 | 5=>decide
 | 6=>decide
 |k+7=>intro p h;cases h
theorem ZX {k:Nat}{t:Af}{s:List UInt8}{op:Int}(h:(s,op)∈CE k)(hs:see s t=true):CZ k t=some op:=by
 cases hf:(CE k).find? (fun p=>see p.1 t) with
 |none=>rw[List.find?_eq_none] at hf;exact absurd hs (hf _ h)
 |some q=>
  have h1:=List.mem_of_find?_eq_some hf;have h2:see q.1 t=true:=by have:=List.find?_some hf;simpa using this
  have e:s=q.1:=by
   by_cases e:s=q.1
   ·exact e
   ·rw[Ah hs e] at h2;cases h2
  have:=AbV _ h _ h1 e;rw[CZ,hf,← this];rfl
theorem XW {k:Nat}{t:Af}(h:∀ j,j < 16→(H5 j).lv=(k:Int)→see (Ap (H5 j).text) t=false):CZ k t=none:=by
 rw[CZ,Option.map_eq_none_iff,List.find?_eq_none];intro p hp;obtain ⟨j,a,h1,h2⟩:=AbU hp;have:=h j a h1;rw[h2] at this;simp[this]
def OpA (k:Nat) (t:Af) (r:Ending):Prop:=match CZ k t with
 |some op=>∃ tx,r= .returned (.tuple #[.agg #[.int .i64 op,.int .i64 (k:Int),.string tx],.bool true])
 |none=>r= .returned (.tuple #[.agg #[.int .i64 0,.int .i64 0,.string ⟨#[]⟩],.bool false])
theorem FK (lv:Nat){w:World}{ts:List Af}{k:Nat}(h:Pp w pb g c T tl ts k)(u:Gy w aY):
  Calls Tryz.prog 176 #[.pointer (some ⟨pb,0,none⟩),.int .i64 (lv:Int)] w fun e w'=>OpA lv (DV tl ts) e∧Below w.heap.size w w':=by
 have W:=u.big;have I:=Ab (show ∀ k,(w.alloc (.cells #[.int .i64 0,.int .i64 0,.string ⟨#[]⟩] 249)).cell? ⟨12,k,none⟩=Je[k]? from fun k=>(World.cell?_alloc_lt _ _ ⟨12,k,none⟩ (by show 12 < _;omega)).trans (u.tab k));have M:=Ab h;clear u h;have J:=(Below.refl w.heap.size w).alloc NLN (.cells #[.int .i64 0,.int .i64 0,.string ⟨#[]⟩] 249);have K:=Al.new w #[.int .i64 0,.int .i64 0,.string ⟨#[]⟩] 249;go_enter Tryz.func176,Tryz.ntmps176
 go_wp2_with (refine Df rfl 264 _ rfl 12 rfl Je _ (Aa I) Tryz.underlying264 rfl (by kernel_rfl) ?_)
 clear I;go_loopw [9] (fun i wr=>∃ j:Nat,j≤16∧i= .int .i64 j∧Below w.heap.size w wr∧Al wr w.heap.size #[.int .i64 0,.int .i64 0,.string ⟨#[]⟩] 249∧∀ i,i < j→(H5 i).lv=(lv:Int)→see (Ap (H5 i).text) (DV tl ts)=false) (fun i _=>16 - (intOf i).toNat)
 case atStart=>exact ⟨0,by omega,rfl,J,K,fun j h=>absurd h (by omega)⟩
 case round=>
  obtain ⟨j,X,rfl,v,m,L⟩:=hrel;have n:=Ab L;clear L J K;by_cases q:j < 16
  ·have Y:(j:Int) < 16:=by omega
   have r:=Ab (Tv j q);have x:=Ab (AbT j q);have b:=Ab q;have f:=Ab (show ((H5 j).lv=(lv:Int)→see (Ap (H5 j).text) (DV tl ts)=false)→∀ i,i < j+1→(H5 i).lv=(lv:Int)→see (Ap (H5 i).text) (DV tl ts)=false from fun e i hi=>by
    by_cases N:i=j
    ·subst N;exact e
    ·exact Aa n i (by omega))
   clear n q;generalize H5 j=o at r f x;have l:=v.alloc v.size (.cells #[.int .i64 o.op,.int .i64 o.lv,.string o.text] 249);have t:=m.alloc (.cells #[.int .i64 o.op,.int .i64 o.lv,.string o.text] 249);have O:=Al.new wr #[.int .i64 o.op,.int .i64 o.lv,.string o.text] 249;by_cases a:o.lv=(lv:Int)
   ·have P:(o.lv==(lv:Int))=true:=zN.2 a;have y:=Ab (AQ ((Aa M).below l) (Ap o.text));rw[Bs] at y;cases hs:see (Ap o.text) (DV tl ts)
    ·have z:=Ab (Aa f (fun _=>hs));have A:=Ab (show AM (Ap o.text) ts=false by rw[← Vu (Ap o.text) tl ts];exact hs);clear a f hs;go_wp2_with (first | (refine AU rfl 264 _ _ rfl Je rfl j rfl 16 249 Tryz.underlying264 (Aa b) _ Tryz.underlying249 rfl 3 (by kernel_rfl) _ (Aa r) ?_) | (go_at_call 113;refine (Aa y).mono ?_;rintro e w2 ⟨rfl,d⟩;rw[Aa A]))
     have B:=l.trans (d.mono l.size);have C:=t.after d NLN;go_roundw
     case rel=>exact ⟨j+1,Aa b,by go_num,B,C,Aa z⟩
     case measure=>have:=Aa b;simp[intOf];omega
    ·have A:=Ab (show AM (Ap o.text) ts=true by rw[← Vu (Ap o.text) tl ts];exact hs);have E:=Ab (show CZ lv (DV tl ts)=some o.op from ZX (s:=Ap o.text) (by have:=(Aa x).1;rw[a] at this;exact this) hs);have Q:=Ab a;clear f hs a x;have Z:=m.lt;have nz:wr.heap.size≠w.heap.size:=by omega
     have aa:w.heap.size≠wr.heap.size:=by omega
     go_wp2_with (first | (refine AU rfl 264 _ _ rfl Je rfl j rfl 16 249 Tryz.underlying264 (Aa b) _ Tryz.underlying249 rfl 3 (by kernel_rfl) _ (Aa r) ?_) | (go_at_call 113;refine (Aa y).mono ?_;rintro e w2 ⟨rfl,d⟩;rw[Aa A];obtain ⟨R,S,q2,U⟩:=Cd (t.after d NLN);obtain ⟨ab,ac,ad,ae⟩:=Cd (O.after d NLN)))
     have B:=l.trans (d.mono l.size);have C:=t.after d NLN;have F:Al _ w.heap.size #[.int .i64 o.op,.int .i64 o.lv,.string o.text] 249:=(((C.set 0 (.int .i64 o.op)).set 1 (.int .i64 o.lv)).set 2 (.string o.text))
     have H:=(((B.setCell (p:=⟨w.heap.size,0,none⟩) NLN (.int .i64 o.op)).setCell (p:=⟨w.heap.size,1,none⟩) NLN (.int .i64 o.lv)).setCell (p:=⟨w.heap.size,2,none⟩) NLN (.string o.text))
     obtain ⟨g0,g1,g2,V⟩:=Cd F;exact bodyPost_ret (MQ Tryz.results176 rfl rfl g0 g1 g2) rfl ⟨by rw[OpA,Aa E,Aa Q];exact ⟨_,rfl⟩,H⟩
   ·have P:(o.lv==(lv:Int))=false:=zB.2 a;have z:=Ab (Aa f (fun e=>absurd e a));clear a f;go_wp2_with (refine AU rfl 264 _ _ rfl Je rfl j rfl 16 249 Tryz.underlying264 (Aa b) _ Tryz.underlying249 rfl 3 (by kernel_rfl) _ (Aa r) ?_)
    go_roundw
    case rel=>exact ⟨j+1,Aa b,by go_num,l,t,Aa z⟩
    case measure=>have:=Aa b;simp[intOf];omega
  ·have e:j=16:=by omega
   subst e;have E:=Ab (show CZ lv (DV tl ts)=none from XW (Aa n));clear n;obtain ⟨R,S,q2,U⟩:=Cd m;go_wp2_with fail
   have F:Al _ w.heap.size #[.int .i64 0,.int .i64 0,.string ⟨#[]⟩] 249:=((m.set 0 (.int .i64 0)).set 1 (.int .i64 0)).set 2 (.string ⟨#[]⟩);have H:=(((v.setCell (p:=⟨w.heap.size,0,none⟩) NLN (.int .i64 0)).setCell (p:=⟨w.heap.size,1,none⟩) NLN (.int .i64 0)).setCell (p:=⟨w.heap.size,2,none⟩) NLN (.string ⟨#[]⟩))
   obtain ⟨g0,g1,g2,V⟩:=Cd F;exact bodyPost_ret (MQ Tryz.results176 rfl rfl g0 g1 g2) rfl ⟨by rw[OpA,Aa E];rfl,H⟩
end Go.Proofs.YtchakjeegneeoaaGreatDoor
namespace Go.Proofs.YtchakjeegneeoaaGreatDoor
set_option maxRecDepth 100000
set_option maxHeartbeats 1600000
open Go.RowKit
set_option linter.unusedVariables false
variable {aY : Addr} {pb g c : Nat} {T : List Af} {tl : Nat}
theorem Al.touchP {w w':World}{b lo hi:Nat}{cs:Array Value}{t:TypeId}(h:Al w b cs t)(T:Aj lo hi w w')(hd:b < lo∨hi≤b):Al w' b cs t:=⟨(T.block b h.lt hd).trans h.out⟩
def PR.two (i:Nat) (op:Int) (p:Pt):PR→PR
 | .ok f q=> .ok (.bin i op p f) q
 | .bad q=> .bad q
theorem Ma (hp: 20≤pb)(lv:Nat)(op:Int)(f:ByteArray)(a:Ex)(n:Pt)(t:Af)(r:List Af)(x:PR)(w:World)(k:Nat)(h:Pp w pb g c T tl (t ::r) k)(o:Gy w aY)(h0:Er a n)(s:a.own (pb+1) w)(u:CS aY pb g c T tl (.opd lv) r x):
  Calls Tryz.prog 177 #[.pointer (some ⟨pb,0,none⟩),.agg #[.int .i64 op,.int .i64 (lv:Int),.string f],a.val] w (Gd aY pb g c T tl (x.two t.at_ op n) w):=by
 have K:Hid (∀ w' i,Pp w' pb g c T tl r i→Gy w' aY→Calls Tryz.prog 175 #[.pointer (some ⟨pb,0,none⟩),.int .i64 (lv:Int)] w' (Gd aY pb g c T tl x w')):=Ab (fun w' i L=>u w' i L);have Z:=CW (.int .i64 t.kind) (.int .i64 t.num) (.string t.text) (.int .i64 (t.at_:Int));obtain ⟨aa,ab,j⟩:=a.form;rw[j];have l:=(Below.refl w.heap.size w).alloc NLN (.cells #[.int .i64 op,.int .i64 (lv:Int),.string f] 249);have M:=Al.new w #[.int .i64 op,.int .i64 (lv:Int),.string f] 249;have N:=Ab (BZ (h.below l));have O:=Ab (o.below l);have P:=Ab j;have y:=Ab (And.intro h0 s);have nz:=h.row.lt;clear h o u h0 s j;go_enter Tryz.func177,Tryz.ntmps177
 go_wp2_with fail
 generalize Q:w.alloc (.cells #[.int .i64 op,.int .i64 (lv:Int),.string f] 249)=W at *;clear Q;refine (Aa N).mono ?_;rintro e R ⟨rfl,z,T1⟩;have A:=M.touchP T1 (.inr nz);have m:=(Aj.of_below (lo:=pb) (hi:=pb+1) l NLN).trans T1;obtain ⟨B,C,E,F⟩:=Cd A;dsimp only[Dq];go_wp2_with fail
 refine (Aa K R _ z ((Aa O).touch T1 hp)).mono ?_;intro ac w2 H;clear z B C E F;cases x with
 |bad q=>
  obtain ⟨⟨v,b,rfl,S,U⟩,d⟩:=H;rcases S with rfl | ⟨ad,ae,rfl⟩
  all_goals
   dsimp only[Ci];go_wp2_with fail
   go_ret2
   exact ⟨⟨.nilIface,b,rfl,.inl rfl,U⟩,m.trans d⟩
 |ok p q=>
  obtain ⟨⟨e,V,rfl,he,I,X⟩,d⟩:=H;obtain ⟨af,ag,hf⟩:=e.form;have J:=Ab (And.intro he I);rw[hf];have Y:=Ab hf;clear he I hf;obtain ⟨B,C,E,F⟩:=Cd (A.touchP d (.inr nz));dsimp only;go_wp2_with fail
  go_ret2
  exact ⟨⟨.bin t.at_ op a e,V,by rw[Ex.val,Aa Y,Aa P];rfl,⟨rfl,rfl,(Aa y).1,(Aa J).1⟩,⟨a.own_touch (m.trans d) (Aa y).2,(Aa J).2⟩,X⟩,m.trans d⟩
end Go.Proofs.YtchakjeegneeoaaGreatDoor
