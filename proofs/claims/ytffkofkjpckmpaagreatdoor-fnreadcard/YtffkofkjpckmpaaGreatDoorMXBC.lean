/-
  GF, GH, GI, GK, GL, GM. Own work.
-/
import Derived.Test.YtffkofkjpckmpaaGreatDoorMXAZ
import Derived.Test.YtffkofkjpckmpaaGreatDoorMXBA
import Derived.Test.YtffkofkjpckmpaaGreatDoorMXBB
import Derived.Test.YtffkofkjpckmpaaGreatDoorMXAS
import Derived.Test.YtffkofkjpckmpaaGreatDoorMXAJ
import Derived.Test.YtffkofkjpckmpaaGreatDoorMXAB
import Derived.Test.YtffkofkjpckmpaaGreatDoorMXAP
namespace Go.Proofs.YtffkofkjpckmpaaGreatDoor
set_option maxHeartbeats 1600000
open Go.RowKit
set_option linter.unusedVariables false
def eT (tl:Nat):Ae:=⟨0,0,AB [],tl⟩
def Dw (tl:Nat):List Ae→Ae
 | []=>eT tl
 |t ::_=>t
structure Pp (w:World) (pb g c:Nat) (T:List Ae) (tl:Nat) (ts:List Ae) (k:Nat):Prop where
 row:Am w pb #[.slice (some ⟨g,0,none⟩) (T.length+1) c,.int .i64 (k:Int)] 97
 toks:w.ownsRow 0 42 4 (.slice (some ⟨g,0,none⟩) (T.length+1) c) (T.length+1) (EN (T ++ [eT tl]))
 drop:T.drop k=ts
 len:k+ts.length=T.length
 small:T.length≤4000
theorem Pp.hd {w:World}{d g c:Nat}{T:List Ae}{a:Nat}{ts:List Ae}{k:Nat}(h:Pp w d g c T a ts k):k < (T ++ [eT a]).length∧∀ hk,(T ++ [eT a])[k]'hk=Dw a ts:=by
 have hl:=h.len;refine ⟨by simp;omega,fun hk=>?_⟩;cases ts with
 |nil=>
  have e:k=T.length:=by simpa using hl
  subst e;simp[Dw]
 |cons t r=>
  have b:k < T.length:=by simp at hl;omega
  rw[zu b];have:=zq b;rw[h.drop] at this;injection this with h1 h2;exact h1.symm
theorem Pp.cells {w:World}{d g c:Nat}{T:List Ae}{a:Nat}{ts:List Ae}{k:Nat}(h:Pp w d g c T a ts k):
  w.cell? ⟨g,k * 4,none⟩=some (.int .i64 (Dw a ts).kind)∧w.cell? ⟨g,k * 4+1,none⟩=some (.int .i64 (Dw a ts).num)∧w.cell? ⟨g,k * 4+2,none⟩=some (.string (Dw a ts).text)∧w.cell? ⟨g,k * 4+3,none⟩=some (.int .i64 ((Dw a ts).at_:Int)):=by
 obtain ⟨hk,he⟩:=h.hd;obtain ⟨b,e1,e2,e3⟩:=Im (T ++ [eT a]) k hk;rw[he hk] at b e1 e2 e3;have hl:k < T.length+1:=by simpa using hk
 exact ⟨(h.toks.cellAt _ (by omega)).trans b,(h.toks.cellAt _ (by omega)).trans e1,(h.toks.cellAt _ (by omega)).trans e2,(h.toks.cellAt _ (by omega)).trans e3⟩
theorem Pp.ne {w:World}{a g c:Nat}{T:List Ae}{b:Nat}{ts:List Ae}{k:Nat}(h:Pp w a g c T b ts k):g≠a:=fun e=>Ad h.row h.toks (by decide) (by rw[e];rfl)
theorem Pp.lt {w:World}{a g c:Nat}{T:List Ae}{b:Nat}{ts:List Ae}{k:Nat}(h:Pp w a g c T b ts k):g < w.heap.size:=(h.toks.lt g rfl).2
theorem Pp.below {w w':World}{a g c:Nat}{T:List Ae}{b:Nat}{ts:List Ae}{k:Nat}(h:Pp w a g c T b ts k)(d:Below w.heap.size w w'):Pp w' a g c T b ts k:=
 ⟨h.row.after d NLN,Ac h.toks (fun q hq=>d.block q (h.toks.lt q hq).2),h.drop,h.len,h.small⟩
theorem Pp.drew {w:World}{a g c:Nat}{T:List Ae}{b:Nat}{ts:List Ae}{k:Nat}(h:Pp w a g c T b ts k):Pp w.drew a g c T b ts k:=h.below (Below.refl w.heap.size w).drew
theorem Ua {g:World}{b:Nat}{i j k l:Value}{t:TypeId}(h:Am g b #[i,j,k,l] t)(a c d f:Value):
  ((((g.setCell ⟨b,0,none⟩ a).setCell ⟨b,1,none⟩ c).setCell ⟨b,2,none⟩ d).setCell ⟨b,3,none⟩ f).drew.cell? ⟨b,0,none⟩=some a∧((((g.setCell ⟨b,0,none⟩ a).setCell ⟨b,1,none⟩ c).setCell ⟨b,2,none⟩ d).setCell ⟨b,3,none⟩ f).drew.cell? ⟨b,1,none⟩=some c∧
  ((((g.setCell ⟨b,0,none⟩ a).setCell ⟨b,1,none⟩ c).setCell ⟨b,2,none⟩ d).setCell ⟨b,3,none⟩ f).drew.cell? ⟨b,2,none⟩=some d∧((((g.setCell ⟨b,0,none⟩ a).setCell ⟨b,1,none⟩ c).setCell ⟨b,2,none⟩ d).setCell ⟨b,3,none⟩ f).drew.cell? ⟨b,3,none⟩=some f:=by
 have R:Am ((((g.setCell ⟨b,0,none⟩ a).setCell ⟨b,1,none⟩ c).setCell ⟨b,2,none⟩ d).setCell ⟨b,3,none⟩ f).drew b #[a,c,d,f] t:=⟨(AI h a c d f).out⟩
 obtain ⟨m,g1,g2,g3,_⟩:=AU R;exact ⟨m,g1,g2,g3⟩
theorem VC {c:Func}{a:Tmp}(h:c.results= #[.cell a 42]){d:Array Value}{w:World}{b:Nat}{f g i j:Value}(k:d.getD a undef= .pointer (some ⟨b,0,none⟩))
  (l:w.cell? ⟨b,0,none⟩=some f)(g1:w.cell? ⟨b,1,none⟩=some g)(g2:w.cell? ⟨b,2,none⟩=some i)(g3:w.cell? ⟨b,3,none⟩=some j):
  (results c d).run Tryz.prog w= .ok (.agg #[f,g,i,j]) w:=by
 rw[yA] at k;simp[results,h,k,go_sem,l,g1,g2,g3]
def Dc (t:Ae):Value:= .agg #[.int .i64 t.kind,.int .i64 t.num,.string t.text,.int .i64 (t.at_:Int)]
theorem BN {w:World}{f g c:Nat}{T:List Ae}{d:Nat}{ts:List Ae}{k:Nat}(h:Pp w f g c T d ts k):
  Calls Tryz.prog 127 #[.pointer (some ⟨f,0,none⟩)] w fun e w'=>e= .returned (Dc (Dw d ts))∧Below w.heap.size w w':=by
 have i:=(Below.refl w.heap.size w).alloc NLN (.cells #[.int .i64 0,.int .i64 0,.string ⟨#[]⟩,.int .i64 0] 42);have j:=Am.new w #[.int .i64 0,.int .i64 0,.string ⟨#[]⟩,.int .i64 0] 42;have a:=h.below i;obtain ⟨l,c1,c2,c3⟩:=a.cells;have m:=a.row.cell 0;have n:=a.row.cell 1;have hl:=h.len;have q:(k:Int) < ((T.length+1 :Nat):Int):=by omega
 have r:=h.lt;have s:=h.row.lt;obtain ⟨u,d1,d2,d3,v⟩:=AU j;simp only[zn,zh,zc] at m n;generalize Dw d ts=t at l c1 c2 c3 ⊢;clear h a;go_enter Tryz.func127,Tryz.ntmps127
 go_wp2_with fail
 generalize w.alloc (.cells #[.int .i64 0,.int .i64 0,.string ⟨#[]⟩,.int .i64 0] 42)=x at *;go_region
 go_wp2_with fail
 have o:=Ao (b:=w.heap.size) i NLN (.int .i64 t.kind) (.int .i64 t.num) (.string t.text) (.int .i64 (t.at_:Int));obtain ⟨p,g1,g2,g3⟩:=Ua j (.int .i64 t.kind) (.int .i64 t.num) (.string t.text) (.int .i64 (t.at_:Int));exact bodyPost_ret (VC Tryz.results127 rfl p g1 g2 g3) rfl ⟨rfl,o.drew⟩
theorem Ak.setNewP {lo hi:Nat}{w w':World}(T:Ak lo hi w w')(p:Addr)(u:Value)(hp:w.heap.size≤p.block):Ak lo hi w (w'.setCell p u):=
 ⟨T.os,T.tape,T.output,by simp;exact T.size,fun k h1 h2=>(heap_setCell_other w' p k u (by omega)).trans (T.block k h1 h2)⟩
theorem Ak.put4P {lo hi:Nat}{w w':World}{b:Nat}(T:Ak lo hi w w')(hp:w.heap.size≤b)(a c d f:Value):Ak lo hi w (CC w' b a c d f):=
 (((T.setNewP ⟨b,0,none⟩ a hp).setNewP ⟨b,1,none⟩ c hp).setNewP ⟨b,2,none⟩ d hp).setNewP ⟨b,3,none⟩ f hp
theorem Ak.allP {lo hi:Nat}{w a b:World}(T:Ak lo hi w a)(h:Below a.heap.size a b):Ak lo hi w b:=T.trans (Ak.of_below h NLN)
theorem Pp.next {w:World}{a g c:Nat}{T:List Ae}{b:Nat}{t:Ae}{r:List Ae}{k:Nat}(h:Pp w a g c T b (t ::r) k){w':World}(d:Am w' a #[.slice (some ⟨g,0,none⟩) (T.length+1) c,.int .i64 ((k:Int)+1)] 97)(ht:Ak a (a+1) w w'):Pp w' a g c T b r (k+1):=by
 have hl:=h.len;have f:=h.drop;refine ⟨by rw[show ((k+1 :Nat):Int)=(k:Int)+1 by omega];exact d,Ac h.toks (fun q hq=>?_), ?_,by simp at hl;omega,h.small⟩
 ·have e:g=q:=by simpa[Value.ownBlock] using hq
  have i:=h.ne;exact ht.block q (by rw[← e];exact h.lt) (by omega)
 ·rw[← List.drop_drop,f];rfl
theorem Cc {w:World}{a g c:Nat}{T:List Ae}{u:Nat}{t:Ae}{r:List Ae}{k:Nat}(h:Pp w a g c T u (t ::r) k):
  Calls Tryz.prog 148 #[.pointer (some ⟨a,0,none⟩)] w fun e w'=>e= .returned (Dc t)∧Pp w' a g c T u r (k+1)∧Ak a (a+1) w w':=by
 have d:=(Below.refl w.heap.size w).alloc NLN (.cells #[.int .i64 0,.int .i64 0,.string ⟨#[]⟩,.int .i64 0] 42);have n:=Am.new w #[.int .i64 0,.int .i64 0,.string ⟨#[]⟩,.int .i64 0] 42;have f:=h.below d;obtain ⟨M,c1,c2,c3⟩:=f.cells;have v:=f.row.cell 0;have i:=f.row.cell 1;have hl:=h.len;have R:(k:Int) < ((T.length+1 :Nat):Int):=by omega
 have S:=h.lt;have U:=h.row.lt;obtain ⟨x,d1,d2,d3,y⟩:=AU n;simp only[zn,zh,zc] at v i;have z:=d.alloc d.size (.cells #[.int .i64 0,.int .i64 0,.string ⟨#[]⟩,.int .i64 0] 42);have l:=h.below z;obtain ⟨A,e1,e2,e3⟩:=l.cells;have B:=l.row.cell 0;have C:=l.row.cell 1;simp only[zn,zh,zc] at B C;have E:(w.alloc (.cells #[.int .i64 0,.int .i64 0,.string ⟨#[]⟩,.int .i64 0] 42)).heap.size=w.heap.size+1:=by simp
 go_enter Tryz.func148,Tryz.ntmps148
 go_wp2_with fail
 go_region
 dsimp only[Dw] at *;have o:=(d.alloc d.size (.cells #[.int .i64 t.kind,.int .i64 t.num,.string t.text,.int .i64 (t.at_:Int)] 42)).drew;have m:=h.below o;have q:=((n.alloc (.cells #[.int .i64 t.kind,.int .i64 t.num,.string t.text,.int .i64 (t.at_:Int)] 42)).after BRN.drew NLN)
 have s:=(Am.new (w.alloc (.cells #[.int .i64 0,.int .i64 0,.string ⟨#[]⟩,.int .i64 0] 42)) #[.int .i64 t.kind,.int .i64 t.num,.string t.text,.int .i64 (t.at_:Int)] 42).after BRN.drew NLN;rw[E] at s;generalize ((w.alloc (.cells #[.int .i64 0,.int .i64 0,.string ⟨#[]⟩,.int .i64 0] 42)).alloc (.cells #[.int .i64 t.kind,.int .i64 t.num,.string t.text,.int .i64 (t.at_:Int)] 42)).drew=X at o m q s ⊢;clear M c1 c2 c3 v i x d1 d2 d3 y A e1 e2 e3 B C l f n d z E;have i:=m.row.cell 1;have V:=fun j=>m.row.frozen j;simp only[zn,zh,zc] at i;obtain ⟨x,d1,d2,d3,y⟩:=AU q;obtain ⟨A,e1,e2,e3,W⟩:=AU s;have N:w.heap.size≠a:=by omega
 have Y:w.heap.size+1≠a:=by omega
 have O:a≠w.heap.size:=by omega
 have Z:a≠w.heap.size+1:=by omega
 go_wp2_with fail
 have P:wrap64 ((k:Int)+1)=(k:Int)+1:=by
  have hs:=h.small;have:k≤4000:=by omega
  simp[wrap64];omega
 rw[P];have F:=m.row.set 1 (.int .i64 ((k:Int)+1));have H:=(Ak.of_below (lo:=a) (hi:=a+1) o NLN).trans (Ak.setCell X ⟨a,1,none⟩ (.int .i64 ((k:Int)+1)) NLN (Nat.lt_succ_self _));have I:=q.setFar (p:=⟨a,1,none⟩) N (.int .i64 ((k:Int)+1));generalize X.setCell ⟨a,1,none⟩ (.int .i64 ((k:Int)+1))=J at F H I ⊢;have Q:Am (CC J w.heap.size (.int .i64 t.kind) (.int .i64 t.num) (.string t.text) (.int .i64 (t.at_:Int))) a _ 97:=⟨(I8 J w.heap.size a _ _ _ _ O).trans F.out⟩
 have K:=H.put4P (b:=w.heap.size) NLN (.int .i64 t.kind) (.int .i64 t.num) (.string t.text) (.int .i64 (t.at_:Int));obtain ⟨L,g1,g2,g3,_⟩:=AU (AI I (.int .i64 t.kind) (.int .i64 t.num) (.string t.text) (.int .i64 (t.at_:Int)));simp only[CC] at L g1 g2 g3;exact bodyPost_ret (VC Tryz.results148 rfl L g1 g2 g3) rfl ⟨rfl,h.next Q K,K⟩
set_option maxRecDepth 100000
theorem Uc (s:List UInt8)(a:Nat)(ts:List Ae):see s (Dw a ts)=AM s ts:=by
 cases ts with
 |nil=>rfl
 |cons t r=>rfl
theorem Aap (a b:ByteArray):(a.toList== b.toList)=decide (a=b):=by
 have h:=FG a b;rw[eqS] at h;by_cases e:a=b
 ·rw[zR e];exact h.2 e
 ·rw[zK e,Z2];exact fun k=>e (h.1 k)
theorem AW {w:World}{b g c:Nat}{T:List Ae}{a:Nat}{ts:List Ae}{k:Nat}(h:Pp w b g c T a ts k)(s:List UInt8):
  Calls Tryz.prog 123 #[.pointer (some ⟨b,0,none⟩),.string (AB s)] w fun e w'=>e= .returned (.bool (AM s ts))∧Below w.heap.size w w':=by
 rw[← Uc s a ts];have d:=Ab (BN h);generalize Dw a ts=t at d ⊢;clear h;go_enter Tryz.func123,Tryz.ntmps123
 go_wp2_with fail
 refine (Aa d).mono ?_;rintro e i ⟨rfl,f⟩;rw[Dc];dsimp only;go_wp2_with fail
 all_goals
  go_ret
  refine ⟨?_,f.alloc f.size _⟩
  congr 2
  simp[see,Aap, *]
def XR (aY:Addr) (tl:Nat) (q:List Ae) (b:Nat) (w:World):Prop:=Am w b #[.int .i64 ((Dw tl q).at_:Int),.iface 276 (.pointer (some aY))] 109
def Ck (b:Nat):Value:= .iface 104 (.pointer (some ⟨b,0,none⟩))
structure Gy (w:World) (aY:Addr):Prop where
 cell:w.cell? ⟨6,0,none⟩=some (.iface 276 (.pointer (some aY)))
 big: 17≤w.heap.size
 tab:∀ k,w.cell? ⟨10,k,none⟩=EL[k]?
theorem Gy.touch {w w':World}{aY:Addr}{a:Nat}(h:Gy w aY)(T:Ak a (a+1) w w')(hp: 17≤a):Gy w' aY:=by
 have c:=h.big;have b:∀ q,q < 17→∀ j,w'.cell? ⟨q,j,none⟩=w.cell? ⟨q,j,none⟩:=fun q hq j=>by
  unfold World.cell?;rw[T.block q (by omega) (.inl (by omega))]
 exact ⟨(b _ (by decide) 0).trans h.cell,zL c T.size,fun k=>(b _ (by decide) k).trans (h.tab k)⟩
theorem Gy.below {w w':World}{aY:Addr}(h:Gy w aY)(a:Below w.heap.size w w'):Gy w' aY:=h.touch (Ak.of_below (lo:=17) (hi:=17 +1) a NLN) NLN
theorem CM (a b c d:Value)(w:World):(Instr.field 42 (.agg #[a,b,c,d]) 3).run Tryz.prog w= .ok d w:=by
 simp[Instr.field,run_underlying Tryz.underlying42,Sem.run_bind,part,asAgg,isAgg,go_sem]
theorem EZ {w:World}{j g c:Nat}{T:List Ae}{f:Nat}{ts:List Ae}{k:Nat}{aY:Addr}(h:Pp w j g c T f ts k)(a:Gy w aY):
  Calls Tryz.prog 85 #[.pointer (some ⟨j,0,none⟩)] w fun e w'=>∃ b,e= .returned (Ck b)∧XR aY f ts b w'∧Below w.heap.size w w':=by
 have l:=Ab (BN h.drew);have q:=a.cell;have r:=(a.below (Below.refl w.heap.size w).drew).cell;have m:=Ab (a.below (Below.refl w.heap.size w).drew);have i:=(Below.refl w.heap.size w).drew;unfold XR;generalize Dw f ts=t at l ⊢;have s:=CM (.int .i64 t.kind) (.int .i64 t.num) (.string t.text) (.int .i64 (t.at_:Int));clear h a;go_enter Tryz.func85,Tryz.ntmps85
 go_wp2_with fail
 go_region_held3 (fun w'=>w'.cell? ⟨6,0,none⟩=some (.iface 276 (.pointer (some aY)))) (first | assumption | go_keep) (first
  |(go_at_call 82;refine (Ez _ _ _ o).mono ?_;rintro e u ⟨rfl,p,n⟩;have q3:=((Aa m).below d |>.below n).cell)
  |(go_at_call 127;refine (Aa l).mono ?_;rintro e o ⟨rfl,d⟩;rw[Dc];have q2:=((Aa m).below d).cell)
  |fail)
 all_goals
  go_wp2_with fail
  go_ret
  exact ⟨_,rfl,p,i.trans ((d.mono i.size).trans (n.mono (zL i.size d.size)))⟩
theorem Dh {w:World}{a g c:Nat}{T:List Ae}{d:Nat}{t:Ae}{r:List Ae}{k:Nat}(h:Pp w a g c T d (t ::r) k)(s:List UInt8)(hs:see s t=true):
  Calls Tryz.prog 150 #[.pointer (some ⟨a,0,none⟩),.string (AB s)] w fun e w'=>e= .returned .nilIface∧Pp w' a g c T d r (k+1)∧Ak a (a+1) w w':=by
 have f:=Ab (AW h s);have i:=Ab (show AM s (t ::r)=true from hs);have j:=Ab (fun w' (b:Below w.heap.size w w')=>Cc (h.below b));clear h hs;go_enter Tryz.func150,Tryz.ntmps150
 go_wp2_with fail
 refine (Aa f).mono ?_;rintro e l ⟨rfl,b⟩;rw[Aa i];dsimp only;go_wp2_with fail
 refine (Aa j l b).mono ?_;rintro e o ⟨rfl,m,n⟩;dsimp only[Dc];go_wp2_with fail
 go_ret
 exact ⟨rfl,m,(Ak.of_below b NLN).trans n⟩
theorem Eh {w:World}{d g c:Nat}{T:List Ae}{f:Nat}{ts:List Ae}{k:Nat}{aY:Addr}(h:Pp w d g c T f ts k)(i:Gy w aY)(s:List UInt8)(hs:AM s ts=false):
  Calls Tryz.prog 150 #[.pointer (some ⟨d,0,none⟩),.string (AB s)] w fun e w'=>∃ b,e= .returned (Ck b)∧XR aY f ts b w'∧Below w.heap.size w w':=by
 have j:=Ab (AW h s);have l:=Ab hs;have m:=Ab (fun w' (a:Below w.heap.size w w')=>EZ (h.below a) (i.below a));clear h hs i;go_enter Tryz.func150,Tryz.ntmps150
 go_wp2_with fail
 refine (Aa j).mono ?_;rintro e n ⟨rfl,a⟩;rw[Aa l];dsimp only;go_wp2_with fail
 refine (Aa m n a).mono ?_;rintro e q ⟨b,rfl,o,p⟩;dsimp only[Ck];go_wp2_with fail
 go_ret
 exact ⟨b,rfl,o,a.trans (p.mono a.size)⟩
end Go.Proofs.YtffkofkjpckmpaaGreatDoor
namespace Go.Proofs.YtffkofkjpckmpaaGreatDoor
set_option maxRecDepth 100000
set_option maxHeartbeats 1600000
open Go.RowKit
set_option linter.unusedVariables false
def Er:Ex→Pt→Prop
 | .int i n,.int j m=>i=j∧n=m
 | .text i s,.text j t=>i=j∧s=t
 | .bool i b,.bool j d=>i=j∧b=d
 | .set i _ _ _ K,.set j ss=>i=j∧Cl ss K
 | .name i s,.name j t=>i=j∧s=t
 | .un i op k,.un j o q=>i=j∧op=o∧Er k q
 | .bin i op l r,.bin j o p q=>i=j∧op=o∧Er l p∧Er r q
 | .ite i c t e,.ite j x y z=>i=j∧Er c x∧Er t y∧Er e z
 |_,_=>False
def Ex.own (lo:Nat) (w:World):Ex→Prop
 | .set _ a n c ss=>w.ownsRow lo 9 1 (.slice a n c) n (ss.map Value.string)
 | .un _ _ k=>k.own lo w
 | .bin _ _ l r=>l.own lo w∧r.own lo w
 | .ite _ c t e=>c.own lo w∧t.own lo w∧e.own lo w
 |_=>True
theorem Ex.own_touch {b:Nat}{w w':World}(T:Ak b (b+1) w w'):∀ (e:Ex),e.own (b+1) w→e.own (b+1) w'
 | .int ..,h=>h
 | .text ..,h=>h
 | .bool ..,h=>h
 | .set _ a n c ss,h=>by
  have d:w.ownsRow (b+1) 9 1 (.slice a n c) n (ss.map Value.string):=h;exact Ac d (fun q hq=>T.block q (d.lt q hq).2 (.inr (d.lt q hq).1))
 | .name ..,h=>h
 | .attr ..,h=>h
 | .lett ..,h=>h
 | .un _ _ k,h=>k.own_touch T h
 | .bin _ _ l r,h=>⟨l.own_touch T h.1,r.own_touch T h.2⟩
 | .ite _ c t e,h=>⟨c.own_touch T h.1,t.own_touch T h.2.1,e.own_touch T h.2.2⟩
def GW (v:Value):Prop:=v= .nilIface∨∃ t u,v= .iface t u
def FH (aY:Addr) (pb g c:Nat) (T:List Ae) (tl:Nat):PR→World→Ending→World→Prop
 | .ok p q,w,r,w'=>(∃ e k,r= .returned (.tuple #[Ex.val e,.nilIface])∧Er e p∧e.own (pb+1) w'∧Pp w' pb g c T tl q k)∧Ak pb (pb+1) w w'
 | .bad q,w,r,w'=>(∃ v b,r= .returned (.tuple #[v,Ck b])∧GW v∧XR aY tl q b w')∧Ak pb (pb+1) w w'
theorem FH.from {aY:Addr}{a g c:Nat}{T:List Ae}{b:Nat}{x:PR}{d w w':World}{r:Ending}(h:FH aY a g c T b x w r w')(f:Ak a (a+1) d w):FH aY a g c T b x d r w':=by
 cases x with
 |ok p q=>exact ⟨h.1,f.trans h.2⟩
 |bad q=>exact ⟨h.1,f.trans h.2⟩
theorem Ex.val_if (e:Ex):GW e.val:= .inr (by obtain ⟨t,u,h⟩:=e.form;exact ⟨t,u,h⟩)
theorem FH.form {aY:Addr}{a g c:Nat}{T:List Ae}{d:Nat}{x:PR}{w w':World}{r:Ending}(h:FH aY a g c T d x w r w'):∃ v e,r= .returned (.tuple #[v,e])∧GW v∧GW e:=by
 cases x with
 |ok p q=>obtain ⟨⟨e,k,rfl,_⟩,_⟩:=h;exact ⟨_,_,rfl,e.val_if,.inl rfl⟩
 |bad q=>obtain ⟨⟨v,b,rfl,f,_⟩,_⟩:=h;exact ⟨_,_,rfl,f,.inr ⟨_,_,rfl⟩⟩
def NT.fn:NT→Nat
 | .expr=>164
 | .chain _=>178
 | .opd _=>186
 | .neg=>190
 | .cmp=>193
 | .una=>191
 | .prim=>194
 | .encl=>195
 | .beh _=>149
 | .more _ _=>0
def NT.args (pb:Nat):NT→Array Value
 | .chain k=>#[.pointer (some ⟨pb,0,none⟩),.int .i64 (k:Int)]
 | .opd k=>#[.pointer (some ⟨pb,0,none⟩),.int .i64 (k:Int)]
 | .beh s=>#[.pointer (some ⟨pb,0,none⟩),.string (AB s)]
 |_=>#[.pointer (some ⟨pb,0,none⟩)]
def CS (aY:Addr) (pb g c:Nat) (T:List Ae) (tl:Nat) (nt:NT) (ts:List Ae) (x:PR):Prop:=
 ∀ w k,Pp w pb g c T tl ts k→Gy w aY→Calls Tryz.prog nt.fn (nt.args pb) w (FH aY pb g c T tl x w)
variable {aY : Addr} {pb g c : Nat} {T : List Ae} {tl : Nat}
theorem Yi (hp: 17≤pb)(s:List UInt8)(ts:List Ae)(x:PR)(d:D (.beh s) ts x)(f:∀ r x,D .expr r x→r.length < ts.length→CS aY pb g c T tl .expr r x):CS aY pb g c T tl (.beh s) ts x:=by
 intro w k h a;show Calls Tryz.prog 149 #[.pointer (some ⟨pb,0,none⟩),.string (AB s)] w (FH aY pb g c T tl x w);cases d with
 |beh_no hs=>
  have i:=Ab (Eh h a s hs);clear h hs a f;go_enter Tryz.func149,Tryz.ntmps149
  go_wp2_with fail
  refine (Aa i).mono ?_;rintro e l ⟨b,rfl,n,o⟩;dsimp only[Ck];go_wp2_with fail
  go_ret2
  exact ⟨⟨.nilIface,b,rfl,.inl rfl,n⟩,Ak.of_below o NLN⟩
 |@beh s t r x hs d=>
  have i:=Ab (Dh h s hs);have p:=Ab (f r x d (by simp));have q:=Ab a;clear h hs a f;go_enter Tryz.func149,Tryz.ntmps149
  go_wp2_with fail
  refine (Aa i).mono ?_;rintro e l ⟨rfl,u,m⟩;dsimp only;go_wp2_with fail
  refine (Aa p l _ u ((Aa q).touch m hp)).mono ?_;intro r z j;obtain ⟨v,e,rfl,A,he⟩:=j.form;have y:=Ab (j.from m);clear j;dsimp only;go_wp2_with fail
  go_ret2
  exact Aa y
theorem Wy (hp: 17≤pb)(ts:List Ae)(x:PR)(d:D .encl ts x)(f:∀ x,D (.beh AH) ts x→CS aY pb g c T tl (.beh AH) ts x):CS aY pb g c T tl .encl ts x:=by
 intro w k h a;show Calls Tryz.prog 195 #[.pointer (some ⟨pb,0,none⟩)] w (FH aY pb g c T tl x w);have u:=Ab a;cases d with
 |encl_bad d=>
  have j:=Ab (f _ d w k h a);clear h a f;go_enter Tryz.func195,Tryz.ntmps195
  go_wp2_with fail
  refine (Aa j).mono ?_;rintro e o ⟨⟨v,b,rfl,y,z⟩,i⟩;rcases y with rfl | ⟨K,L,rfl⟩
  all_goals
   dsimp only[Ck];go_wp2_with fail
   go_ret2
   exact ⟨⟨.nilIface,b,rfl,.inl rfl,z⟩,i⟩
 |@encl_end ts r p d hs=>
  have j:=Ab (f _ d w k h a);clear h a f;go_enter Tryz.func195,Tryz.ntmps195
  go_wp2_with fail
  refine (Aa j).mono ?_;rintro e o ⟨⟨e,A,rfl,he,m,l⟩,i⟩;obtain ⟨B,C,hf⟩:=e.form;rw[hf];dsimp only;have n:=Ab (Eh l ((Aa u).touch i hp) AS hs);clear l;go_wp2_with fail
  refine (Aa n).mono ?_;rintro e E ⟨b,rfl,F,H⟩;dsimp only[Ck];go_wp2_with fail
  go_ret2
  exact ⟨⟨_,b,rfl,.inr ⟨_,_,rfl⟩,F⟩,i.allP H⟩
 |@encl ts r p t d hs=>
  have j:=Ab (f _ d w k h a);clear h a f;go_enter Tryz.func195,Tryz.ntmps195
  go_wp2_with fail
  refine (Aa j).mono ?_;rintro e o ⟨⟨e,A,rfl,he,m,l⟩,i⟩;obtain ⟨B,C,hf⟩:=e.form;have q:=Ab (And.intro he m);rw[hf];have I:=Ab hf;clear he m hf;dsimp only;have n:=Ab (Dh l AS hs);clear l;go_wp2_with fail
  refine (Aa n).mono ?_;rintro e E ⟨rfl,J,s⟩;dsimp only;go_wp2_with fail
  go_ret2
  exact ⟨⟨e,_,by rw[Aa I];rfl,(Aa q).1,e.own_touch s (Aa q).2,J⟩,i.trans s⟩
end Go.Proofs.YtffkofkjpckmpaaGreatDoor
namespace Go.Proofs.YtffkofkjpckmpaaGreatDoor
set_option maxRecDepth 100000
set_option maxHeartbeats 3200000
open Go.RowKit
set_option linter.unusedVariables false
variable {aY : Addr} {pb g c : Nat} {T : List Ae} {tl : Nat}
theorem Aaq:∀ j,j < 16→(Aj (Ev j).text,(Ev j).op)∈BR (Ev j).lv.toNat∧0≤(Ev j).lv
 | 0,_=>by decide
 | 1,_=>by decide
 | 2,_=>by decide
 | 3,_=>by decide
 | 4,_=>by decide
 | 5,_=>by decide
 | 6,_=>by decide
 | 7,_=>by decide
 | 8,_=>by decide
 | 9,_=>by decide
 | 10,_=>by decide
 | 11,_=>by decide
 | 12,_=>by decide
 | 13,_=>by decide
 | 14,_=>by decide
 | 15,_=>by decide
 |n+16,h=>absurd h (by omega)
theorem Aar {k:Nat}{p:List UInt8 × Int}(h:p∈BR k):∃ j,j < 16∧(Ev j).lv=(k:Int)∧Aj (Ev j).text=p.1:=by
 have a1:∀ p∈BR 1,∃ j,j < 16∧(Ev j).lv=((1 :Nat):Int)∧Aj (Ev j).text=p.1:=by decide
 have a2:∀ p∈BR 2,∃ j,j < 16∧(Ev j).lv=((2 :Nat):Int)∧Aj (Ev j).text=p.1:=by decide
 have a4:∀ p∈BR 4,∃ j,j < 16∧(Ev j).lv=((4 :Nat):Int)∧Aj (Ev j).text=p.1:=by decide
 have a5:∀ p∈BR 5,∃ j,j < 16∧(Ev j).lv=((5 :Nat):Int)∧Aj (Ev j).text=p.1:=by decide
 have a6:∀ p∈BR 6,∃ j,j < 16∧(Ev j).lv=((6 :Nat):Int)∧Aj (Ev j).text=p.1:=by decide
 match k,h with
 | 0,h | 3,h=>cases h
 | 1,h=>exact a1 p h
 | 2,h=>exact a2 p h
 | 4,h=>exact a4 p h
 | 5,h=>exact a5 p h
 | 6,h=>exact a6 p h
 |k+7,h=>cases h
theorem Aas {k:Nat} :∀ p∈BR k,∀ q∈BR k,p.1=q.1→p=q:=by
 match k with
 | 0 | 3=>intro p h;cases h
 | 1=>decide
 | 2=>decide
 | 4=>decide
 | 5=>decide
 | 6=>decide
 |k+7=>intro p h;cases h
theorem Ym {k:Nat}{t:Ae}{s:List UInt8}{op:Int}(h:(s,op)∈BR k)(hs:see s t=true):BZ k t=some op:=by
 cases hf:(BR k).find? (fun p=>see p.1 t) with
 |none=>rw[List.find?_eq_none] at hf;exact absurd hs (hf _ h)
 |some q=>
  have h1:=List.mem_of_find?_eq_some hf;have h2:see q.1 t=true:=by have:=List.find?_some hf;simpa using this
  have e:s=q.1:=by
   by_cases e:s=q.1
   ·exact e
   ·rw[Ag hs e] at h2;cases h2
  have:=Aas _ h _ h1 e;rw[BZ,hf,← this];rfl
theorem Wz {k:Nat}{t:Ae}(h:∀ j,j < 16→(Ev j).lv=(k:Int)→see (Aj (Ev j).text) t=false):BZ k t=none:=by
 rw[BZ,Option.map_eq_none_iff,List.find?_eq_none];intro p hp;obtain ⟨j,a,h1,h2⟩:=Aar hp;have:=h j a h1;rw[h2] at this;simp[this]
def OpA (k:Nat) (t:Ae) (r:Ending):Prop:=match BZ k t with
 |some op=>∃ tx,r= .returned (.tuple #[.agg #[.int .i64 op,.int .i64 (k:Int),.string tx],.bool true])
 |none=>r= .returned (.tuple #[.agg #[.int .i64 0,.int .i64 0,.string ⟨#[]⟩],.bool false])
theorem Fg (lv:Nat){w:World}{ts:List Ae}{k:Nat}(h:Pp w pb g c T tl ts k)(u:Gy w aY):
  Calls Tryz.prog 187 #[.pointer (some ⟨pb,0,none⟩),.int .i64 (lv:Int)] w fun e w'=>OpA lv (Dw tl ts) e∧Below w.heap.size w w':=by
 have Y:=u.big;have J:=Ab (show ∀ k,(w.alloc (.cells #[.int .i64 0,.int .i64 0,.string ⟨#[]⟩] 227)).cell? ⟨10,k,none⟩=EL[k]? from fun k=>(World.cell?_alloc_lt _ _ ⟨10,k,none⟩ (by show 10 < _;omega)).trans (u.tab k));have N:=Ab h;clear u h;have K:=(Below.refl w.heap.size w).alloc NLN (.cells #[.int .i64 0,.int .i64 0,.string ⟨#[]⟩] 227);have L:=Am.new w #[.int .i64 0,.int .i64 0,.string ⟨#[]⟩] 227;go_enter Tryz.func187,Tryz.ntmps187
 go_wp2_with (refine DU rfl 244 _ rfl 10 rfl EL _ (Aa J) Tryz.underlying244 rfl (by kernel_rfl) ?_)
 clear J;go_loopw [9] (fun i wr=>∃ j:Nat,j≤16∧i= .int .i64 j∧Below w.heap.size w wr∧Am wr w.heap.size #[.int .i64 0,.int .i64 0,.string ⟨#[]⟩] 227∧∀ i,i < j→(Ev i).lv=(lv:Int)→see (Aj (Ev i).text) (Dw tl ts)=false) (fun i _=>16 - (intOf i).toNat)
 case atStart=>exact ⟨0,by omega,rfl,K,L,fun j h=>absurd h (by omega)⟩
 case round=>
  obtain ⟨j,Z,rfl,v,n,M⟩:=hrel;have o:=Ab M;clear M K L;by_cases q:j < 16
  ·have aa:(j:Int) < 16:=by omega
   have r:=Ab (Jy j q);have x:=Ab (Aaq j q);have d:=Ab q;have l:=Ab (show ((Ev j).lv=(lv:Int)→see (Aj (Ev j).text) (Dw tl ts)=false)→∀ i,i < j+1→(Ev i).lv=(lv:Int)→see (Aj (Ev i).text) (Dw tl ts)=false from fun e i hi=>by
    by_cases O:i=j
    ·subst O;exact e
    ·exact Aa o i (by omega))
   clear o q;generalize Ev j=a at r l x;have m:=v.alloc v.size (.cells #[.int .i64 a.op,.int .i64 a.lv,.string a.text] 227);have t:=n.alloc (.cells #[.int .i64 a.op,.int .i64 a.lv,.string a.text] 227);have P:=Am.new wr #[.int .i64 a.op,.int .i64 a.lv,.string a.text] 227;by_cases b:a.lv=(lv:Int)
   ·have Q:(a.lv==(lv:Int))=true:=zI.2 b;have y:=Ab (AW ((Aa N).below m) (Aj a.text));rw[Bn] at y;cases hs:see (Aj a.text) (Dw tl ts)
    ·have z:=Ab (Aa l (fun _=>hs));have A:=Ab (show AM (Aj a.text) ts=false by rw[← Uc (Aj a.text) tl ts];exact hs);clear b l hs;go_wp2_with (first | (refine Bt rfl 244 _ _ rfl EL rfl j rfl 16 227 Tryz.underlying244 (Aa d) _ Tryz.underlying227 rfl 3 (by kernel_rfl) _ (Aa r) ?_) | (go_at_call 123;refine (Aa y).mono ?_;rintro e R ⟨rfl,f⟩;rw[Aa A]))
     have B:=m.trans (f.mono m.size);have C:=t.after f NLN;go_roundw
     case rel=>exact ⟨j+1,Aa d,by go_num,B,C,Aa z⟩
     case measure=>have:=Aa d;simp[intOf];omega
    ·have A:=Ab (show AM (Aj a.text) ts=true by rw[← Uc (Aj a.text) tl ts];exact hs);have E:=Ab (show BZ lv (Dw tl ts)=some a.op from Ym (s:=Aj a.text) (by have:=(Aa x).1;rw[b] at this;exact this) hs);have S:=Ab b;clear l hs b x;have ab:=n.lt;have ac:wr.heap.size≠w.heap.size:=by omega
     have ad:w.heap.size≠wr.heap.size:=by omega
     go_wp2_with (first | (refine Bt rfl 244 _ _ rfl EL rfl j rfl 16 227 Tryz.underlying244 (Aa d) _ Tryz.underlying227 rfl 3 (by kernel_rfl) _ (Aa r) ?_) | (go_at_call 123;refine (Aa y).mono ?_;rintro e R ⟨rfl,f⟩;rw[Aa A];obtain ⟨U,V,q2,W⟩:=GX (t.after f NLN);obtain ⟨ae,af,ag,ah⟩:=GX (P.after f NLN)))
     have B:=m.trans (f.mono m.size);have C:=t.after f NLN;have F:Am _ w.heap.size #[.int .i64 a.op,.int .i64 a.lv,.string a.text] 227:=(((C.set 0 (.int .i64 a.op)).set 1 (.int .i64 a.lv)).set 2 (.string a.text))
     have H:=(((B.setCell (p:=⟨w.heap.size,0,none⟩) NLN (.int .i64 a.op)).setCell (p:=⟨w.heap.size,1,none⟩) NLN (.int .i64 a.lv)).setCell (p:=⟨w.heap.size,2,none⟩) NLN (.string a.text))
     obtain ⟨I,g1,g2,X⟩:=GX F;exact bodyPost_ret (JD Tryz.results187 rfl rfl I g1 g2) rfl ⟨by rw[OpA,Aa E,Aa S];exact ⟨_,rfl⟩,H⟩
   ·have Q:(a.lv==(lv:Int))=false:=zA.2 b;have z:=Ab (Aa l (fun e=>absurd e b));clear b l;go_wp2_with (refine Bt rfl 244 _ _ rfl EL rfl j rfl 16 227 Tryz.underlying244 (Aa d) _ Tryz.underlying227 rfl 3 (by kernel_rfl) _ (Aa r) ?_)
    go_roundw
    case rel=>exact ⟨j+1,Aa d,by go_num,m,t,Aa z⟩
    case measure=>have:=Aa d;simp[intOf];omega
  ·have e:j=16:=by omega
   subst e;have E:=Ab (show BZ lv (Dw tl ts)=none from Wz (Aa o));clear o;obtain ⟨U,V,q2,W⟩:=GX n;go_wp2_with fail
   have F:Am _ w.heap.size #[.int .i64 0,.int .i64 0,.string ⟨#[]⟩] 227:=((n.set 0 (.int .i64 0)).set 1 (.int .i64 0)).set 2 (.string ⟨#[]⟩);have H:=(((v.setCell (p:=⟨w.heap.size,0,none⟩) NLN (.int .i64 0)).setCell (p:=⟨w.heap.size,1,none⟩) NLN (.int .i64 0)).setCell (p:=⟨w.heap.size,2,none⟩) NLN (.string ⟨#[]⟩))
   obtain ⟨I,g1,g2,X⟩:=GX F;exact bodyPost_ret (JD Tryz.results187 rfl rfl I g1 g2) rfl ⟨by rw[OpA,Aa E];rfl,H⟩
end Go.Proofs.YtffkofkjpckmpaaGreatDoor
namespace Go.Proofs.YtffkofkjpckmpaaGreatDoor
set_option maxRecDepth 100000
set_option maxHeartbeats 1600000
open Go.RowKit
set_option linter.unusedVariables false
variable {aY : Addr} {pb g c : Nat} {T : List Ae} {tl : Nat}
theorem Am.touchP {w w':World}{b lo hi:Nat}{cs:Array Value}{t:TypeId}(h:Am w b cs t)(T:Ak lo hi w w')(a:b < lo∨hi≤b):Am w' b cs t:=⟨(T.block b h.lt a).trans h.out⟩
def PR.two (i:Nat) (op:Int) (p:Pt):PR→PR
 | .ok f q=> .ok (.bin i op p f) q
 | .bad q=> .bad q
theorem Lp (hp: 17≤pb)(lv:Nat)(op:Int)(f:ByteArray)(a:Ex)(o:Pt)(t:Ae)(r:List Ae)(x:PR)(w:World)(k:Nat)(h:Pp w pb g c T tl (t ::r) k)(s:Gy w aY)(h0:Er a o)(u:a.own (pb+1) w)(y:CS aY pb g c T tl (.opd lv) r x):
  Calls Tryz.prog 188 #[.pointer (some ⟨pb,0,none⟩),.agg #[.int .i64 op,.int .i64 (lv:Int),.string f],a.val] w (FH aY pb g c T tl (x.two t.at_ op o) w):=by
 have M:Hid (∀ w' i,Pp w' pb g c T tl r i→Gy w' aY→Calls Tryz.prog 186 #[.pointer (some ⟨pb,0,none⟩),.int .i64 (lv:Int)] w' (FH aY pb g c T tl x w')):=Ab (fun w' i N=>y w' i N);have aa:=CM (.int .i64 t.kind) (.int .i64 t.num) (.string t.text) (.int .i64 (t.at_:Int));obtain ⟨ab,ac,j⟩:=a.form;rw[j];have l:=(Below.refl w.heap.size w).alloc NLN (.cells #[.int .i64 op,.int .i64 (lv:Int),.string f] 227);have O:=Am.new w #[.int .i64 op,.int .i64 (lv:Int),.string f] 227;have P:=Ab (Cc (h.below l));have Q:=Ab (s.below l);have R:=Ab j;have z:=Ab (And.intro h0 u);have A:=h.row.lt;clear h s y h0 u j;go_enter Tryz.func188,Tryz.ntmps188
 go_wp2_with fail
 generalize S:w.alloc (.cells #[.int .i64 op,.int .i64 (lv:Int),.string f] 227)=ad at *;clear S;refine (Aa P).mono ?_;rintro e U ⟨rfl,B,m⟩;have C:=O.touchP m (.inr A);have n:=(Ak.of_below (lo:=pb) (hi:=pb+1) l NLN).trans m;obtain ⟨E,F,H,I⟩:=GX C;dsimp only[Dc];go_wp2_with fail
 refine (Aa M U _ B ((Aa Q).touch m hp)).mono ?_;intro ae af J;clear B E F H I;cases x with
 |bad q=>
  obtain ⟨⟨v,b,rfl,V,W⟩,d⟩:=J;rcases V with rfl | ⟨ag,ah,rfl⟩
  all_goals
   dsimp only[Ck];go_wp2_with fail
   go_ret2
   exact ⟨⟨.nilIface,b,rfl,.inl rfl,W⟩,n.trans d⟩
 |ok p q=>
  obtain ⟨⟨e,X,rfl,he,K,Y⟩,d⟩:=J;obtain ⟨ai,aj,hf⟩:=e.form;have L:=Ab (And.intro he K);rw[hf];have Z:=Ab hf;clear he K hf;obtain ⟨E,F,H,I⟩:=GX (C.touchP d (.inr A));dsimp only;go_wp2_with fail
  go_ret2
  exact ⟨⟨.bin t.at_ op a e,X,by rw[Ex.val,Aa Z,Aa R];rfl,⟨rfl,rfl,(Aa z).1,(Aa L).1⟩,⟨a.own_touch (n.trans d) (Aa z).2,(Aa L).2⟩,Y⟩,n.trans d⟩
end Go.Proofs.YtffkofkjpckmpaaGreatDoor
namespace Go.Proofs.YtffkofkjpckmpaaGreatDoor
set_option maxRecDepth 100000
set_option maxHeartbeats 3200000
open Go.RowKit
set_option linter.unusedVariables false
variable {aY : Addr} {pb g c : Nat} {T : List Ae} {tl : Nat}
theorem Rw {P:Nat→Prop} :∀ n,P n→∃ m,P m∧∀ i,P i→m≤i:=by
 intro n
 induction n using Nat.strongRecOn with
 |ind n a=>
  intro h;by_cases hx:∃ i,i < n∧P i
  ·obtain ⟨i,hi,hp⟩:=hx;exact a i hi hp
  ·exact ⟨n,h,fun i hi=>by
    by_cases hl:i < n
    ·exact absurd ⟨i,hl,hi⟩ hx
    ·omega⟩
open Classical in
noncomputable def Bu (P:Nat→Prop):Nat:=if h:∃ m,P m∧∀ i,P i→m≤i then Classical.choose h else 0
theorem FI {P:Nat→Prop}(h:∃ n,P n):P (Bu P):=by
 obtain ⟨n,a⟩:=h;have hx:=Rw n a;rw[Bu,dif_pos hx];exact (Classical.choose_spec hx).1
theorem WA {P:Nat→Prop}{n:Nat}(h:P n):Bu P≤n:=by
 have hx:=Rw n h;rw[Bu,dif_pos hx];exact (Classical.choose_spec hx).2 n h
theorem Ip {P a:Nat→Prop}{n:Nat}(h:n < Bu P)(hq:a n):Bu a < Bu P:=Nat.lt_of_le_of_lt (WA hq) h
theorem VD (k:Nat)(a:Nat)(ts:List Ae):PQ k ts=BZ k (Dw a ts):=by
 cases ts with
 |nil=>
  show none=_;rw[BZ,Eq.comm,Option.map_eq_none_iff,List.find?_eq_none];intro p _;show ¬ see p.1 (eT a)=true;rw[show see p.1 (eT a)=false from rfl];decide
 |cons t r=>rfl
def ChI (aY:Addr) (pb g c:Nat) (T:List Ae) (tl:Nat) (lv:Nat) (ts:List Ae) (x:PR) (w:World) (n:Nat) (v e:Value) (wr:World):Prop:=
 ((∃ q b,e=Ck b∧GW v∧x= .bad q∧XR aY tl q b wr∧n=0)∨
   (∃ e0 p0 r k,e= .nilIface∧v=Ex.val e0∧Er e0 p0∧e0.own (pb+1) wr∧Pp wr pb g c T tl r k∧D (.more lv p0) r x∧r.length < ts.length∧n=r.length+1))∧Ak pb (pb+1) w wr
theorem Ud (hp: 17≤pb)(lv:Nat)(ts:List Ae)(x:PR)(d:D (.chain lv) ts x)(O:∀ r x,D (.opd lv) r x→r.length≤ts.length→CS aY pb g c T tl (.opd lv) r x):CS aY pb g c T tl (.chain lv) ts x:=by
 intro w au h P;show Calls Tryz.prog 178 #[.pointer (some ⟨pb,0,none⟩),.int .i64 (lv:Int)] w (FH aY pb g c T tl x w);have Q:∃ y,D (.opd lv) ts y∧(∀ q,y= .bad q→x= .bad q)∧(∀ e r,y= .ok e r→D (.more lv e) r x∧r.length < ts.length):=by
  cases d with
  |chain_bad d=>exact ⟨_,d,fun q e=>(by cases e;rfl),fun e r h=>by cases h⟩
  |chain d d2=>exact ⟨_,d,fun q e=>(by cases e),fun e r h=>by cases h;exact ⟨d2,d.less rfl⟩⟩
 obtain ⟨y,C,E,F⟩:=Q;have av:Hid (Calls Tryz.prog 186 #[.pointer (some ⟨pb,0,none⟩),.int .i64 (lv:Int)] w (FH aY pb g c T tl y w)):=Ab (O _ _ C NLN w au h P);have H:=Ab (And.intro E F);have ae:=Ab P;have aw:=Ab O;clear h P O E F C d;go_enter Tryz.func178,Tryz.ntmps178
 go_wp2_with fail
 refine (Aa av).mono ?_;intro r ax o;have I:Hid (∃ v e,r= .returned (.tuple #[v,e])∧GW v∧GW e∧∃ n,ChI aY pb g c T tl lv ts x w n v e ax):=by
  cases y with
  |bad q=>
   obtain ⟨⟨v,b,rfl,a,R⟩,i⟩:=o;exact ⟨v,_,rfl,a,.inr ⟨_,_,rfl⟩,0,.inl ⟨q,b,rfl,a,(Aa H).1 q rfl,R,rfl⟩,i⟩
  |ok p q=>
   obtain ⟨⟨e,S,rfl,he,u,U⟩,ay⟩:=o;obtain ⟨d2,hl⟩:=(Aa H).2 p q rfl;exact ⟨_,_,rfl,e.val_if,.inl rfl,q.length+1,.inr ⟨e,p,q,S,rfl,rfl,he,u,U,d2,hl,rfl⟩,ay⟩
 obtain ⟨v,e,rfl,a,he,n,j⟩:=Aa I;clear I o;have z:=Ab j;clear j;dsimp only;go_wp2_with fail
 go_loopw [6,7] (fun v e wr=>∃ n,ChI aY pb g c T tl lv ts x w n v e wr) (fun v e wr=>Bu (fun n=>ChI aY pb g c T tl lv ts x w n v e wr))
 case atStart=>exact ⟨n,Aa z⟩
 case round=>
  clear z a he;have hl:=FI hrel;have L:=Ab (show ∀ n V e' w',n < Bu (fun n=>ChI aY pb g c T tl lv ts x w n u6 u7 wr)→ChI aY pb g c T tl lv ts x w n V e' w'→Bu (fun n=>ChI aY pb g c T tl lv ts x w n V e' w') < Bu (fun n=>ChI aY pb g c T tl lv ts x w n u6 u7 wr) from fun n V e' w' h1 h2=>Ip h1 h2);generalize af:Bu (fun n=>ChI aY pb g c T tl lv ts x w n u6 u7 wr)=m at hl L;have ag:=Ab af;clear af;clear hrel;obtain ⟨⟨q,b,rfl,a,hx,R,hm⟩ | ⟨J,W,r,k,rfl,rfl,he,u,X,ah,ai,hm⟩,i⟩:=hl
  ·have Y:=Ab hx;clear hx hm L;rcases a with rfl | ⟨aB,aC,rfl⟩
   all_goals
    dsimp only[Ck];go_wp2_with fail
    go_ret2
    rw[Aa Y];exact ⟨⟨.nilIface,b,rfl,.inl rfl,R⟩,i⟩
  ·have aj:=Ab (Fg (aY:=aY) lv X ((Aa ae).touch i hp));have ak:=Ab X;have M:=Ab (And.intro he u);have Z:=Ab (And.intro ai hm);have Q:(BZ lv (Dw tl r)=none∧x= .ok W r)∨(∃ t s op y,r=t ::s∧BZ lv t=some op∧D (.opd lv) s y∧(∀ q,y= .bad q→x= .bad q)∧(∀ f q,y= .ok f q→D (.more lv (.bin t.at_ op W f)) q x∧q.length < s.length)):=by
    cases ah with
    |more_no h=>exact .inl ⟨by rw[← VD];exact h,rfl⟩
    |@more_bad _ _ t r q op h d=>exact .inr ⟨t,r,op,_,rfl,h,d,fun q e=>(by cases e;rfl),fun f q e=>by cases e⟩
    |@more _ _ f t r q op x h d d2=>exact .inr ⟨t,r,op,_,rfl,h,d,fun q e=>(by cases e),fun f q e=>by cases e;exact ⟨d2,d.less rfl⟩⟩
   clear he u ai hm ah X;obtain ⟨aD,aE,A⟩:=J.form;rcases Q with ⟨j,hx⟩ | ⟨t,s,op,y,rfl,al,C,E,F⟩
   ·have Y:=Ab hx;have z:=Ab j;have ao:=Ab A;rw[A];clear hx j A L;go_wp2_with fail
    refine (Aa aj).mono ?_;rintro aa az ⟨K,B⟩;rw[OpA,Aa z] at K;subst K;dsimp only;go_wp2_with fail
    go_ret2
    rw[Aa Y];have l:=B.alloc B.size (.cells #[.int .i64 0,.int .i64 0,.string ⟨#[]⟩] 227);exact ⟨⟨J,k,by rw[Aa ao];rfl,(Aa M).1,J.own_touch (Ak.of_below l NLN) (Aa M).2,(Aa ak).below l⟩,i.allP l⟩
   ·have z:=Ab (show BZ lv (Dw tl (t ::s))=some op from al);have ao:=Ab A;have H:=Ab (And.intro E F);have ap:=Ab (fun w' N (ab:Below wr.heap.size wr w')=>Lp hp lv op N J W t s y w' k ((Aa ak).below ab) (((Aa ae).touch i hp).below ab) (Aa M).1 (J.own_touch (Ak.of_below ab NLN) (Aa M).2) (Aa aw s y C (by have:=(Aa Z).1;simp at this;omega)));rw[A] at ap ag ⊢;clear al A E F C;go_wp2_with fail
    refine (Aa aj).mono ?_;rintro aa az ⟨K,B⟩;rw[OpA,Aa z] at K;obtain ⟨N,rfl⟩:=K;dsimp only;have l:=B.alloc B.size (.cells #[.int .i64 op,.int .i64 (lv:Int),.string N] 227);go_wp2_with fail
    refine (Aa ap _ N l).mono ?_;intro aa aA o;have I:Hid (∃ v e,aa= .returned (.tuple #[v,e])∧GW v∧GW e∧∃ n,n < m∧ChI aY pb g c T tl lv ts x w n v e aA):=by
     have h1:=(Aa Z).1;have h2:=(Aa Z).2;simp only[List.length_cons] at h1 h2;cases y with
     |bad q=>
      obtain ⟨⟨v,b,rfl,a,R⟩,ac⟩:=o;exact ⟨v,_,rfl,a,.inr ⟨_,_,rfl⟩,0,by omega,.inl ⟨q,b,rfl,a,(Aa H).1 q rfl,R,rfl⟩,(i.allP l).trans ac⟩
     |ok f q=>
      obtain ⟨⟨e,S,rfl,he,u,U⟩,ac⟩:=o;obtain ⟨d2,hl⟩:=(Aa H).2 f q rfl;exact ⟨_,_,rfl,e.val_if,.inl rfl,q.length+1,by omega,.inr ⟨e,_,q,S,rfl,rfl,he,u,U,d2,by omega,rfl⟩,(i.allP l).trans ac⟩
    obtain ⟨v,e,rfl,a,he,aq,ar,j⟩:=Aa I;have ad:=Ab (And.intro ar j);clear I o j ar l B;dsimp only;go_wp2_with fail
    go_roundw
    case rel=>exact ⟨aq,(Aa ad).2⟩
    case measure=>rw[Aa ag];exact Aa L aq _ _ _ (Aa ad).1 (Aa ad).2
end Go.Proofs.YtffkofkjpckmpaaGreatDoor
