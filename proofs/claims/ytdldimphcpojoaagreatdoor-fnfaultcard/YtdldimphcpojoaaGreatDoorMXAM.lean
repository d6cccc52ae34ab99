/-
  QE0, GF, GH, GI, GK. Own work.
-/
import Derived.Test.YtdldimphcpojoaaGreatDoorMXAD
import Derived.Test.YtdldimphcpojoaaGreatDoorMXAI
import Derived.Test.YtdldimphcpojoaaGreatDoorMXAR
import Derived.Test.YtdldimphcpojoaaGreatDoorMXAL
import Derived.Test.YtdldimphcpojoaaGreatDoorMXAK
import Derived.Test.YtdldimphcpojoaaGreatDoorMXAE
namespace Go.Proofs.YtdldimphcpojoaaGreatDoor
open Go.RowKit
set_option linter.unusedVariables false
theorem Ex.form (e:Ex):∃ t u,e.val= .iface t u:=by cases e <;> exact ⟨_,_,rfl⟩
theorem Fb {T:TypeId}{a:Array Field}(hu: Tryz.prog.underlying T=some (.struct a))(b:TypeId)(v:Value)(w:World):(Instr.typeAssert (.iface T v) b T true).run Tryz.prog w= .ok (.tuple #[v,.bool true]) w:=by simp[Instr.typeAssert,run_underlying hu]
theorem AA {S T:TypeId}{b:Array Field}{a:Value}(hu: Tryz.prog.underlying T=some (.struct b))(c:∀ w,(zeroValue T).run Tryz.prog w= .ok a w)(h:S≠T)(d:TypeId)(v:Value)(w:World):(Instr.typeAssert (.iface S v) d T true).run Tryz.prog w= .ok (.tuple #[a,.bool false]) w:=by simp[Instr.typeAssert,run_underlying hu,c,h]
set_option maxHeartbeats 1600000
def eT (tl:Nat):Af:=⟨0,0,Ax [],tl⟩
def CW (tl:Nat):List Af→Af
 | []=>eT tl
 | t ::_=>t
structure Pp (w:World) (pb g c:Nat) (T:List Af) (tl:Nat) (ts:List Af) (k:Nat):Prop where
 row:An w pb #[.slice (some ⟨g,0,none⟩) (T.length+1) c,.int .i64 (k:Int)] 79
 toks:w.ownsRow 0 41 4 (.slice (some ⟨g,0,none⟩) (T.length+1) c) (T.length+1) (Ef (T ++ [eT tl]))
 drop:T.drop k=ts
 len:k+ts.length=T.length
 small:T.length≤4000
theorem Pp.hd {w:World}{f g c:Nat}{T:List Af}{a:Nat}{b:List Af}{k:Nat}(h:Pp w f g c T a b k):k < (T ++ [eT a]).length∧∀ hk,(T ++ [eT a])[k]'hk=CW a b:=by
 have hl:=h.len;refine ⟨by simp;omega,fun hk=>?_⟩;cases b with
 | nil=>
  have e:k=T.length:=by simpa using hl
  subst e;simp[CW]
 | cons t r=>
  have d:k < T.length:=by simp at hl;omega
  rw[List.getElem_append_left d];have:=List.drop_eq_getElem_cons d;rw[h.drop] at this;injection this with h1 h2;exact h1.symm
theorem Pp.cells {w:World}{f g c:Nat}{T:List Af}{a:Nat}{b:List Af}{k:Nat}(h:Pp w f g c T a b k):
  w.cell? ⟨g,k * 4,none⟩=some (.int .i64 (CW a b).kind)∧w.cell? ⟨g,k * 4+1,none⟩=some (.int .i64 (CW a b).num)∧w.cell? ⟨g,k * 4+2,none⟩=some (.string (CW a b).text)∧w.cell? ⟨g,k * 4+3,none⟩=some (.int .i64 ((CW a b).at_:Int)):=by
 obtain ⟨hk,he⟩:=h.hd;obtain ⟨d,e1,e2,e3⟩:=Gl (T ++ [eT a]) k hk;rw[he hk] at d e1 e2 e3;have hl:k < T.length+1:=by simpa using hk
 exact ⟨(h.toks.cellAt _ (by omega)).trans d,(h.toks.cellAt _ (by omega)).trans e1,(h.toks.cellAt _ (by omega)).trans e2,(h.toks.cellAt _ (by omega)).trans e3⟩
theorem Pp.ne {w:World}{a g c:Nat}{T:List Af}{b:Nat}{d:List Af}{k:Nat}(h:Pp w a g c T b d k):g≠a:=fun e=>Ad h.row h.toks (by decide) (by rw[e];rfl)
theorem Pp.lt {w:World}{a g c:Nat}{T:List Af}{b:Nat}{d:List Af}{k:Nat}(h:Pp w a g c T b d k):g < w.heap.size:=(h.toks.lt g rfl).2
theorem Pp.below {w w':World}{a g c:Nat}{T:List Af}{b:Nat}{d:List Af}{k:Nat}(h:Pp w a g c T b d k)(f:Below w.heap.size w w'):Pp w' a g c T b d k:=
 ⟨h.row.after f NLN,Ac h.toks (fun q hq=>f.block q (h.toks.lt q hq).2),h.drop,h.len,h.small⟩
theorem Pp.drew {w:World}{a g c:Nat}{T:List Af}{b:Nat}{d:List Af}{k:Nat}(h:Pp w a g c T b d k):Pp w.drew a g c T b d k:=h.below (Below.refl w.heap.size w).drew
theorem Qn {g:World}{b:Nat}{i j k l:Value}{t:TypeId}(h:An g b #[i,j,k,l] t)(a c d f:Value):
  ((((g.setCell ⟨b,0,none⟩ a).setCell ⟨b,1,none⟩ c).setCell ⟨b,2,none⟩ d).setCell ⟨b,3,none⟩ f).drew.cell? ⟨b,0,none⟩=some a∧((((g.setCell ⟨b,0,none⟩ a).setCell ⟨b,1,none⟩ c).setCell ⟨b,2,none⟩ d).setCell ⟨b,3,none⟩ f).drew.cell? ⟨b,1,none⟩=some c∧
  ((((g.setCell ⟨b,0,none⟩ a).setCell ⟨b,1,none⟩ c).setCell ⟨b,2,none⟩ d).setCell ⟨b,3,none⟩ f).drew.cell? ⟨b,2,none⟩=some d∧((((g.setCell ⟨b,0,none⟩ a).setCell ⟨b,1,none⟩ c).setCell ⟨b,2,none⟩ d).setCell ⟨b,3,none⟩ f).drew.cell? ⟨b,3,none⟩=some f:=by
 have R:An ((((g.setCell ⟨b,0,none⟩ a).setCell ⟨b,1,none⟩ c).setCell ⟨b,2,none⟩ d).setCell ⟨b,3,none⟩ f).drew b #[a,c,d,f] t:=⟨(Aw h a c d f).out⟩
 obtain ⟨m,g1,g2,g3,_⟩:=AE R;exact ⟨m,g1,g2,g3⟩
theorem Sf {c:Func}{a:Tmp}(h:c.results= #[.cell a 41]){d:Array Value}{w:World}{b:Nat}{f g i j:Value}(k:d.getD a undef= .pointer (some ⟨b,0,none⟩))
  (l:w.cell? ⟨b,0,none⟩=some f)(g1:w.cell? ⟨b,1,none⟩=some g)(g2:w.cell? ⟨b,2,none⟩=some i)(g3:w.cell? ⟨b,3,none⟩=some j):
  (results c d).run Tryz.prog w= .ok (.agg #[f,g,i,j]) w:=by
 rw[Array.getD_eq_getD_getElem?] at k;simp[results,h,k,go_sem,l,g1,g2,g3]
def Cw (t:Af):Value:= .agg #[.int .i64 t.kind,.int .i64 t.num,.string t.text,.int .i64 (t.at_:Int)]
theorem Bp {w:World}{i g c:Nat}{T:List Af}{d:Nat}{f:List Af}{k:Nat}(h:Pp w i g c T d f k):
  Calls Tryz.prog 88 #[.pointer (some ⟨i,0,none⟩)] w fun e w'=>e= .returned (Cw (CW d f))∧Below w.heap.size w w':=by
 have j:=(Below.refl w.heap.size w).alloc NLN (.cells #[.int .i64 0,.int .i64 0,.string ⟨#[]⟩,.int .i64 0] 41);have l:=An.new w #[.int .i64 0,.int .i64 0,.string ⟨#[]⟩,.int .i64 0] 41;have a:=h.below j;obtain ⟨m,c1,c2,c3⟩:=a.cells;have n:=a.row.cell 0;have o:=a.row.cell 1;have hl:=h.len;have r:(k:Int) < ((T.length+1 :Nat):Int):=by omega
 have s:=h.lt;have u:=h.row.lt;obtain ⟨v,d1,d2,d3,x⟩:=AE l;simp only[List.getElem?_toArray,List.getElem?_cons_zero,List.getElem?_cons_succ] at n o;generalize CW d f=t at m c1 c2 c3 ⊢;clear h a;go_enter Tryz.func88,Tryz.ntmps88
 go_wp2_with fail
 generalize w.alloc (.cells #[.int .i64 0,.int .i64 0,.string ⟨#[]⟩,.int .i64 0] 41)=y at *;go_region
 go_wp2_with fail
 have p:=Aj (b:=w.heap.size) j NLN (.int .i64 t.kind) (.int .i64 t.num) (.string t.text) (.int .i64 (t.at_:Int));obtain ⟨q,g1,g2,g3⟩:=Qn l (.int .i64 t.kind) (.int .i64 t.num) (.string t.text) (.int .i64 (t.at_:Int));exact bodyPost_ret (Sf Tryz.results88 rfl q g1 g2 g3) rfl ⟨rfl,p.drew⟩
theorem Ai.setNewP {lo hi:Nat}{w w':World}(T:Ai lo hi w w')(p:Addr)(u:Value)(a:w.heap.size≤p.block):Ai lo hi w (w'.setCell p u):=
 ⟨T.os,T.tape,T.output,by simp;exact T.size,fun k h1 h2=>(heap_setCell_other w' p k u (by omega)).trans (T.block k h1 h2)⟩
theorem Ai.put4P {lo hi:Nat}{w w':World}{b:Nat}(T:Ai lo hi w w')(a:w.heap.size≤b)(c d f g:Value):Ai lo hi w (BN w' b c d f g):=
 (((T.setNewP ⟨b,0,none⟩ c a).setNewP ⟨b,1,none⟩ d a).setNewP ⟨b,2,none⟩ f a).setNewP ⟨b,3,none⟩ g a
theorem Ai.allP {lo hi:Nat}{w a b:World}(T:Ai lo hi w a)(h:Below a.heap.size a b):Ai lo hi w b:=T.trans (Ai.of_below h NLN)
theorem Pp.next {w:World}{a g c:Nat}{T:List Af}{b:Nat}{t:Af}{r:List Af}{k:Nat}(h:Pp w a g c T b (t ::r) k){w':World}(d:An w' a #[.slice (some ⟨g,0,none⟩) (T.length+1) c,.int .i64 ((k:Int)+1)] 79)(ht:Ai a (a+1) w w'):Pp w' a g c T b r (k+1):=by
 have hl:=h.len;have f:=h.drop;refine ⟨by rw[show ((k+1 :Nat):Int)=(k:Int)+1 by omega];exact d,Ac h.toks (fun q hq=>?_), ?_,by simp at hl;omega,h.small⟩
 ·have e:g=q:=by simpa[Value.ownBlock] using hq
  have i:=h.ne;exact ht.block q (by rw[← e];exact h.lt) (by omega)
 ·rw[← List.drop_drop,f];rfl
theorem BD {w:World}{a g c:Nat}{T:List Af}{u:Nat}{t:Af}{r:List Af}{k:Nat}(h:Pp w a g c T u (t ::r) k):
  Calls Tryz.prog 107 #[.pointer (some ⟨a,0,none⟩)] w fun e w'=>e= .returned (Cw t)∧Pp w' a g c T u r (k+1)∧Ai a (a+1) w w':=by
 have d:=(Below.refl w.heap.size w).alloc NLN (.cells #[.int .i64 0,.int .i64 0,.string ⟨#[]⟩,.int .i64 0] 41);have n:=An.new w #[.int .i64 0,.int .i64 0,.string ⟨#[]⟩,.int .i64 0] 41;have f:=h.below d;obtain ⟨M,c1,c2,c3⟩:=f.cells;have v:=f.row.cell 0;have i:=f.row.cell 1;have hl:=h.len;have R:(k:Int) < ((T.length+1 :Nat):Int):=by omega
 have S:=h.lt;have U:=h.row.lt;obtain ⟨x,d1,d2,d3,y⟩:=AE n;simp only[List.getElem?_toArray,List.getElem?_cons_zero,List.getElem?_cons_succ] at v i;have z:=d.alloc d.size (.cells #[.int .i64 0,.int .i64 0,.string ⟨#[]⟩,.int .i64 0] 41);have l:=h.below z;obtain ⟨A,e1,e2,e3⟩:=l.cells;have B:=l.row.cell 0;have C:=l.row.cell 1;simp only[List.getElem?_toArray,List.getElem?_cons_zero,List.getElem?_cons_succ] at B C;have E:(w.alloc (.cells #[.int .i64 0,.int .i64 0,.string ⟨#[]⟩,.int .i64 0] 41)).heap.size=w.heap.size+1:=by simp
 go_enter Tryz.func107,Tryz.ntmps107
 go_wp2_with fail
 go_region
 dsimp only[CW] at *;have o:=(d.alloc d.size (.cells #[.int .i64 t.kind,.int .i64 t.num,.string t.text,.int .i64 (t.at_:Int)] 41)).drew;have m:=h.below o;have q:=((n.alloc (.cells #[.int .i64 t.kind,.int .i64 t.num,.string t.text,.int .i64 (t.at_:Int)] 41)).after BRN.drew NLN)
 have s:=(An.new (w.alloc (.cells #[.int .i64 0,.int .i64 0,.string ⟨#[]⟩,.int .i64 0] 41)) #[.int .i64 t.kind,.int .i64 t.num,.string t.text,.int .i64 (t.at_:Int)] 41).after BRN.drew NLN;rw[E] at s;generalize ((w.alloc (.cells #[.int .i64 0,.int .i64 0,.string ⟨#[]⟩,.int .i64 0] 41)).alloc (.cells #[.int .i64 t.kind,.int .i64 t.num,.string t.text,.int .i64 (t.at_:Int)] 41)).drew=X at o m q s ⊢;clear M c1 c2 c3 v i x d1 d2 d3 y A e1 e2 e3 B C l f n d z E;have i:=m.row.cell 1;have V:=fun j=>m.row.frozen j;simp only[List.getElem?_toArray,List.getElem?_cons_zero,List.getElem?_cons_succ] at i;obtain ⟨x,d1,d2,d3,y⟩:=AE q;obtain ⟨A,e1,e2,e3,W⟩:=AE s;have N:w.heap.size≠a:=by omega
 have Y:w.heap.size+1≠a:=by omega
 have O:a≠w.heap.size:=by omega
 have Z:a≠w.heap.size+1:=by omega
 go_wp2_with fail
 have P:wrap64 ((k:Int)+1)=(k:Int)+1:=by
  have hs:=h.small;have:k≤4000:=by omega
  simp[wrap64];omega
 rw[P];have F:=m.row.set 1 (.int .i64 ((k:Int)+1));have H:=(Ai.of_below (lo:=a) (hi:=a+1) o NLN).trans (Ai.setCell X ⟨a,1,none⟩ (.int .i64 ((k:Int)+1)) NLN (Nat.lt_succ_self _));have I:=q.setFar (p:=⟨a,1,none⟩) N (.int .i64 ((k:Int)+1));generalize X.setCell ⟨a,1,none⟩ (.int .i64 ((k:Int)+1))=J at F H I ⊢;have Q:An (BN J w.heap.size (.int .i64 t.kind) (.int .i64 t.num) (.string t.text) (.int .i64 (t.at_:Int))) a _ 79:=⟨(GN J w.heap.size a _ _ _ _ O).trans F.out⟩
 have K:=H.put4P (b:=w.heap.size) NLN (.int .i64 t.kind) (.int .i64 t.num) (.string t.text) (.int .i64 (t.at_:Int));obtain ⟨L,g1,g2,g3,_⟩:=AE (Aw I (.int .i64 t.kind) (.int .i64 t.num) (.string t.text) (.int .i64 (t.at_:Int)));simp only[BN] at L g1 g2 g3;exact bodyPost_ret (Sf Tryz.results107 rfl L g1 g2 g3) rfl ⟨rfl,h.next Q K,K⟩
set_option maxRecDepth 100000
theorem Qp (s:List UInt8)(b:Nat)(a:List Af):see s (CW b a)=AL s a:=by
 cases a with
 | nil=>rfl
 | cons t r=>rfl
theorem Ww (a b:ByteArray):(a.toList== b.toList)=decide (a=b):=by
 have h:=EW a b;rw[Xw] at h;by_cases e:a=b
 ·rw[decide_eq_true e];exact h.2 e
 ·rw[decide_eq_false e,Bool.eq_false_iff];exact fun k=>e (h.1 k)
theorem AR {w:World}{d g c:Nat}{T:List Af}{b:Nat}{a:List Af}{k:Nat}(h:Pp w d g c T b a k)(s:List UInt8):
  Calls Tryz.prog 84 #[.pointer (some ⟨d,0,none⟩),.string (Ax s)] w fun e w'=>e= .returned (.bool (AL s a))∧Below w.heap.size w w':=by
 rw[← Qp s b a];have f:=Ab (Bp h);generalize CW b a=t at f ⊢;clear h;go_enter Tryz.func84,Tryz.ntmps84
 go_wp2_with fail
 refine (Aa f).mono ?_;rintro e j ⟨rfl,i⟩;rw[Cw];dsimp only;go_wp2_with fail
 all_goals
  go_ret
  refine ⟨?_,i.alloc i.size _⟩
  congr 2
  simp[see,Ww, *]
def Uu (aY:Addr) (tl:Nat) (q:List Af) (b:Nat) (w:World):Prop:=An w b #[.int .i64 ((CW tl q).at_:Int),.iface 225 (.pointer (some aY))] 92
def BS (b:Nat):Value:= .iface 87 (.pointer (some ⟨b,0,none⟩))
structure Gy (w:World) (aY:Addr):Prop where
 cell:w.cell? ⟨6,0,none⟩=some (.iface 225 (.pointer (some aY)))
 big: 17≤w.heap.size
 tab:∀ k,w.cell? ⟨13,k,none⟩=Ia[k]?
theorem Gy.touch {w w':World}{aY:Addr}{a:Nat}(h:Gy w aY)(T:Ai a (a+1) w w')(d: 17≤a):Gy w' aY:=by
 have c:=h.big;have b:∀ q,q < 17→∀ j,w'.cell? ⟨q,j,none⟩=w.cell? ⟨q,j,none⟩:=fun q hq j=>by
  unfold World.cell?;rw[T.block q (by omega) (.inl (by omega))]
 exact ⟨(b _ (by decide) 0).trans h.cell,Nat.le_trans c T.size,fun k=>(b _ (by decide) k).trans (h.tab k)⟩
theorem Gy.below {w w':World}{aY:Addr}(h:Gy w aY)(a:Below w.heap.size w w'):Gy w' aY:=h.touch (Ai.of_below (lo:=17) (hi:=17 +1) a NLN) NLN
theorem Cz (a b c d:Value)(w:World):(Instr.field 41 (.agg #[a,b,c,d]) 3).run Tryz.prog w= .ok d w:=by
 simp[Instr.field,run_underlying Tryz.underlying41,Sem.run_bind,part,asAgg,isAgg,go_sem]
theorem CM {w:World}{l g c:Nat}{T:List Af}{f:Nat}{i:List Af}{k:Nat}{aY:Addr}(h:Pp w l g c T f i k)(a:Gy w aY):
  Calls Tryz.prog 62 #[.pointer (some ⟨l,0,none⟩)] w fun e w'=>∃ b,e= .returned (BS b)∧Uu aY f i b w'∧Below w.heap.size w w':=by
 have m:=Ab (Bp h.drew);have r:=a.cell;have s:=(a.below (Below.refl w.heap.size w).drew).cell;have n:=Ab (a.below (Below.refl w.heap.size w).drew);have j:=(Below.refl w.heap.size w).drew;unfold Uu;generalize CW f i=t at m ⊢;have u:=Cz (.int .i64 t.kind) (.int .i64 t.num) (.string t.text) (.int .i64 (t.at_:Int));clear h a;go_enter Tryz.func62,Tryz.ntmps62
 go_wp2_with fail
 go_region_held3 (fun w'=>w'.cell? ⟨6,0,none⟩=some (.iface 225 (.pointer (some aY)))) (first | assumption | go_keep) (first
  | (go_at_call 38;refine (DY _ _ _ p).mono ?_;rintro e v ⟨rfl,q,o⟩;have q3:=((Aa n).below d |>.below o).cell)
  | (go_at_call 88;refine (Aa m).mono ?_;rintro e p ⟨rfl,d⟩;rw[Cw];have q2:=((Aa n).below d).cell)
  | fail)
 all_goals
  go_wp2_with fail
  go_ret
  exact ⟨_,rfl,q,j.trans ((d.mono j.size).trans (o.mono (Nat.le_trans j.size d.size)))⟩
theorem CN {w:World}{a g c:Nat}{T:List Af}{d:Nat}{t:Af}{r:List Af}{k:Nat}(h:Pp w a g c T d (t ::r) k)(s:List UInt8)(hs:see s t=true):
  Calls Tryz.prog 109 #[.pointer (some ⟨a,0,none⟩),.string (Ax s)] w fun e w'=>e= .returned .nilIface∧Pp w' a g c T d r (k+1)∧Ai a (a+1) w w':=by
 have f:=Ab (AR h s);have i:=Ab (show AL s (t ::r)=true from hs);have j:=Ab (fun w' (b:Below w.heap.size w w')=>BD (h.below b));clear h hs;go_enter Tryz.func109,Tryz.ntmps109
 go_wp2_with fail
 refine (Aa f).mono ?_;rintro e l ⟨rfl,b⟩;rw[Aa i];dsimp only;go_wp2_with fail
 refine (Aa j l b).mono ?_;rintro e o ⟨rfl,m,n⟩;dsimp only[Cw];go_wp2_with fail
 go_ret
 exact ⟨rfl,m,(Ai.of_below b NLN).trans n⟩
theorem DB {w:World}{f g c:Nat}{T:List Af}{i:Nat}{d:List Af}{k:Nat}{aY:Addr}(h:Pp w f g c T i d k)(j:Gy w aY)(s:List UInt8)(hs:AL s d=false):
  Calls Tryz.prog 109 #[.pointer (some ⟨f,0,none⟩),.string (Ax s)] w fun e w'=>∃ b,e= .returned (BS b)∧Uu aY i d b w'∧Below w.heap.size w w':=by
 have l:=Ab (AR h s);have m:=Ab hs;have n:=Ab (fun w' (a:Below w.heap.size w w')=>CM (h.below a) (j.below a));clear h hs j;go_enter Tryz.func109,Tryz.ntmps109
 go_wp2_with fail
 refine (Aa l).mono ?_;rintro e o ⟨rfl,a⟩;rw[Aa m];dsimp only;go_wp2_with fail
 refine (Aa n o a).mono ?_;rintro e r ⟨b,rfl,p,q⟩;dsimp only[BS];go_wp2_with fail
 go_ret
 exact ⟨b,rfl,p,a.trans (q.mono a.size)⟩
end Go.Proofs.YtdldimphcpojoaaGreatDoor
namespace Go.Proofs.YtdldimphcpojoaaGreatDoor
set_option maxRecDepth 100000
set_option maxHeartbeats 1600000
open Go.RowKit
set_option linter.unusedVariables false
def Er:Ex→Pt→Prop
 | .int i n,.int j m=>i=j∧n=m
 | .text i s,.text j t=>i=j∧s=t
 | .bool i b,.bool j d=>i=j∧b=d
 | .set i _ _ _ K,.set j ss=>i=j∧Cx ss K
 | .name i s,.name j t=>i=j∧s=t
 | .un i op k,.un j o q=>i=j∧op=o∧Er k q
 | .bin i op l r,.bin j o p q=>i=j∧op=o∧Er l p∧Er r q
 | .ite i c t e,.ite j x y z=>i=j∧Er c x∧Er t y∧Er e z
 | _,_=>False
def Ex.own (lo:Nat) (w:World):Ex→Prop
 | .set _ a n c ss=>w.ownsRow lo 9 1 (.slice a n c) n (ss.map Value.string)
 | .un _ _ k=>k.own lo w
 | .bin _ _ l r=>l.own lo w∧r.own lo w
 | .ite _ c t e=>c.own lo w∧t.own lo w∧e.own lo w
 | _=>True
theorem Ex.own_touch {b:Nat}{w w':World}(T:Ai b (b+1) w w'):∀ (e:Ex),e.own (b+1) w→e.own (b+1) w'
 | .int ..,h=>h
 | .text ..,h=>h
 | .bool ..,h=>h
 | .set _ a n c ss,h=>by
  have d:w.ownsRow (b+1) 9 1 (.slice a n c) n (ss.map Value.string):=h;exact Ac d (fun q hq=>T.block q (d.lt q hq).2 (.inr (d.lt q hq).1))
 | .name ..,h=>h
 | .attr ..,h=>h
 | .lett ..,h=>h
 | .un _ _ k,h=>k.own_touch T h
 | .bin _ _ l r,h=>⟨l.own_touch T h.1,r.own_touch T h.2⟩
 | .ite _ c t e,h=>⟨c.own_touch T h.1,t.own_touch T h.2.1,e.own_touch T h.2.2⟩
def FT (v:Value):Prop:=v= .nilIface∨∃ t u,v= .iface t u
def EQ (aY:Addr) (pb g c:Nat) (T:List Af) (tl:Nat):PR→World→Ending→World→Prop
 | .ok p q,w,r,w'=>(∃ e k,r= .returned (.tuple #[Ex.val e,.nilIface])∧Er e p∧e.own (pb+1) w'∧Pp w' pb g c T tl q k)∧Ai pb (pb+1) w w'
 | .bad q,w,r,w'=>(∃ v b,r= .returned (.tuple #[v,BS b])∧FT v∧Uu aY tl q b w')∧Ai pb (pb+1) w w'
theorem EQ.from {aY:Addr}{a g c:Nat}{T:List Af}{b:Nat}{x:PR}{d w w':World}{r:Ending}(h:EQ aY a g c T b x w r w')(f:Ai a (a+1) d w):EQ aY a g c T b x d r w':=by
 cases x with
 | ok p q=>exact ⟨h.1,f.trans h.2⟩
 | bad q=>exact ⟨h.1,f.trans h.2⟩
theorem Ex.val_if (e:Ex):FT e.val:= .inr (by obtain ⟨t,u,h⟩:=e.form;exact ⟨t,u,h⟩)
theorem EQ.form {aY:Addr}{a g c:Nat}{T:List Af}{d:Nat}{x:PR}{w w':World}{r:Ending}(h:EQ aY a g c T d x w r w'):∃ v e,r= .returned (.tuple #[v,e])∧FT v∧FT e:=by
 cases x with
 | ok p q=>obtain ⟨⟨e,k,rfl,_⟩,_⟩:=h;exact ⟨_,_,rfl,e.val_if,.inl rfl⟩
 | bad q=>obtain ⟨⟨v,b,rfl,f,_⟩,_⟩:=h;exact ⟨_,_,rfl,f,.inr ⟨_,_,rfl⟩⟩
def NT.fn:NT→Nat
 | .expr=>118
 | .chain _=>127
 | .opd _=>133
 | .neg=>137
 | .cmp=>141
 | .una=>138
 | .prim=>142
 | .encl=>147
 | .beh _=>108
 | .more _ _=>0
def NT.args (pb:Nat):NT→Array Value
 | .chain k=>#[.pointer (some ⟨pb,0,none⟩),.int .i64 (k:Int)]
 | .opd k=>#[.pointer (some ⟨pb,0,none⟩),.int .i64 (k:Int)]
 | .beh s=>#[.pointer (some ⟨pb,0,none⟩),.string (Ax s)]
 | _=>#[.pointer (some ⟨pb,0,none⟩)]
def CS (aY:Addr) (pb g c:Nat) (T:List Af) (tl:Nat) (nt:NT) (ts:List Af) (x:PR):Prop:=
 ∀ w k,Pp w pb g c T tl ts k→Gy w aY→Calls Tryz.prog nt.fn (nt.args pb) w (EQ aY pb g c T tl x w)
variable {aY : Addr} {pb g c : Nat} {T : List Af} {tl : Nat}
theorem UO (o: 17≤pb)(s:List UInt8)(f:List Af)(x:PR)(d:D (.beh s) f x)(i:∀ r x,D .expr r x→r.length < f.length→CS aY pb g c T tl .expr r x):CS aY pb g c T tl (.beh s) f x:=by
 intro w k h a;show Calls Tryz.prog 108 #[.pointer (some ⟨pb,0,none⟩),.string (Ax s)] w (EQ aY pb g c T tl x w);cases d with
 | beh_no hs=>
  have j:=Ab (DB h a s hs);clear h hs a i;go_enter Tryz.func108,Tryz.ntmps108
  go_wp2_with fail
  refine (Aa j).mono ?_;rintro e m ⟨b,rfl,p,q⟩;dsimp only[BS];go_wp2_with fail
  go_ret2
  exact ⟨⟨.nilIface,b,rfl,.inl rfl,p⟩,Ai.of_below q NLN⟩
 | @beh s t r x hs d=>
  have j:=Ab (CN h s hs);have u:=Ab (i r x d (by simp));have y:=Ab a;clear h hs a i;go_enter Tryz.func108,Tryz.ntmps108
  go_wp2_with fail
  refine (Aa j).mono ?_;rintro e m ⟨rfl,z,n⟩;dsimp only;go_wp2_with fail
  refine (Aa u m _ z ((Aa y).touch n o)).mono ?_;intro r B l;obtain ⟨v,e,rfl,C,he⟩:=l.form;have A:=Ab (l.from n);clear l;dsimp only;go_wp2_with fail
  go_ret2
  exact Aa A
theorem Tc (z: 17≤pb)(f:List Af)(x:PR)(d:D .encl f x)(i:∀ x,D (.beh AD) f x→CS aY pb g c T tl (.beh AD) f x):CS aY pb g c T tl .encl f x:=by
 intro w k h a;show Calls Tryz.prog 147 #[.pointer (some ⟨pb,0,none⟩)] w (EQ aY pb g c T tl x w);have A:=Ab a;cases d with
 | encl_bad d=>
  have l:=Ab (i _ d w k h a);clear h a i;go_enter Tryz.func147,Tryz.ntmps147
  go_wp2_with fail
  refine (Aa l).mono ?_;rintro e s ⟨⟨v,b,rfl,B,C⟩,j⟩;rcases B with rfl | ⟨N,O,rfl⟩
  all_goals
   dsimp only[BS];go_wp2_with fail
   go_ret2
   exact ⟨⟨.nilIface,b,rfl,.inl rfl,C⟩,j⟩
 | @encl_end f r p d hs=>
  have l:=Ab (i _ d w k h a);clear h a i;go_enter Tryz.func147,Tryz.ntmps147
  go_wp2_with fail
  refine (Aa l).mono ?_;rintro e s ⟨⟨e,E,rfl,he,o,m⟩,j⟩;obtain ⟨F,H,n⟩:=e.form;rw[n];dsimp only;have q:=Ab (DB m ((Aa A).touch j z) AT hs);clear m;go_wp2_with fail
  refine (Aa q).mono ?_;rintro e I ⟨b,rfl,J,K⟩;dsimp only[BS];go_wp2_with fail
  go_ret2
  exact ⟨⟨_,b,rfl,.inr ⟨_,_,rfl⟩,J⟩,j.allP K⟩
 | @encl f r p t d hs=>
  have l:=Ab (i _ d w k h a);clear h a i;go_enter Tryz.func147,Tryz.ntmps147
  go_wp2_with fail
  refine (Aa l).mono ?_;rintro e s ⟨⟨e,E,rfl,he,o,m⟩,j⟩;obtain ⟨F,H,n⟩:=e.form;have u:=Ab (And.intro he o);rw[n];have L:=Ab n;clear he o n;dsimp only;have q:=Ab (CN m AT hs);clear m;go_wp2_with fail
  refine (Aa q).mono ?_;rintro e I ⟨rfl,M,y⟩;dsimp only;go_wp2_with fail
  go_ret2
  exact ⟨⟨e,_,by rw[Aa L];rfl,(Aa u).1,e.own_touch y (Aa u).2,M⟩,j.trans y⟩
end Go.Proofs.YtdldimphcpojoaaGreatDoor
namespace Go.Proofs.YtdldimphcpojoaaGreatDoor
set_option maxRecDepth 100000
set_option maxHeartbeats 3200000
open Go.RowKit
set_option linter.unusedVariables false
variable {aY : Addr} {pb g c : Nat} {T : List Af} {tl : Nat}
theorem Wx:∀ j,j < 16→(Ak (FL j).text,(FL j).op)∈Cy (FL j).lv.toNat∧0≤(FL j).lv
 | 0,_=>by decide
 | 1,_=>by decide
 | 2,_=>by decide
 | 3,_=>by decide
 | 4,_=>by decide
 | 5,_=>by decide
 | 6,_=>by decide
 | 7,_=>by decide
 | 8,_=>by decide
 | 9,_=>by decide
 | 10,_=>by decide
 | 11,_=>by decide
 | 12,_=>by decide
 | 13,_=>by decide
 | 14,_=>by decide
 | 15,_=>by decide
 | n+16,h=>absurd h (by omega)
theorem Wy {k:Nat}{p:List UInt8 × Int}(h:p∈Cy k):∃ j,j < 16∧(FL j).lv=(k:Int)∧Ak (FL j).text=p.1:=by
 have a1:∀ p∈Cy 1,∃ j,j < 16∧(FL j).lv=((1 :Nat):Int)∧Ak (FL j).text=p.1:=by decide
 have a2:∀ p∈Cy 2,∃ j,j < 16∧(FL j).lv=((2 :Nat):Int)∧Ak (FL j).text=p.1:=by decide
 have a4:∀ p∈Cy 4,∃ j,j < 16∧(FL j).lv=((4 :Nat):Int)∧Ak (FL j).text=p.1:=by decide
 have a5:∀ p∈Cy 5,∃ j,j < 16∧(FL j).lv=((5 :Nat):Int)∧Ak (FL j).text=p.1:=by decide
 have a6:∀ p∈Cy 6,∃ j,j < 16∧(FL j).lv=((6 :Nat):Int)∧Ak (FL j).text=p.1:=by decide
 match k,h with
 | 0,h | 3,h=>cases h
 | 1,h=>exact a1 p h
 | 2,h=>exact a2 p h
 | 4,h=>exact a4 p h
 | 5,h=>exact a5 p h
 | 6,h=>exact a6 p h
 | k+7,h=>cases h
theorem Wz {k:Nat} :∀ p∈Cy k,∀ q∈Cy k,p.1=q.1→p=q:=by
 match k with
 | 0 | 3=>intro p h;cases h
 | 1=>decide
 | 2=>decide
 | 4=>decide
 | 5=>decide
 | 6=>decide
 | k+7=>intro p h;cases h
theorem US {k:Nat}{t:Af}{s:List UInt8}{op:Int}(h:(s,op)∈Cy k)(hs:see s t=true):CF k t=some op:=by
 cases a:(Cy k).find? (fun p=>see p.1 t) with
 | none=>rw[List.find?_eq_none] at a;exact absurd hs (a _ h)
 | some q=>
  have h1:=List.mem_of_find?_eq_some a;have h2:see q.1 t=true:=by have:=List.find?_some a;simpa using this
  have e:s=q.1:=by
   by_cases e:s=q.1
   ·exact e
   ·rw[Ag hs e] at h2;cases h2
  have:=Wz _ h _ h1 e;rw[CF,a,← this];rfl
theorem Td {k:Nat}{t:Af}(h:∀ j,j < 16→(FL j).lv=(k:Int)→see (Ak (FL j).text) t=false):CF k t=none:=by
 rw[CF,Option.map_eq_none_iff,List.find?_eq_none];intro p a;obtain ⟨j,b,h1,h2⟩:=Wy a;have:=h j b h1;rw[h2] at this;simp[this]
def WA (k:Nat) (t:Af) (r:Ending):Prop:=match CF k t with
 | some op=>∃ tx,r= .returned (.tuple #[.agg #[.int .i64 op,.int .i64 (k:Int),.string tx],.bool true])
 | none=>r= .returned (.tuple #[.agg #[.int .i64 0,.int .i64 0,.string ⟨#[]⟩],.bool false])
theorem EE (lv:Nat){w:World}{b:List Af}{k:Nat}(h:Pp w pb g c T tl b k)(v:Gy w aY):
  Calls Tryz.prog 134 #[.pointer (some ⟨pb,0,none⟩),.int .i64 (lv:Int)] w fun e w'=>WA lv (CW tl b) e∧Below w.heap.size w w':=by
 have Z:=v.big;have K:=Ab (show ∀ k,(w.alloc (.cells #[.int .i64 0,.int .i64 0,.string ⟨#[]⟩] 220)).cell? ⟨13,k,none⟩=Ia[k]? from fun k=>(World.cell?_alloc_lt _ _ ⟨13,k,none⟩ (by show 13 < _;omega)).trans (v.tab k));have O:=Ab h;clear v h;have L:=(Below.refl w.heap.size w).alloc NLN (.cells #[.int .i64 0,.int .i64 0,.string ⟨#[]⟩] 220);have M:=An.new w #[.int .i64 0,.int .i64 0,.string ⟨#[]⟩] 220;go_enter Tryz.func134,Tryz.ntmps134
 go_wp2_with (refine If rfl 228 _ rfl 13 rfl Ia _ (Aa K) Tryz.underlying228 rfl (by kernel_rfl) ?_)
 clear K;go_loopw [9] (fun i wr=>∃ j:Nat,j≤16∧i= .int .i64 j∧Below w.heap.size w wr∧An wr w.heap.size #[.int .i64 0,.int .i64 0,.string ⟨#[]⟩] 220∧∀ i,i < j→(FL i).lv=(lv:Int)→see (Ak (FL i).text) (CW tl b)=false) (fun i _=>16 - (intOf i).toNat)
 case atStart=>exact ⟨0,by omega,rfl,L,M,fun j h=>absurd h (by omega)⟩
 case round=>
  obtain ⟨j,aa,rfl,x,o,N⟩:=hrel;have q:=Ab N;clear N L M;by_cases r:j < 16
  ·have ab:(j:Int) < 16:=by omega
   have t:=Ab (NQ j r);have y:=Ab (Wx j r);have f:=Ab r;have m:=Ab (show ((FL j).lv=(lv:Int)→see (Ak (FL j).text) (CW tl b)=false)→∀ i,i < j+1→(FL i).lv=(lv:Int)→see (Ak (FL i).text) (CW tl b)=false from fun e i hi=>by
    by_cases P:i=j
    ·subst P;exact e
    ·exact Aa q i (by omega))
   clear q r;generalize FL j=a at t m y;have n:=x.alloc x.size (.cells #[.int .i64 a.op,.int .i64 a.lv,.string a.text] 220);have u:=o.alloc (.cells #[.int .i64 a.op,.int .i64 a.lv,.string a.text] 220);have Q:=An.new wr #[.int .i64 a.op,.int .i64 a.lv,.string a.text] 220;by_cases d:a.lv=(lv:Int)
   ·have R:(a.lv==(lv:Int))=true:=beq_iff_eq.2 d;have z:=Ab (AR ((Aa O).below n) (Ak a.text));rw[BE] at z;cases hs:see (Ak a.text) (CW tl b)
    ·have A:=Ab (Aa m (fun _=>hs));have B:=Ab (show AL (Ak a.text) b=false by rw[← Qp (Ak a.text) tl b];exact hs);clear d m hs;go_wp2_with (first | (refine DC rfl 228 _ _ rfl Ia rfl j rfl 16 220 Tryz.underlying228 (Aa f) _ Tryz.underlying220 rfl 3 (by kernel_rfl) _ (Aa t) ?_) | (go_at_call 84;refine (Aa z).mono ?_;rintro e S ⟨rfl,l⟩;rw[Aa B]))
     have C:=n.trans (l.mono n.size);have E:=u.after l NLN;go_roundw
     case rel=>exact ⟨j+1,Aa f,by go_num,C,E,Aa A⟩
     case measure=>have:=Aa f;simp[intOf];omega
    ·have B:=Ab (show AL (Ak a.text) b=true by rw[← Qp (Ak a.text) tl b];exact hs);have F:=Ab (show CF lv (CW tl b)=some a.op from US (s:=Ak a.text) (by have:=(Aa y).1;rw[d] at this;exact this) hs);have U:=Ab d;clear m hs d y;have ac:=o.lt;have nz:wr.heap.size≠w.heap.size:=by omega
     have ad:w.heap.size≠wr.heap.size:=by omega
     go_wp2_with (first | (refine DC rfl 228 _ _ rfl Ia rfl j rfl 16 220 Tryz.underlying228 (Aa f) _ Tryz.underlying220 rfl 3 (by kernel_rfl) _ (Aa t) ?_) | (go_at_call 84;refine (Aa z).mono ?_;rintro e S ⟨rfl,l⟩;rw[Aa B];obtain ⟨V,W,q2,X⟩:=Qq (u.after l NLN);obtain ⟨ae,af,ag,ah⟩:=Qq (Q.after l NLN)))
     have C:=n.trans (l.mono n.size);have E:=u.after l NLN;have H:An _ w.heap.size #[.int .i64 a.op,.int .i64 a.lv,.string a.text] 220:=(((E.set 0 (.int .i64 a.op)).set 1 (.int .i64 a.lv)).set 2 (.string a.text))
     have I:=(((C.setCell (p:=⟨w.heap.size,0,none⟩) NLN (.int .i64 a.op)).setCell (p:=⟨w.heap.size,1,none⟩) NLN (.int .i64 a.lv)).setCell (p:=⟨w.heap.size,2,none⟩) NLN (.string a.text))
     obtain ⟨J,g1,g2,Y⟩:=Qq H;exact bodyPost_ret (Sg Tryz.results134 rfl rfl J g1 g2) rfl ⟨by rw[WA,Aa F,Aa U];exact ⟨_,rfl⟩,I⟩
   ·have R:(a.lv==(lv:Int))=false:=beq_eq_false_iff_ne.2 d;have A:=Ab (Aa m (fun e=>absurd e d));clear d m;go_wp2_with (refine DC rfl 228 _ _ rfl Ia rfl j rfl 16 220 Tryz.underlying228 (Aa f) _ Tryz.underlying220 rfl 3 (by kernel_rfl) _ (Aa t) ?_)
    go_roundw
    case rel=>exact ⟨j+1,Aa f,by go_num,n,u,Aa A⟩
    case measure=>have:=Aa f;simp[intOf];omega
  ·have e:j=16:=by omega
   subst e;have F:=Ab (show CF lv (CW tl b)=none from Td (Aa q));clear q;obtain ⟨V,W,q2,X⟩:=Qq o;go_wp2_with fail
   have H:An _ w.heap.size #[.int .i64 0,.int .i64 0,.string ⟨#[]⟩] 220:=((o.set 0 (.int .i64 0)).set 1 (.int .i64 0)).set 2 (.string ⟨#[]⟩);have I:=(((x.setCell (p:=⟨w.heap.size,0,none⟩) NLN (.int .i64 0)).setCell (p:=⟨w.heap.size,1,none⟩) NLN (.int .i64 0)).setCell (p:=⟨w.heap.size,2,none⟩) NLN (.string ⟨#[]⟩))
   obtain ⟨J,g1,g2,Y⟩:=Qq H;exact bodyPost_ret (Sg Tryz.results134 rfl rfl J g1 g2) rfl ⟨by rw[WA,Aa F];rfl,I⟩
end Go.Proofs.YtdldimphcpojoaaGreatDoor
