/-
  OWS, TO. Own work.
-/
import Derived.Test.YtffkofkjpckmpaaGreatDoorMXAR
import Derived.Test.YtffkofkjpckmpaaGreatDoorMXAK
import Derived.Test.YtffkofkjpckmpaaGreatDoorMXBB
namespace Go.Proofs.YtffkofkjpckmpaaGreatDoor
open Go.RowKit
set_option linter.unusedVariables false
set_option maxRecDepth 100000
set_option maxHeartbeats 6400000
def GM (j:Nat) (o:N5) (e:Ending):Prop:=match o with
 | .bad c=>∃ (k m n:Int) (x:ByteArray),e= .returned (.tuple #[.agg #[.int .i64 k,.int .i64 m,.string x,.int .i64 (j:Int)],.int .i64 n,.int .i64 c])
 | .tok k m t w=>e= .returned (.tuple #[.agg #[.int .i64 k,.int .i64 m,.string (AB t),.int .i64 (j:Int)],.int .i64 ((j+w:Nat):Int),.int .i64 0])
theorem QK (s:ByteArray)(j e:Nat):s.extract j e=AB (((Aj s).drop j).take (e - j)):=by
 rw[← BV,Bn]
theorem II (w:World)(j:Nat):∃ a,((w.alloc (.cells #[.int .i64 0,.int .i64 0,.string ⟨#[]⟩,.int .i64 0] 42)).alloc (.cells #[.int .i64 0,.int .i64 0,.string ⟨#[]⟩,.int .i64 j] 42))=a∧Am a w.heap.size #[.int .i64 0,.int .i64 0,.string ⟨#[]⟩,.int .i64 0] 42∧Am a (w.heap.size+1) #[.int .i64 0,.int .i64 0,.string ⟨#[]⟩,.int .i64 j] 42∧Below w.heap.size w a∧a.heap.size=w.heap.size+2:=by
 refine ⟨_,rfl,(Am.new w _ _).alloc _, ?_,((Below.refl w.heap.size w).alloc NLN _).alloc (by simp) _,by simp⟩;have:=Am.new (w.alloc (.cells #[.int .i64 0,.int .i64 0,.string ⟨#[]⟩,.int .i64 0] 42)) #[.int .i64 0,.int .i64 0,.string ⟨#[]⟩,.int .i64 j] 42;simpa using this
theorem AU {w:World}{b:Nat}{a c d f:Value}{t:TypeId}(R:Am w b #[a,c,d,f] t):w.cell? ⟨b,0,none⟩=some a∧w.cell? ⟨b,1,none⟩=some c∧w.cell? ⟨b,2,none⟩=some d∧w.cell? ⟨b,3,none⟩=some f∧∀ j,w.frozen? ⟨b,j,none⟩=false:=
 ⟨by simpa using R.cell 0,by simpa using R.cell 1,by simpa using R.cell 2,by simpa using R.cell 3,fun j=>R.frozen j⟩
theorem AA {d:Func}{a t u:Tmp}(h:d.results= #[.cell a 42,.tmp t,.tmp u]){c:Array Value}{w:World}{b:Nat}{f g i j:Value}(k:c.getD a undef= .pointer (some ⟨b,0,none⟩))
  (l:w.cell? ⟨b,0,none⟩=some f)(g1:w.cell? ⟨b,1,none⟩=some g)(g2:w.cell? ⟨b,2,none⟩=some i)(g3:w.cell? ⟨b,3,none⟩=some j):
  (results d c).run Tryz.prog w= .ok (.tuple #[.agg #[f,g,i,j],c.getD t undef,c.getD u undef]) w:=by
 rw[yA] at k;simp[results,h,k,go_sem,l,g1,g2,g3]
theorem U6 (s:ByteArray)(j:Nat)(w:World)(hs:s.size≤1048576)(A:j < s.size)(hl:I2 (s[j].toNat:Int)=true):
  Calls Tryz.prog 34 #[.string s,.int .i64 j] w fun e w'=>GM j (Bz ((Aj s).drop j)) e∧Below w.heap.size w w':=by
 have J:(j:Int) < (s.size:Int):=by omega
 obtain ⟨B,C⟩:=Wf (p:=Dk) (s:=s) (Nat.le_of_lt A);have i:=Ab (En Dk s j);obtain ⟨K,E,d,k,u,L⟩:=II w j;have F:=Ab hl;clear hl;go_enter Tryz.func34,Tryz.ntmps34
 go_wp2_with (go_at_call 69;refine (A8 _ _).mono ?_;rintro e w' ⟨rfl,f⟩;rw[Aa F,f];clear f)
 clear E;refine (La s j _ (by unfold maxLen;omega) (by omega)).mono ?_;rintro e H ⟨rfl,rfl⟩;generalize DF Dk s j=a at B C i ⊢;have M:(j:Int)≤(a:Int):=by omega
 have N:(a:Int)≤(s.size:Int):=by omega
 obtain ⟨v,c1,c2,c3,y⟩:=AU k;have l:=(k.set 2 (.string (s.extract j a))).set 0 (.int .i64 3);have q:=(d.setFar (p:=⟨w.heap.size+1,2,none⟩) (by show w.heap.size≠w.heap.size+1;omega) (.string (s.extract j a))).setFar (p:=⟨w.heap.size+1,0,none⟩) (by show w.heap.size≠w.heap.size+1;omega) (.int .i64 3);have m:=(u.setCell (p:=⟨w.heap.size+1,2,none⟩) (by show w.heap.size≤w.heap.size+1;omega) (.string (s.extract j a))).setCell (p:=⟨w.heap.size+1,0,none⟩) (by show w.heap.size≤w.heap.size+1;omega) (.int .i64 3);simp only[z3,z6,z4] at l;have z:=Ab (QK s j a);have O:(s.extract j a).size=a - j:=by rw[zt];omega
 go_wp2_with fail
 generalize (H.setCell ⟨w.heap.size+1,2,none⟩ (.string (s.extract j a))).setCell ⟨w.heap.size+1,0,none⟩ (.int .i64 3)=P at l q m ⊢;clear d k u v c1 c2 c3 y;generalize s.extract j a=x at *;refine (Ny x _).mono ?_;rintro e Q ⟨rfl,n⟩;have k:=l.after n NLN;have d:=q.after n NLN;have o:=m.trans (n.mono m.size);clear l q m n;obtain ⟨R,d1,d2,d3,S⟩:=AU d;obtain ⟨v,c1,c2,c3,y⟩:=AU k;cases f:Fc (Aj x)
 ·have r:=Ab f;clear f;by_cases I: 32 < a - j
  ·have t:((32 :Int) < (x.size:Int)):=by omega
   go_wp2_with fail
   have g:=Ao (b:=w.heap.size) o NLN (.int .i64 3) (.int .i64 0) (.string x) (.int .i64 j);obtain ⟨c,g1,g2,g3,_⟩:=AU (AI d (.int .i64 3) (.int .i64 0) (.string x) (.int .i64 j));simp only[CC] at c g1 g2 g3;refine bodyPost_ret (AA Tryz.results34 rfl c g1 g2 g3) rfl ⟨?_,g⟩;have h: 32 < AR Dk ((Aj s).drop j):=by have:=Aa i;omega
   rw[Bz,if_pos h];exact ⟨_,_,_,_,rfl⟩
  ·have t: ¬ ((32 :Int) < (x.size:Int)):=by omega
   go_wp2_with fail
   have g:=Ao (b:=w.heap.size) o NLN (.int .i64 3) (.int .i64 0) (.string x) (.int .i64 j);obtain ⟨c,g1,g2,g3,_⟩:=AU (AI d (.int .i64 3) (.int .i64 0) (.string x) (.int .i64 j));simp only[CC] at c g1 g2 g3;refine bodyPost_ret (AA Tryz.results34 rfl c g1 g2 g3) rfl ⟨?_,g⟩;have h:AR Dk ((Aj s).drop j)=a - j:=by have:=Aa i;omega
   rw[Bz,h,if_neg (by omega),← Dg (((Aj s).drop j).take (a - j)),← Aa z,Aa r];simp only[GM,Bn];rw[show j+(a - j)=a by omega];rfl
 ·have r:=Ab f;clear f;by_cases I: 32 < a - j
  ·have t:((32 :Int) < (x.size:Int)):=by omega
   go_wp2_with fail
   have g:=Ao (b:=w.heap.size) (o.setCell (p:=⟨w.heap.size+1,0,none⟩) (by show w.heap.size≤w.heap.size+1;omega) (.int .i64 4)) NLN (.int .i64 4) (.int .i64 0) (.string x) (.int .i64 j);obtain ⟨c,g1,g2,g3,_⟩:=AU (AI (d.setFar (p:=⟨w.heap.size+1,0,none⟩) (by show w.heap.size≠w.heap.size+1;omega) (.int .i64 4)) (.int .i64 4) (.int .i64 0) (.string x) (.int .i64 j));simp only[CC] at c g1 g2 g3;refine bodyPost_ret (AA Tryz.results34 rfl c g1 g2 g3) rfl ⟨?_,g⟩;have h: 32 < AR Dk ((Aj s).drop j):=by have:=Aa i;omega
   rw[Bz,if_pos h];exact ⟨_,_,_,_,rfl⟩
  ·have t: ¬ ((32 :Int) < (x.size:Int)):=by omega
   go_wp2_with fail
   have g:=Ao (b:=w.heap.size) (o.setCell (p:=⟨w.heap.size+1,0,none⟩) (by show w.heap.size≤w.heap.size+1;omega) (.int .i64 4)) NLN (.int .i64 4) (.int .i64 0) (.string x) (.int .i64 j);obtain ⟨c,g1,g2,g3,_⟩:=AU (AI (d.setFar (p:=⟨w.heap.size+1,0,none⟩) (by show w.heap.size≠w.heap.size+1;omega) (.int .i64 4)) (.int .i64 4) (.int .i64 0) (.string x) (.int .i64 j));simp only[CC] at c g1 g2 g3;refine bodyPost_ret (AA Tryz.results34 rfl c g1 g2 g3) rfl ⟨?_,g⟩;have h:AR Dk ((Aj s).drop j)=a - j:=by have:=Aa i;omega
   rw[Bz,h,if_neg (by omega),← Dg (((Aj s).drop j).take (a - j)),← Aa z,Aa r];simp only[GM,Bn];rw[show j+(a - j)=a by omega];rfl
end Go.Proofs.YtffkofkjpckmpaaGreatDoor
