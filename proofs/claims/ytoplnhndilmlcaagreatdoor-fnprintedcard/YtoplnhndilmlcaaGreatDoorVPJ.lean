/-
  The program's look at all nodes. Own work.
-/
import Derived.Test.YtoplnhndilmlcaaGreatDoorMXAG
namespace Go.Proofs.YtoplnhndilmlcaaGreatDoor
set_option maxRecDepth 100000
set_option maxHeartbeats 6400000
open Go.RowKit
set_option linter.unusedVariables false
set_option linter.unusedSimpArgs false
theorem ET (a:Option Addr)(n c:Nat)(L:List Nd)(w:World)(h:Fe w a n c L)(ac:Cw w):
  Calls Tryz.prog 53 #[.slice a n c,.func (.func 26) #[] #[]] w fun e w'=>e= .returned (.bool (L.all Aq))∧Below w.heap.size w w':=by
 have aj:=h.small;have T:=Ab h.len;go_enter Tryz.func53,Tryz.ntmps53
 go_wp2_with fail
 go_loopw [9] (fun i wr=>∃ k:Nat,k≤n∧i= .int .i64 k∧Below w.heap.size w wr∧∀ j,(s:j < L.length)→j < k→Aq L[j]=true) (fun i _=>n - (intOf i).toNat)
 case atStart=>exact ⟨0,by omega,rfl,BRN,fun j s h=>absurd h (by omega)⟩
 case round=>
  obtain ⟨k,hk,rfl,A,U⟩:=hrel;have H:=Ab U;clear U;by_cases V:k < n
  ·have ak:(k:Int) < (n:Int):=by omega
   have I:k < L.length:=by rw[Aa T];exact V
   have J:=h.sizes L[k] (List.getElem_mem I);obtain ⟨b,al,rfl,ao,an,nn,l,f,d,g,ad,c1,c2,c3,c4,M,B⟩:=(h.below A NLN).cells k I;have W:=ac.below A NLN;have t:=Ab (show Aq L[k]=false→L.all Aq=false from fun e=>by
    rw[← Bool.not_eq_true,Ge];intro ae;rw[ae k I] at e;cases e)
   have C:=Ab (show Aq L[k]=true→∀ j,(s:j < L.length)→j < k+1→Aq L[j]=true from fun e j s ap=>by
    by_cases af:j=k
    ·subst af;exact e
    ·exact Aa H j s (by omega))
   have X:=Ab V;clear H;generalize L[k]=x at ad c1 c2 c3 c4 M B J t C;have N:=Ab (MQ x);have Y:=Ab B.len;have q:=Aj.new wr #[.int .i64 x.op,.int .i64 x.num,.string x.text,.slice an nn l,.slice f d g] 80;have u:=A.alloc A.size (.cells #[.int .i64 x.op,.int .i64 x.num,.string x.text,.slice an nn l,.slice f d g] 80);have Z:=(Below.refl wr.heap.size wr).alloc NLN (.cells #[.int .i64 x.op,.int .i64 x.num,.string x.text,.slice an nn l,.slice f d g] 80);have aa:=M.below Z NLN;have y:=W.below Z NLN;clear M W B;by_cases r:(d:Int)=Fx x.op
   ·have ek:((d:Int) != Fx x.op)=false:=by rw[r];simp
    cases z:wfB x
    ·have O:=Ab (Aa t (by rw[Aa N,z,Bool.and_false]));have P:=Ab z;clear z r t C;go_wp2_with fail
     have o:Below (wr.alloc (.cells #[.int .i64 x.op,.int .i64 x.num,.string x.text,.slice an nn l,.slice f d g] 80)).heap.size (wr.alloc (.cells #[.int .i64 x.op,.int .i64 x.num,.string x.text,.slice an nn l,.slice f d g] 80)) (wr.alloc (.cells #[.int .i64 x.op,.int .i64 x.num,.string x.text,.slice an nn l,.slice f d g] 80)).drew:=BRN.drew;have Q:=GN q o;go_region_held3 (fun w'=>w'.cell? ⟨wr.heap.size,0,none⟩=some (.int .i64 x.op)∧w'.cell? ⟨wr.heap.size,1,none⟩=some (.int .i64 x.num)∧w'.cell? ⟨wr.heap.size,2,none⟩=some (.string x.text)∧w'.cell? ⟨wr.heap.size,3,none⟩=some (.slice an nn l)∧w'.cell? ⟨wr.heap.size,4,none⟩=some (.slice f d g)) (first | assumption | go_keep)
      (first
       | (go_at_call 91;refine (Gd _ _ (y.below o NLN).lt (y.below o NLN).cells).mono ?_;rintro e ab ⟨rfl,E⟩;have p:=o.trans (E.mono NLN);have q2:=GN q p)
       | (go_at_call 26;refine (Fp x an nn l f d g _ (aa.below p NLN) J).mono ?_;rintro e ag ⟨rfl,R⟩;rw[Aa P];have F:=p.trans (R.mono p.size);have q3:=GN q F))
     go_wp2_with fail
     go_ret
     exact ⟨Ag (Aa O).symm,u.trans (F.mono u.size)⟩
    ·have ah:=Ab (Aa C (by rw[Aa N,z,Aa Y,decide_eq_true r];rfl));have P:=Ab z;clear z r t C;go_wp2_with fail
     have o:Below (wr.alloc (.cells #[.int .i64 x.op,.int .i64 x.num,.string x.text,.slice an nn l,.slice f d g] 80)).heap.size (wr.alloc (.cells #[.int .i64 x.op,.int .i64 x.num,.string x.text,.slice an nn l,.slice f d g] 80)) (wr.alloc (.cells #[.int .i64 x.op,.int .i64 x.num,.string x.text,.slice an nn l,.slice f d g] 80)).drew:=BRN.drew;have Q:=GN q o;go_region_held3 (fun w'=>w'.cell? ⟨wr.heap.size,0,none⟩=some (.int .i64 x.op)∧w'.cell? ⟨wr.heap.size,1,none⟩=some (.int .i64 x.num)∧w'.cell? ⟨wr.heap.size,2,none⟩=some (.string x.text)∧w'.cell? ⟨wr.heap.size,3,none⟩=some (.slice an nn l)∧w'.cell? ⟨wr.heap.size,4,none⟩=some (.slice f d g)) (first | assumption | go_keep)
      (first
       | (go_at_call 91;refine (Gd _ _ (y.below o NLN).lt (y.below o NLN).cells).mono ?_;rintro e ab ⟨rfl,E⟩;have p:=o.trans (E.mono NLN);have q2:=GN q p)
       | (go_at_call 26;refine (Fp x an nn l f d g _ (aa.below p NLN) J).mono ?_;rintro e ag ⟨rfl,R⟩;rw[Aa P];have F:=p.trans (R.mono p.size);have q3:=GN q F))
     go_wp2_with fail
     go_roundw
     case rel=>exact ⟨k+1,Aa X,by go_num,u.trans (F.mono u.size),Aa ah⟩
     case measure=>have:=Aa X;simp[intOf];omega
   ·have ek:((d:Int) != Fx x.op)=true:=bne_iff_ne.2 r;have O:=Ab (Aa t (by rw[Aa N,Aa Y,decide_eq_false r];rfl));clear r t C;go_wp2_with fail
    have o:Below (wr.alloc (.cells #[.int .i64 x.op,.int .i64 x.num,.string x.text,.slice an nn l,.slice f d g] 80)).heap.size (wr.alloc (.cells #[.int .i64 x.op,.int .i64 x.num,.string x.text,.slice an nn l,.slice f d g] 80)) (wr.alloc (.cells #[.int .i64 x.op,.int .i64 x.num,.string x.text,.slice an nn l,.slice f d g] 80)).drew:=BRN.drew;have Q:=GN q o;refine wp_region_held_drew (S:=(fun w'=>w'.cell? ⟨wr.heap.size,0,none⟩=some (.int .i64 x.op)∧w'.cell? ⟨wr.heap.size,1,none⟩=some (.int .i64 x.num)∧w'.cell? ⟨wr.heap.size,2,none⟩=some (.string x.text)∧w'.cell? ⟨wr.heap.size,3,none⟩=some (.slice an nn l)∧w'.cell? ⟨wr.heap.size,4,none⟩=some (.slice f d g))) rfl Q (fun aq=>?_);refine wpAnyH_take (i:=0) (v:= .pointer (some ⟨wr.heap.size,4,none⟩)) rfl (by kernel_rfl) (by kernel_rfl) (by kernel_rfl) (fun _ _ _ h=>h) (Or.inl ⟨rfl,fun w' m=>by (try dsimp only at m);go_simp⟩) (by assumption) ?_
    simp only[Act.put,List.setIfInBounds_toArray,List.set_cons_zero,List.set_cons_succ];refine wpAnyH_take (i:=1) (v:= .slice f d g) rfl (by kernel_rfl) (by kernel_rfl) (by kernel_rfl) (fun _ _ _ h=>h) (Or.inl ⟨rfl,fun w' m=>by (try dsimp only at m);go_simp⟩) (by assumption) ?_
    simp only[Act.put,List.setIfInBounds_toArray,List.set_cons_zero,List.set_cons_succ];refine wpAnyH_take (i:=2) (v:= .int .i64 d) rfl (by kernel_rfl) (by kernel_rfl) (by kernel_rfl) (fun _ _ _ h=>h) (Or.inl ⟨rfl,fun w' m=>by (try dsimp only at m);go_simp⟩) (by assumption) ?_
    simp only[Act.put,List.setIfInBounds_toArray,List.set_cons_zero,List.set_cons_succ];refine wpAnyH_take (i:=3) (v:= .pointer (some ⟨wr.heap.size,0,none⟩)) rfl (by kernel_rfl) (by kernel_rfl) (by kernel_rfl) (fun _ _ _ h=>h) (Or.inl ⟨rfl,fun w' m=>by (try dsimp only at m);go_simp⟩) (by assumption) ?_
    simp only[Act.put,List.setIfInBounds_toArray,List.set_cons_zero,List.set_cons_succ];refine wpAnyH_take (i:=4) (v:= .int .i64 x.op) rfl (by kernel_rfl) (by kernel_rfl) (by kernel_rfl) (fun _ _ _ h=>h) (Or.inl ⟨rfl,fun w' m=>by (try dsimp only at m);go_simp⟩) (by assumption) ?_
    simp only[Act.put,List.setIfInBounds_toArray,List.set_cons_zero,List.set_cons_succ];refine wpAnyH_ready (rs:= [5]) (by kernel_rfl) (by simp) ?_;refine AllReadyH.cons rfl (fun K B=>?_) AllReadyH.nil;go_simp
    go_at_call 91
    refine (Gd _ _ (y.below o NLN).lt (y.below o NLN).cells).mono ?_;rintro e ab ⟨rfl,E⟩;have p:=o.trans (E.mono NLN);have q2:=GN q p;refine B.out _ _ q2 (fun ar=>?_);refine wpAnyH_take (i:=6) (v:= .bool true) rfl (by kernel_rfl) (by kernel_rfl) (by kernel_rfl) (fun _ _ _ h=>h) (Or.inl ⟨rfl,fun w' m=>by (try dsimp only at m);go_simp⟩) (by assumption) ?_
    simp only[Act.put,List.setIfInBounds_toArray,List.set_cons_zero,List.set_cons_succ];refine wpAnyH_take (i:=7) (v:= .bool true) rfl (by kernel_rfl) (by kernel_rfl) (by kernel_rfl) (fun _ _ _ h=>h) (Or.inl ⟨rfl,fun w' m=>by (try dsimp only at m);go_simp⟩) (by assumption) ?_
    simp only[Act.put,List.setIfInBounds_toArray,List.set_cons_zero,List.set_cons_succ];refine wpAnyH_take (i:=8) (v:=undef) rfl (by kernel_rfl) (by kernel_rfl) (by kernel_rfl) (fun _ _ _ h=>h) (Or.inr ⟨rfl,rfl⟩) (by assumption) ?_;simp only[Act.put,List.setIfInBounds_toArray,List.set_cons_zero,List.set_cons_succ];refine wpAnyH_take (i:=9) (v:=undef) rfl (by kernel_rfl) (by kernel_rfl) (by kernel_rfl) (fun _ _ _ h=>h) (Or.inr ⟨rfl,rfl⟩) (by assumption) ?_;simp only[Act.put,List.setIfInBounds_toArray,List.set_cons_zero,List.set_cons_succ];refine wpAnyH_take (i:=10) (v:=undef) rfl (by kernel_rfl) (by kernel_rfl) (by kernel_rfl) (fun _ _ _ h=>h) (Or.inr ⟨rfl,rfl⟩) (by assumption) ?_;simp only[Act.put,List.setIfInBounds_toArray,List.set_cons_zero,List.set_cons_succ];refine wpAnyH_take (i:=11) (v:=undef) rfl (by kernel_rfl) (by kernel_rfl) (by kernel_rfl) (fun _ _ _ h=>h) (Or.inr ⟨rfl,rfl⟩) (by assumption) ?_;simp only[Act.put,List.setIfInBounds_toArray,List.set_cons_zero,List.set_cons_succ];refine wpAnyH_take (i:=12) (v:= .bool true) rfl (by kernel_rfl) (by kernel_rfl) (by kernel_rfl) (fun _ _ _ h=>h) (Or.inl ⟨rfl,fun w' m=>by (try dsimp only at m);go_simp⟩) (by assumption) ?_
    simp only[Act.put,List.setIfInBounds_toArray,List.set_cons_zero,List.set_cons_succ];refine wpAnyH_done (by kernel_rfl) ?_ _;go_wp2_with fail
    go_ret
    exact ⟨Ag (Aa O).symm,u.trans (p.mono u.size)⟩
  ·have e:k=n:=by omega
   subst e;have ai:=Ab (show L.all Aq=true from (Ge L).2 (fun j s=>Aa H j s (by have:=Aa T;omega)));go_wp2
   go_ret
   exact ⟨Ag (Aa ai).symm,A⟩
end Go.Proofs.YtoplnhndilmlcaaGreatDoor
