/-
  ZC, VPJ, VPU, MKL. Own work.
-/
import Derived.Test.YtchakjeegneeoaaGreatDoorMXAI
import Derived.Test.YtchakjeegneeoaaGreatDoorVPH
import Derived.Test.YtchakjeegneeoaaGreatDoorMXBJ
import Derived.Test.YtchakjeegneeoaaGreatDoorMXAD
import Derived.Test.YtchakjeegneeoaaGreatDoorShelf
import Derived.Sort.OwnSorted
namespace Go.Proofs.YtchakjeegneeoaaGreatDoor
open Go.RowKit
set_option linter.unusedVariables false
theorem Zt (op a:Int)(h: 8≤op∧op≤10):Cr op [a]=Ct op [a]:=by
 have:op=8∨op=9∨op=10:=by omega
 rcases this with rfl | rfl | rfl
 ·by_cases h:a=2 <;> simp[Cr,DB,Ct,EZ,h]
 ·by_cases h:a=1 <;> simp[Cr,DB,Ct,EZ,h]
 ·by_cases h:a=4 <;> simp[Cr,DB,Ct,EZ,h]
theorem XG (op a b:Int)(h: 11≤op∧op≤26)(f:a≠0):Cr op [a,b]=Ct op [a,b]:=by
 have:op=11∨op=12∨op=13∨op=14∨op=15∨op=16∨op=17∨op=18∨op=19∨op=20∨op=21∨op=22∨op=23∨op=24∨op=25∨op=26:=by omega
 rcases this with rfl | rfl | rfl | rfl | rfl | rfl | rfl | rfl | rfl | rfl | rfl | rfl | rfl | rfl | rfl | rfl
 all_goals
  first
   |(by_cases e:b=a <;> first | (subst e;simp[Cr,DB,Ct,EZ,f];done) | (have e2:a≠b:=fun k=>e k.symm;simp[Cr,DB,Ct,EZ,f,e,e2];done))
   |(by_cases c:a=1 <;> by_cases d:b=1 <;> simp[Cr,DB,Ct,EZ,c,d];done)
   |(by_cases c:a=2 <;> by_cases d:b=2 <;> simp[Cr,DB,Ct,EZ,c,d];done)
   |(by_cases c:a=4 <;> by_cases d:b=4 <;> simp[Cr,DB,Ct,EZ,c,d];done)
   |(by_cases c:a=3 <;> by_cases d:b=4 <;> simp[Cr,DB,Ct,EZ,c,d];done)
theorem XH (a b c:Int)(d:b≠0):Cr 27 [a,b,c]=Ct 27 [a,b,c]:=by
 simp[Cr,DB,Ct,EZ,d];by_cases h1:a=1 <;> by_cases h2:c=b <;> simp_all <;> omega
set_option maxRecDepth 100000
set_option maxHeartbeats 6400000
set_option linter.unusedSimpArgs false
theorem FP (a:Option Addr)(n c:Nat)(L:List Nd)(w:World)(h:GQ w a n c L)(ab:Jl w):
  Calls Tryz.prog 124 #[.slice a n c,.func (.func 95) #[] #[]] w fun e w'=>e= .returned (.bool (L.all As))∧Below w.heap.size w w':=by
 have ai:=h.small;have T:=Ab h.len;go_enter Tryz.func124,Tryz.ntmps124
 go_wp2_with fail
 go_loopw [9] (fun i wr=>∃ k:Nat,k≤n∧i= .int .i64 k∧Below w.heap.size w wr∧∀ j,(s:j < L.length)→j < k→As L[j]=true) (fun i _=>n - (intOf i).toNat)
 case atStart=>exact ⟨0,by omega,rfl,BRN,fun j s h=>absurd h (by omega)⟩
 case round=>
  obtain ⟨k,hk,rfl,A,U⟩:=hrel;have H:=Ab U;clear U;by_cases V:k < n
  ·have aj:(k:Int) < (n:Int):=by omega
   have I:k < L.length:=by rw[Aa T];exact V
   have J:=h.sizes L[k] (zO I);obtain ⟨b,ak,rfl,al,an,nn,l,f,d,g,c0,c1,c2,c3,c4,M,B⟩:=(h.below A NLN).cells k I;have W:=ab.below A NLN;have t:=Ab (show As L[k]=false→L.all As=false from fun e=>by
    rw[← Bool.not_eq_true,G0];intro ac;rw[ac k I] at e;cases e)
   have C:=Ab (show As L[k]=true→∀ j,(s:j < L.length)→j < k+1→As L[j]=true from fun e j s ao=>by
    by_cases ad:j=k
    ·subst ad;exact e
    ·exact Aa H j s (by omega))
   have X:=Ab V;clear H;generalize L[k]=x at c0 c1 c2 c3 c4 M B J t C;have N:=Ab (OR x);have Y:=Ab B.len;have q:=Al.new wr #[.int .i64 x.op,.int .i64 x.num,.string x.text,.slice an nn l,.slice f d g] 68;have u:=A.alloc A.size (.cells #[.int .i64 x.op,.int .i64 x.num,.string x.text,.slice an nn l,.slice f d g] 68);have Z:=(Below.refl wr.heap.size wr).alloc NLN (.cells #[.int .i64 x.op,.int .i64 x.num,.string x.text,.slice an nn l,.slice f d g] 68);have aa:=M.below Z NLN;have y:=W.below Z NLN;clear M W B;by_cases r:(d:Int)=Dn x.op
   ·have ae:((d:Int) != Dn x.op)=false:=by rw[r];simp
    cases z:wfB x
    ·have O:=Ab (Aa t (by rw[Aa N,z,Bool.and_false]));have P:=Ab z;clear z r t C;go_wp2_with fail
     have o:Below (wr.alloc (.cells #[.int .i64 x.op,.int .i64 x.num,.string x.text,.slice an nn l,.slice f d g] 68)).heap.size (wr.alloc (.cells #[.int .i64 x.op,.int .i64 x.num,.string x.text,.slice an nn l,.slice f d g] 68)) (wr.alloc (.cells #[.int .i64 x.op,.int .i64 x.num,.string x.text,.slice an nn l,.slice f d g] 68)).drew:=BRN.drew;have Q:=II q o;go_region_held3 (fun w'=>w'.cell? ⟨wr.heap.size,0,none⟩=some (.int .i64 x.op)∧w'.cell? ⟨wr.heap.size,1,none⟩=some (.int .i64 x.num)∧w'.cell? ⟨wr.heap.size,2,none⟩=some (.string x.text)∧w'.cell? ⟨wr.heap.size,3,none⟩=some (.slice an nn l)∧w'.cell? ⟨wr.heap.size,4,none⟩=some (.slice f d g)) (first | assumption | go_keep)
      (first
       |(go_at_call 148;refine (GZ _ _ (y.below o NLN).lt (y.below o NLN).cells).mono ?_;rintro e w2 ⟨rfl,E⟩;have p:=o.trans (E.mono NLN);have q2:=II q p)
       |(go_at_call 95;refine (Gj x an nn l f d g _ (aa.below p NLN) J).mono ?_;rintro e af ⟨rfl,R⟩;rw[Aa P];have F:=p.trans (R.mono p.size);have q3:=II q F))
     go_wp2_with fail
     go_ret
     exact ⟨Ag (Aa O).symm,u.trans (F.mono u.size)⟩
    ·have ag:=Ab (Aa C (by rw[Aa N,z,Aa Y,zW r];rfl));have P:=Ab z;clear z r t C;go_wp2_with fail
     have o:Below (wr.alloc (.cells #[.int .i64 x.op,.int .i64 x.num,.string x.text,.slice an nn l,.slice f d g] 68)).heap.size (wr.alloc (.cells #[.int .i64 x.op,.int .i64 x.num,.string x.text,.slice an nn l,.slice f d g] 68)) (wr.alloc (.cells #[.int .i64 x.op,.int .i64 x.num,.string x.text,.slice an nn l,.slice f d g] 68)).drew:=BRN.drew;have Q:=II q o;go_region_held3 (fun w'=>w'.cell? ⟨wr.heap.size,0,none⟩=some (.int .i64 x.op)∧w'.cell? ⟨wr.heap.size,1,none⟩=some (.int .i64 x.num)∧w'.cell? ⟨wr.heap.size,2,none⟩=some (.string x.text)∧w'.cell? ⟨wr.heap.size,3,none⟩=some (.slice an nn l)∧w'.cell? ⟨wr.heap.size,4,none⟩=some (.slice f d g)) (first | assumption | go_keep)
      (first
       |(go_at_call 148;refine (GZ _ _ (y.below o NLN).lt (y.below o NLN).cells).mono ?_;rintro e w2 ⟨rfl,E⟩;have p:=o.trans (E.mono NLN);have q2:=II q p)
       |(go_at_call 95;refine (Gj x an nn l f d g _ (aa.below p NLN) J).mono ?_;rintro e af ⟨rfl,R⟩;rw[Aa P];have F:=p.trans (R.mono p.size);have q3:=II q F))
     go_wp2_with fail
     go_roundw
     case rel=>exact ⟨k+1,Aa X,by go_num,u.trans (F.mono u.size),Aa ag⟩
     case measure=>have:=Aa X;simp[intOf];omega
   ·have ae:((d:Int) != Dn x.op)=true:=zS.2 r;have O:=Ab (Aa t (by rw[Aa N,Aa Y,zR r];rfl));clear r t C;go_wp2_with fail
    have o:Below (wr.alloc (.cells #[.int .i64 x.op,.int .i64 x.num,.string x.text,.slice an nn l,.slice f d g] 68)).heap.size (wr.alloc (.cells #[.int .i64 x.op,.int .i64 x.num,.string x.text,.slice an nn l,.slice f d g] 68)) (wr.alloc (.cells #[.int .i64 x.op,.int .i64 x.num,.string x.text,.slice an nn l,.slice f d g] 68)).drew:=BRN.drew;have Q:=II q o;refine wp_region_held_drew (S:=(fun w'=>w'.cell? ⟨wr.heap.size,0,none⟩=some (.int .i64 x.op)∧w'.cell? ⟨wr.heap.size,1,none⟩=some (.int .i64 x.num)∧w'.cell? ⟨wr.heap.size,2,none⟩=some (.string x.text)∧w'.cell? ⟨wr.heap.size,3,none⟩=some (.slice an nn l)∧w'.cell? ⟨wr.heap.size,4,none⟩=some (.slice f d g))) rfl Q (fun ap=>?_);refine wpAnyH_take (i:=0) (v:= .pointer (some ⟨wr.heap.size,4,none⟩)) rfl (by kernel_rfl) (by kernel_rfl) (by kernel_rfl) (fun _ _ _ h=>h) (Or.inl ⟨rfl,fun w' m=>by (try dsimp only at m);go_simp⟩) (by assumption) ?_
    simp only[Act.put,z4,zw,z0];refine wpAnyH_take (i:=1) (v:= .slice f d g) rfl (by kernel_rfl) (by kernel_rfl) (by kernel_rfl) (fun _ _ _ h=>h) (Or.inl ⟨rfl,fun w' m=>by (try dsimp only at m);go_simp⟩) (by assumption) ?_
    simp only[Act.put,z4,zw,z0];refine wpAnyH_take (i:=2) (v:= .int .i64 d) rfl (by kernel_rfl) (by kernel_rfl) (by kernel_rfl) (fun _ _ _ h=>h) (Or.inl ⟨rfl,fun w' m=>by (try dsimp only at m);go_simp⟩) (by assumption) ?_
    simp only[Act.put,z4,zw,z0];refine wpAnyH_take (i:=3) (v:= .pointer (some ⟨wr.heap.size,0,none⟩)) rfl (by kernel_rfl) (by kernel_rfl) (by kernel_rfl) (fun _ _ _ h=>h) (Or.inl ⟨rfl,fun w' m=>by (try dsimp only at m);go_simp⟩) (by assumption) ?_
    simp only[Act.put,z4,zw,z0];refine wpAnyH_take (i:=4) (v:= .int .i64 x.op) rfl (by kernel_rfl) (by kernel_rfl) (by kernel_rfl) (fun _ _ _ h=>h) (Or.inl ⟨rfl,fun w' m=>by (try dsimp only at m);go_simp⟩) (by assumption) ?_
    simp only[Act.put,z4,zw,z0];refine wpAnyH_ready (rs:= [5]) (by kernel_rfl) (by simp) ?_;refine AllReadyH.cons rfl (fun K B=>?_) AllReadyH.nil;go_simp
    go_at_call 148
    refine (GZ _ _ (y.below o NLN).lt (y.below o NLN).cells).mono ?_;rintro e w2 ⟨rfl,E⟩;have p:=o.trans (E.mono NLN);have q2:=II q p;refine B.out _ _ q2 (fun aq=>?_);refine wpAnyH_take (i:=6) (v:= .bool true) rfl (by kernel_rfl) (by kernel_rfl) (by kernel_rfl) (fun _ _ _ h=>h) (Or.inl ⟨rfl,fun w' m=>by (try dsimp only at m);go_simp⟩) (by assumption) ?_
    simp only[Act.put,z4,zw,z0];refine wpAnyH_take (i:=7) (v:= .bool true) rfl (by kernel_rfl) (by kernel_rfl) (by kernel_rfl) (fun _ _ _ h=>h) (Or.inl ⟨rfl,fun w' m=>by (try dsimp only at m);go_simp⟩) (by assumption) ?_
    simp only[Act.put,z4,zw,z0];refine wpAnyH_take (i:=8) (v:=undef) rfl (by kernel_rfl) (by kernel_rfl) (by kernel_rfl) (fun _ _ _ h=>h) (Or.inr ⟨rfl,rfl⟩) (by assumption) ?_;simp only[Act.put,z4,zw,z0];refine wpAnyH_take (i:=9) (v:=undef) rfl (by kernel_rfl) (by kernel_rfl) (by kernel_rfl) (fun _ _ _ h=>h) (Or.inr ⟨rfl,rfl⟩) (by assumption) ?_;simp only[Act.put,z4,zw,z0];refine wpAnyH_take (i:=10) (v:=undef) rfl (by kernel_rfl) (by kernel_rfl) (by kernel_rfl) (fun _ _ _ h=>h) (Or.inr ⟨rfl,rfl⟩) (by assumption) ?_;simp only[Act.put,z4,zw,z0];refine wpAnyH_take (i:=11) (v:=undef) rfl (by kernel_rfl) (by kernel_rfl) (by kernel_rfl) (fun _ _ _ h=>h) (Or.inr ⟨rfl,rfl⟩) (by assumption) ?_;simp only[Act.put,z4,zw,z0];refine wpAnyH_take (i:=12) (v:= .bool true) rfl (by kernel_rfl) (by kernel_rfl) (by kernel_rfl) (fun _ _ _ h=>h) (Or.inl ⟨rfl,fun w' m=>by (try dsimp only at m);go_simp⟩) (by assumption) ?_
    simp only[Act.put,z4,zw,z0];refine wpAnyH_done (by kernel_rfl) ?_ _;go_wp2_with fail
    go_ret
    exact ⟨Ag (Aa O).symm,u.trans (p.mono u.size)⟩
  ·have e:k=n:=by omega
   subst e;have ah:=Ab (show L.all As=true from (G0 L).2 (fun j s=>Aa H j s (by have:=Aa T;omega)));go_wp2
   go_ret
   exact ⟨Ag (Aa ah).symm,A⟩
end Go.Proofs.YtchakjeegneeoaaGreatDoor
namespace Go.Proofs.YtchakjeegneeoaaGreatDoor
open Go.RowKit Go.Lib Go.Sort
theorem ZZ (d g n c:Nat)(a:List (List UInt8))(w:World)(h:w.ownsRow d 9 1 (.slice (some ⟨g,0,none⟩) n c) n (a.map encStr))(k:n≤1048576):
  Calls Tryz.prog 197 #[.slice (some ⟨g,0,none⟩) n c] w fun e w'=>e= .returned (.tuple #[])∧w'.ownsRow d 9 1 (.slice (some ⟨g,0,none⟩) n c) n ((a.mergeSort fun x y=>decide (x≤y)).map encStr)∧w.grownBy w' (some g):=by
 have i:a.length=n:=by have:=h.1;simpa using this
 subst i;rcases h.2 with ⟨h0,_⟩ | ⟨l,cap,m,f,j,b,h1,h2,h3,h4⟩
 ·cases h0
 ·simp only[Value.slice.injEq,Option.some.injEq,Addr.mk.injEq,and_true,true_and] at f;obtain ⟨rfl,rfl⟩:=f;refine (Tryz.slices_Sort_string g 0 c a w (holds_of_block b (by simpa using h4)) (yC.1 b).1 (by omega)).mono ?_;rintro e w' ⟨rfl,q,os,rfl⟩;exact ⟨rfl,ownsRow_sorted (by simp) j b h1 h2 h3,grownBy_sorted _⟩
theorem LB (a:Array Value)(ts rs:List (List UInt8))(h:(ts ++rs).length≤a.size):(putCells encStr 0 (ts ++rs).toArray a).toList.take ts.length=ts.map encStr:=by
 have e:=take_putCells a (ts ++rs) h;have:=congrArg (List.take ts.length) e;rw[List.take_take,Nat.min_eq_left (by simp)] at this;rw[this,zU,List.take_left' (by simp)]
theorem TV (a:List (List UInt8)):(Lib.compact a).length≤a.length:=by
 unfold Lib.compact compactUpTo;rw[zV];exact zD (List.length_filter_le _ _) (by simp)
theorem TA (b g n c:Nat)(a:List (List UInt8))(w:World)(h:w.ownsRow b 9 1 (.slice (some ⟨g,0,none⟩) n c) n (a.map encStr))(p:n≤1048576):
  Calls Tryz.prog 198 #[.slice (some ⟨g,0,none⟩) n c] w fun e w'=>e= .returned (.slice (some ⟨g,0,none⟩) (Lib.compact a).length c)∧w'.ownsRow b 9 1 (.slice (some ⟨g,0,none⟩) (Lib.compact a).length c) (Lib.compact a).length ((Lib.compact a).map encStr)∧w.grownBy w' (some g):=by
 have k:a.length=n:=by have:=h.1;simpa using this
 subst k;rcases h.2 with ⟨h0,_⟩ | ⟨r,cap,l,d,m,f,h1,h2,h3,h4⟩
 ·cases h0
 ·simp only[Value.slice.injEq,Option.some.injEq,Addr.mk.injEq,and_true,true_and] at d;obtain ⟨rfl,rfl⟩:=d;refine (Tryz.slices_Compact_string g 0 c a w (holds_of_block f (by simpa using h4)) (by omega) h1).mono ?_;rintro e w' ⟨rfl,q,rfl⟩;have o:=(grow_empty (putRow encStr (Sort.ahead w q) g 0 (Lib.compact a ++List.replicate (a.length - (Lib.compact a).length) []).toArray)).symm;have s:=TV a;have i:=heap_sorted (n:=q) (os:=#[]) (Lib.compact a ++List.replicate (a.length - (Lib.compact a).length) []).toArray f;have j:=grownBy_sorted (w:=w) (g:=g) (n:=q) (os:=#[]) (Lib.compact a ++List.replicate (a.length - (Lib.compact a).length) []).toArray;rw[← o] at i j;refine ⟨rfl,⟨by simp,.inr ⟨g,c,_,rfl,m,i,by omega,h2,by simp[putCells,h3], ?_⟩⟩,j⟩;rw[Nat.mul_one];exact LB l _ _ (by simp;omega)
end Go.Proofs.YtchakjeegneeoaaGreatDoor
