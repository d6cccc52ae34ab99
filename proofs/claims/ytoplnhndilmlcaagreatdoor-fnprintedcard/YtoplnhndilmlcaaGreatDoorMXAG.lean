/-
  VPC, VPE, VPF, VPG, ONA, VPH, ONB, QE0, JU. Own work.
-/
import Derived.Test.YtoplnhndilmlcaaGreatDoorMXAF
import Derived.Test.YtoplnhndilmlcaaGreatDoorMXAB
import Derived.Test.YtoplnhndilmlcaaGreatDoorMXAD
import Derived.Test.YtoplnhndilmlcaaGreatDoorMXAC
namespace Go.Proofs.YtoplnhndilmlcaaGreatDoor
set_option maxRecDepth 100000
set_option maxHeartbeats 3200000
open Go.RowKit
set_option linter.unusedVariables false
def wfB (x:Nd):Bool:=
 if x.op=1 then decide (0≤x.num) && decide (x.text.size=0) && decide (x.names.length=0)
 else if x.op=2 then BP x.text && decide (x.num=0) && decide (x.names.length=0)
 else if x.op=3 then decide (x.num=0∨x.num=1) && decide (x.text.size=0) && decide (x.names.length=0)
 else if x.op=4 then EN x.names && decide (x.num=0) && decide (x.text.size=0)
 else if x.op=5 then Bq x.text && decide (x.num=0) && decide (x.names.length=0)
 else if x.op=6∨x.op=7 then false
 else decide (x.num=0) && decide (x.text.size=0) && decide (x.names.length=0)
theorem MQ (x:Nd):Aq x=(decide ((x.kids.length:Int)=Fx x.op) && wfB x):=rfl
theorem Fp (x:Nd)(an:Option Addr)(nn l:Nat)(m:Option Addr)(n o:Nat)(w:World)(q:Bb w an nn l x.names)(hs:x.text.size≤1048576):
  Calls Tryz.prog 26 #[ndV x.op x.num x.text an nn l m n o] w fun e w'=>e= .returned (.bool (wfB x))∧Below w.heap.size w w':=by
 have s:=q.len;obtain ⟨op,num,text,names,kids⟩:=x;simp only at q hs s ⊢;have t:=Aj.new w #[.int .i64 op,.int .i64 num,.string text,.slice an nn l,.slice m n o] 80;have u:=(Below.refl w.heap.size w).alloc NLN (.cells #[.int .i64 op,.int .i64 num,.string text,.slice an nn l,.slice m n o] 80);have F:=q.below u NLN;have J:=Ab s;clear s;have a:=Ab (show wfB ⟨op,num,text,names,kids⟩=(if op=1 then decide (0≤num) && decide (text.size=0) && decide (names.length=0) else if op=2 then BP text && decide (num=0) && decide (names.length=0) else if op=3 then decide (num=0∨num=1) && decide (text.size=0) && decide (names.length=0) else if op=4 then EN names && decide (num=0) && decide (text.size=0) else if op=5 then Bq text && decide (num=0) && decide (names.length=0) else if op=6∨op=7 then false else decide (num=0) && decide (text.size=0) && decide (names.length=0)) from rfl);rw[← Aa J] at a;generalize wfB ⟨op,num,text,names,kids⟩=K at a ⊢;unfold ndV;have L:=Cu text;obtain ⟨f,c1,c2,c3,c4,g⟩:=PP t;go_enter Tryz.func26,Tryz.ntmps26
 go_wp2_with fail
 generalize w.alloc (.cells #[.int .i64 op,.int .i64 num,.string text,.slice an nn l,.slice m n o] 80)=r at *;go_region
 have h:Aj r.drew w.heap.size #[.int .i64 op,.int .i64 num,.string text,.slice an nn l,.slice m n o] 80:=⟨t.out⟩
 have b:Below w.heap.size w r.drew:=u.drew;have d:Bb r.drew an nn l names:=F.drew';clear t u F f c1 c2 c3 c4 g q;generalize r.drew=M at h b d ⊢;obtain ⟨f,c1,c2,c3,c4,g⟩:=PP h;by_cases v:op=1
 ·subst v;have a:=Ab ((Aa a).trans (by rw[if_pos rfl]));go_wp2
  all_goals
   go_ret
   refine ⟨Ag ?_,b⟩;rw[Aa a];have j:text.toList.isEmpty=decide (text.size=0):=by rw[Bool.eq_iff_iff,List.isEmpty_iff,decide_eq_true_iff];exact Cu text
   have k:((nn:Int)== 0)=decide (nn=0):=by rw[Bool.eq_iff_iff];simp
   clear a h b d f c1 c2 c3 c4 g
   simp_all
   try omega
 by_cases y:op=2
 ·subst y;have a:=Ab ((Aa a).trans (by rw[if_neg (by omega),if_pos rfl]));cases hq:BP text
  ·have c:=Ab hq;clear hq;go_wp2_with (go_at_call 57;refine (Fw _ _ (by unfold maxLen;omega)).mono ?_;rintro e p ⟨rfl,i⟩;rw[← Iw,Aa c,i];clear i)
   all_goals
    go_ret
    refine ⟨Ag ?_,b⟩;rw[Aa a];have hq:=Aa c;have j:text.toList.isEmpty=decide (text.size=0):=by rw[Bool.eq_iff_iff,List.isEmpty_iff,decide_eq_true_iff];exact Cu text
    have k:((nn:Int)== 0)=decide (nn=0):=by rw[Bool.eq_iff_iff];simp
    clear a h b d f c1 c2 c3 c4 g
    simp_all
    try omega
  ·have c:=Ab hq;clear hq;go_wp2_with (go_at_call 57;refine (Fw _ _ (by unfold maxLen;omega)).mono ?_;rintro e p ⟨rfl,i⟩;rw[← Iw,Aa c,i];clear i)
   all_goals
    go_ret
    refine ⟨Ag ?_,b⟩;rw[Aa a];have hq:=Aa c;have j:text.toList.isEmpty=decide (text.size=0):=by rw[Bool.eq_iff_iff,List.isEmpty_iff,decide_eq_true_iff];exact Cu text
    have k:((nn:Int)== 0)=decide (nn=0):=by rw[Bool.eq_iff_iff];simp
    clear a h b d f c1 c2 c3 c4 g
    simp_all
    try omega
 by_cases z:op=3
 ·subst z;have a:=Ab ((Aa a).trans (by rw[if_neg (by omega),if_neg (by omega),if_pos rfl]));go_wp2
  all_goals
   go_ret
   refine ⟨Ag ?_,b⟩;rw[Aa a];have j:text.toList.isEmpty=decide (text.size=0):=by rw[Bool.eq_iff_iff,List.isEmpty_iff,decide_eq_true_iff];exact Cu text
   have k:((nn:Int)== 0)=decide (nn=0):=by rw[Bool.eq_iff_iff];simp
   clear a h b d f c1 c2 c3 c4 g
   simp_all
   try omega
 by_cases A:op=4
 ·subst A;have a:=Ab ((Aa a).trans (by rw[if_neg (by omega),if_neg (by omega),if_neg (by omega),if_pos rfl]));cases hq:EN names
  ·have c:=Ab hq;clear hq;go_wp2_with (go_at_call 59;refine (MB _ _ _ _ _ d).mono ?_;rintro e p ⟨rfl,B⟩;rw[Aa c];have C:=b.trans (B.mono b.size))
   all_goals
    go_ret
    refine ⟨Ag ?_,C⟩;rw[Aa a];have hq:=Aa c;have j:text.toList.isEmpty=decide (text.size=0):=by rw[Bool.eq_iff_iff,List.isEmpty_iff,decide_eq_true_iff];exact Cu text
    have k:((nn:Int)== 0)=decide (nn=0):=by rw[Bool.eq_iff_iff];simp
    clear a h b d f c1 c2 c3 c4 g
    simp_all
    try omega
  ·have c:=Ab hq;clear hq;go_wp2_with (go_at_call 59;refine (MB _ _ _ _ _ d).mono ?_;rintro e p ⟨rfl,B⟩;rw[Aa c];have C:=b.trans (B.mono b.size))
   all_goals
    go_ret
    refine ⟨Ag ?_,C⟩;rw[Aa a];have hq:=Aa c;have j:text.toList.isEmpty=decide (text.size=0):=by rw[Bool.eq_iff_iff,List.isEmpty_iff,decide_eq_true_iff];exact Cu text
    have k:((nn:Int)== 0)=decide (nn=0):=by rw[Bool.eq_iff_iff];simp
    clear a h b d f c1 c2 c3 c4 g
    simp_all
    try omega
 by_cases E:op=5
 ·subst E;have a:=Ab ((Aa a).trans (by rw[if_neg (by omega),if_neg (by omega),if_neg (by omega),if_neg (by omega),if_pos rfl]));cases hq:Bq text
  ·have c:=Ab hq;clear hq;go_wp2_with (go_at_call 58;refine (CZ _ _ hs).mono ?_;rintro e p ⟨rfl,i⟩;rw[Aa c,i];clear i)
   all_goals
    go_ret
    refine ⟨Ag ?_,b⟩;rw[Aa a];have hq:=Aa c;have j:text.toList.isEmpty=decide (text.size=0):=by rw[Bool.eq_iff_iff,List.isEmpty_iff,decide_eq_true_iff];exact Cu text
    have k:((nn:Int)== 0)=decide (nn=0):=by rw[Bool.eq_iff_iff];simp
    clear a h b d f c1 c2 c3 c4 g
    simp_all
    try omega
  ·have c:=Ab hq;clear hq;go_wp2_with (go_at_call 58;refine (CZ _ _ hs).mono ?_;rintro e p ⟨rfl,i⟩;rw[Aa c,i];clear i)
   all_goals
    go_ret
    refine ⟨Ag ?_,b⟩;rw[Aa a];have hq:=Aa c;have j:text.toList.isEmpty=decide (text.size=0):=by rw[Bool.eq_iff_iff,List.isEmpty_iff,decide_eq_true_iff];exact Cu text
    have k:((nn:Int)== 0)=decide (nn=0):=by rw[Bool.eq_iff_iff];simp
    clear a h b d f c1 c2 c3 c4 g
    simp_all
    try omega
 by_cases H:op=6
 ·subst H;have a:=Ab ((Aa a).trans (by rw[if_neg (by omega),if_neg (by omega),if_neg (by omega),if_neg (by omega),if_neg (by omega),if_pos (by omega)]));go_wp2
  all_goals
   go_ret
   refine ⟨Ag ?_,b⟩;rw[Aa a];have j:text.toList.isEmpty=decide (text.size=0):=by rw[Bool.eq_iff_iff,List.isEmpty_iff,decide_eq_true_iff];exact Cu text
   have k:((nn:Int)== 0)=decide (nn=0):=by rw[Bool.eq_iff_iff];simp
   clear a h b d f c1 c2 c3 c4 g
   simp_all
   try omega
 by_cases I:op=7
 ·subst I;have a:=Ab ((Aa a).trans (by rw[if_neg (by omega),if_neg (by omega),if_neg (by omega),if_neg (by omega),if_neg (by omega),if_pos (by omega)]));go_wp2
  all_goals
   go_ret
   refine ⟨Ag ?_,b⟩;rw[Aa a];have j:text.toList.isEmpty=decide (text.size=0):=by rw[Bool.eq_iff_iff,List.isEmpty_iff,decide_eq_true_iff];exact Cu text
   have k:((nn:Int)== 0)=decide (nn=0):=by rw[Bool.eq_iff_iff];simp
   clear a h b d f c1 c2 c3 c4 g
   simp_all
   try omega
 have a:=Ab ((Aa a).trans (by rw[if_neg v,if_neg y,if_neg z,if_neg A,if_neg E,if_neg (by omega)]));have N:=beq_eq_false_iff_ne.2 v;have O:=beq_eq_false_iff_ne.2 y;have P:=beq_eq_false_iff_ne.2 z;have Q:=beq_eq_false_iff_ne.2 A;have R:=beq_eq_false_iff_ne.2 E;have S:=beq_eq_false_iff_ne.2 H;have T:=beq_eq_false_iff_ne.2 I;go_wp2
 all_goals
  go_ret
  refine ⟨Ag ?_,b⟩;rw[Aa a];have j:text.toList.isEmpty=decide (text.size=0):=by rw[Bool.eq_iff_iff,List.isEmpty_iff,decide_eq_true_iff];exact Cu text
  have k:((nn:Int)== 0)=decide (nn=0):=by rw[Bool.eq_iff_iff];simp
  clear a h b d f c1 c2 c3 c4 g
  simp_all
  try omega
theorem Dm {w:World}{b:Nat}{v0 v1 a c:Value}{t:TypeId}(R:Aj w b #[v0,v1,a,c] t):w.cell? ⟨b,0,none⟩=some v0∧w.cell? ⟨b,1,none⟩=some v1∧w.cell? ⟨b,2,none⟩=some a∧w.cell? ⟨b,3,none⟩=some c∧∀ j,w.frozen? ⟨b,j,none⟩=false:=
 ⟨by simpa using R.cell 0,by simpa using R.cell 1,by simpa using R.cell 2,by simpa using R.cell 3,fun j=>R.frozen j⟩
def stV (s:St):Value:= .agg #[.int .i64 s.kind,.string s.name,.int .i64 s.cond,.int .i64 s.grant]
theorem Nu (s:St)(w:World)(hs:s.name.size≤1048576):
  Calls Tryz.prog 90 #[stV s] w fun e w'=>e= .returned (.bool (DB s))∧Below w.heap.size w w':=by
 obtain ⟨kind,name,cond,grant⟩:=s;simp only at hs;have d:=(Below.refl w.heap.size w).alloc NLN (.cells #[.int .i64 kind,.string name,.int .i64 cond,.int .i64 grant] 51);have a:=Ab (show DB ⟨kind,name,cond,grant⟩=(if kind=1 then Bq name && decide (grant= -1) else if kind=2 then decide (name.size=0) else if kind=3 then decide (name.size=0) && decide (cond= -1) else false) from rfl);generalize DB ⟨kind,name,cond,grant⟩=k at a ⊢;unfold stV;have l:=Cu name;by_cases f:kind=1
 ·subst f;cases hq:Bq name
  ·have b:=Ab hq;clear hq;go_enter Tryz.func90,Tryz.ntmps90
   go_wp2_with (go_at_call 58;refine (CZ _ _ hs).mono ?_;rintro e i ⟨rfl,c⟩;rw[Aa b,c];clear c)
   all_goals
    go_ret
    refine ⟨Ag ?_,(Below.refl w.heap.size w).alloc NLN _⟩;rw[Aa a,Aa b];simp
  ·have b:=Ab hq;clear hq;go_enter Tryz.func90,Tryz.ntmps90
   go_wp2_with (go_at_call 58;refine (CZ _ _ hs).mono ?_;rintro e i ⟨rfl,c⟩;rw[Aa b,c];clear c)
   all_goals
    go_ret
    refine ⟨Ag ?_,(Below.refl w.heap.size w).alloc NLN _⟩;rw[Aa a,Aa b];simp
    try rfl
 by_cases g:kind=2
 ·subst g;go_enter Tryz.func90,Tryz.ntmps90
  go_wp2
  all_goals
   go_ret
   refine ⟨Ag ?_,(Below.refl w.heap.size w).alloc NLN _⟩;rw[Aa a];have j:name.toList.isEmpty=decide (name.size=0):=by rw[Bool.eq_iff_iff,List.isEmpty_iff,decide_eq_true_iff];exact Cu name
   clear a d
   simp_all
 by_cases h:kind=3
 ·subst h;go_enter Tryz.func90,Tryz.ntmps90
  go_wp2
  all_goals
   go_ret
   refine ⟨Ag ?_,(Below.refl w.heap.size w).alloc NLN _⟩;rw[Aa a];have j:name.toList.isEmpty=decide (name.size=0):=by rw[Bool.eq_iff_iff,List.isEmpty_iff,decide_eq_true_iff];exact Cu name
   have m:(cond== -1)=decide (cond= -1):=rfl;clear a d
   simp_all
 have e1:=beq_eq_false_iff_ne.2 f;have e2:=beq_eq_false_iff_ne.2 g;have e3:=beq_eq_false_iff_ne.2 h;go_enter Tryz.func90,Tryz.ntmps90
 go_wp2
 go_ret
 exact ⟨Ag (by rw[Aa a,if_neg f,if_neg g,if_neg h]),d⟩
structure KU (w:World) (a:Option Addr) (n c:Nat) (L:List St):Prop where
 len:L.length=n
 small:n≤1048576
 sizes:∀ s∈L,s.name.size≤1048576
 cells:∀ j,(h:j < L.length)→∃ b off,a=some ⟨b,off,none⟩∧b < w.heap.size∧w.cell? ⟨b,off+j * 4,none⟩=some (.int .i64 L[j].kind)∧w.cell? ⟨b,off+j * 4+1,none⟩=some (.string L[j].name)∧w.cell? ⟨b,off+j * 4+2,none⟩=some (.int .i64 L[j].cond)∧w.cell? ⟨b,off+j * 4+3,none⟩=some (.int .i64 L[j].grant)
theorem KU.below {w w':World}{B:Nat}{a:Option Addr}{n c:Nat}{L:List St}(h:KU w a n c L)(d:Below B w w')(o:w.heap.size≤B):KU w' a n c L:=
 ⟨h.len,h.small,h.sizes,fun j i=>by
  obtain ⟨b,f,k,l,m,c1,c2,c3⟩:=h.cells j i;have g:b < B:=by omega
  exact ⟨b,f,k,Nat.lt_of_lt_of_le l d.size,(d.cell (p:=⟨b,f+j * 4,none⟩) g).trans m,(d.cell (p:=⟨b,f+j * 4+1,none⟩) g).trans c1,(d.cell (p:=⟨b,f+j * 4+2,none⟩) g).trans c2,(d.cell (p:=⟨b,f+j * 4+3,none⟩) g).trans c3⟩⟩
def PQ (L:List St) (j:Nat) (h:j < L.length):Bool:=DB L[j] && (decide (L[j].kind=3)== decide (j+1=L.length))
theorem Ix:∀ (L:List St),BK L=true↔∀ j,(h:j < L.length)→PQ L j h=true
 | []=>by simp[BK]
 | s ::r=>by
  rw[BK,Bool.and_eq_true,Ix r];have e:r.isEmpty=decide (0+1=(s ::r).length):=by cases r <;> simp
  constructor
  ·rintro ⟨h1,h2⟩ j a;cases j with
   | zero=>rw[e] at h1;exact h1
   | succ j=>
    have:=h2 j (by simpa using a);rw[PQ] at this ⊢;simp only[List.getElem_cons_succ,List.length_cons] at this ⊢;rw[show decide (j+1+1=r.length+1)=decide (j+1=r.length) by rw[decide_eq_decide];omega];exact this
  ·intro h;refine ⟨by rw[e];exact h 0 (by simp),fun j a=>?_⟩;have:=h (j+1) (by simpa using a);rw[PQ] at this ⊢;simp only[List.getElem_cons_succ,List.length_cons] at this;rw[show decide (j+1+1=r.length+1)=decide (j+1=r.length) by rw[decide_eq_decide];omega] at this;exact this
theorem Bw (s:St)(w:World)(hs:s.name.size≤1048576):
  Calls Tryz.prog 90 #[.agg #[.int .i64 s.kind,.string s.name,.int .i64 s.cond,.int .i64 s.grant]] w fun e w'=>e= .returned (.bool (DB s))∧Below w.heap.size w w':=Nu s w hs
theorem Dx (a:Option Addr)(n c:Nat)(L:List St)(w:World)(h:KU w a n c L):
  Calls Tryz.prog 52 #[.slice a n c] w fun e w'=>e= .returned (.bool (decide (1≤n∧n≤600) && BK L))∧Below w.heap.size w w':=by
 have aa:=h.small;by_cases h1:n < 1
 ·have T:(n:Int) < 1:=by omega
  go_enter Tryz.func52,Tryz.ntmps52
  go_wp2
  go_ret
  exact ⟨Ag (by simp;omega),BRN⟩
 have T: ¬ ((n:Int) < 1):=by omega
 by_cases h6: 600 < n
 ·have U:(600 :Int) < (n:Int):=by omega
  go_enter Tryz.func52,Tryz.ntmps52
  go_wp2
  go_ret
  exact ⟨Ag (by simp;omega),BRN⟩
 have U: ¬ ((600 :Int) < (n:Int)):=by omega
 have v:=Ab (show decide (1≤n∧n≤600)=true from decide_eq_true ⟨by omega,by omega⟩);have P:=h.len;have M:=Ab P;clear P;go_enter Tryz.func52,Tryz.ntmps52
 go_wp2_with fail
 go_loopw [16] (fun i wr=>∃ (k:Nat),k≤n∧i= .int .i64 k∧Below w.heap.size w wr∧∀ j,(t:j < L.length)→j < k→PQ L j t=true) (fun i _=>n - (intOf i).toNat)
 case atStart=>exact ⟨0,Nat.zero_le _,rfl,BRN,fun j t hk=>by omega⟩
 case round=>
  obtain ⟨k,hk,rfl,I,Q⟩:=hrel;have N:=Ab Q;clear Q;by_cases R:k < n
  ·have ab:(k:Int) < (n:Int):=by omega
   have C:k < L.length:=by rw[Aa M];exact R
   obtain ⟨b,ac,rfl,ad,V,c1,c2,c3⟩:=(h.below I NLN).cells k C;have q:=h.sizes L[k] (List.getElem_mem C);have r:=Ab (show PQ L k C=(DB L[k] && (decide (L[k].kind=3)== decide (k+1=n))) by rw[PQ,Aa M]);generalize L[k]=s at V c1 c2 c3 q r;have u:=Aj.new wr #[.int .i64 s.kind,.string s.name,.int .i64 s.cond,.int .i64 s.grant] 51;have g:=I.alloc I.size (.cells #[.int .i64 s.kind,.string s.name,.int .i64 s.cond,.int .i64 s.grant] 51);have E:=Ab (show PQ L k C=false→BK L=false from fun e=>by
    rw[← Bool.not_eq_true,Ix];intro W;rw[W k C] at e;cases e)
   have S:=Ab (show PQ L k C=true→∀ j,(t:j < L.length)→j < k+1→PQ L j t=true from fun e j t ae=>by
    by_cases X:j=k
    ·subst X;exact e
    ·exact Aa N j t (by omega))
   clear N;have J:=Ab R;by_cases K:k+1=n
   ·have Y:((k:Int)==(n:Int) - 1)=true:=beq_iff_eq.2 (by omega);have F:=decide_eq_true K;have H:=Ab F;clear K F;by_cases o:s.kind=3
    ·have e3:(s.kind== 3)=true:=beq_iff_eq.2 o;have d3:=decide_eq_true o;have x:=Ab d3;clear o d3;cases d:DB s
     ·have p:=Ab (Aa E (by rw[Aa r,d];rfl));have l:=Ab d;clear d;go_wp2_with (go_at_call 90;refine (Bw s _ q).mono ?_;rintro e y ⟨rfl,f⟩;rw[Aa l];have m:=u.after f NLN;obtain ⟨z,A,q2,q3,B⟩:=Dm m)
      go_ret
      exact ⟨Ag (by rw[Aa v,Aa p];rfl),g.trans (f.mono g.size)⟩
     ·have O:=Ab (Aa S (by rw[Aa r,d,Aa x,Aa H];rfl));have l:=Ab d;clear d;go_wp2_with (go_at_call 90;refine (Bw s _ q).mono ?_;rintro e y ⟨rfl,f⟩;rw[Aa l];have m:=u.after f NLN;obtain ⟨z,A,q2,q3,B⟩:=Dm m)
      go_roundw
      case rel=>exact ⟨k+1,Aa J,by go_num,g.trans (f.mono g.size),Aa O⟩
      case measure=>have:=Aa J;simp[intOf];omega
    ·have e3:(s.kind== 3)=false:=beq_eq_false_iff_ne.2 o;have d3:=decide_eq_false o;have x:=Ab d3;clear o d3;cases d:DB s
     ·have p:=Ab (Aa E (by rw[Aa r,d];rfl));have l:=Ab d;clear d;go_wp2_with (go_at_call 90;refine (Bw s _ q).mono ?_;rintro e y ⟨rfl,f⟩;rw[Aa l];have m:=u.after f NLN;obtain ⟨z,A,q2,q3,B⟩:=Dm m)
      go_ret
      exact ⟨Ag (by rw[Aa v,Aa p];rfl),g.trans (f.mono g.size)⟩
     ·have p:=Ab (Aa E (by rw[Aa r,d,Aa x,Aa H];rfl));have l:=Ab d;clear d;go_wp2_with (go_at_call 90;refine (Bw s _ q).mono ?_;rintro e y ⟨rfl,f⟩;rw[Aa l];have m:=u.after f NLN;obtain ⟨z,A,q2,q3,B⟩:=Dm m)
      go_ret
      exact ⟨Ag (by rw[Aa v,Aa p];rfl),g.trans (f.mono g.size)⟩
   ·have Y:((k:Int)==(n:Int) - 1)=false:=beq_eq_false_iff_ne.2 (by omega);have F:=decide_eq_false K;have H:=Ab F;clear K F;by_cases o:s.kind=3
    ·have e3:(s.kind== 3)=true:=beq_iff_eq.2 o;have d3:=decide_eq_true o;have x:=Ab d3;clear o d3;cases d:DB s
     ·have p:=Ab (Aa E (by rw[Aa r,d];rfl));have l:=Ab d;clear d;go_wp2_with (go_at_call 90;refine (Bw s _ q).mono ?_;rintro e y ⟨rfl,f⟩;rw[Aa l];have m:=u.after f NLN;obtain ⟨z,A,q2,q3,B⟩:=Dm m)
      go_ret
      exact ⟨Ag (by rw[Aa v,Aa p];rfl),g.trans (f.mono g.size)⟩
     ·have p:=Ab (Aa E (by rw[Aa r,d,Aa x,Aa H];rfl));have l:=Ab d;clear d;go_wp2_with (go_at_call 90;refine (Bw s _ q).mono ?_;rintro e y ⟨rfl,f⟩;rw[Aa l];have m:=u.after f NLN;obtain ⟨z,A,q2,q3,B⟩:=Dm m)
      go_ret
      exact ⟨Ag (by rw[Aa v,Aa p];rfl),g.trans (f.mono g.size)⟩
    ·have e3:(s.kind== 3)=false:=beq_eq_false_iff_ne.2 o;have d3:=decide_eq_false o;have x:=Ab d3;clear o d3;cases d:DB s
     ·have p:=Ab (Aa E (by rw[Aa r,d];rfl));have l:=Ab d;clear d;go_wp2_with (go_at_call 90;refine (Bw s _ q).mono ?_;rintro e y ⟨rfl,f⟩;rw[Aa l];have m:=u.after f NLN;obtain ⟨z,A,q2,q3,B⟩:=Dm m)
      go_ret
      exact ⟨Ag (by rw[Aa v,Aa p];rfl),g.trans (f.mono g.size)⟩
     ·have O:=Ab (Aa S (by rw[Aa r,d,Aa x,Aa H];rfl));have l:=Ab d;clear d;go_wp2_with (go_at_call 90;refine (Bw s _ q).mono ?_;rintro e y ⟨rfl,f⟩;rw[Aa l];have m:=u.after f NLN;obtain ⟨z,A,q2,q3,B⟩:=Dm m)
      go_roundw
      case rel=>exact ⟨k+1,Aa J,by go_num,g.trans (f.mono g.size),Aa O⟩
      case measure=>have:=Aa J;simp[intOf];omega
  ·have e:k=n:=by omega
   subst e;have Z:=Ab (show BK L=true from (Ix L).2 (fun j t=>Aa N j t (by have:=Aa M;omega)));go_wp2
   go_ret
   exact ⟨Ag (by rw[Aa v,Aa Z];rfl),I⟩
theorem Qc:(Tryz.prog.info? 3).map (fun i=>(i.zero,i.size,i.bytes))=some (some (.int .i64 0),1,8):=by kernel_rfl
def At (L:List Int):List Value:=L.map (Value.int .i64)
theorem Bn (w:World)(v:Value)(t:TypeId)(b:Nat)(a:b=w.heap.size):∀ j u,([v]:List Value)[j]? =some u→(w.alloc (.cells #[v] t)).cell? ((⟨b,0,none⟩:Addr).add j)=some u:=fun j u h=>by
 subst a;have c:j=0:=by
  have:=(List.getElem?_eq_some_iff.1 h).1;simp at this;exact this
 subst c;rw[← h];simp[Addr.add]
theorem TM (L:List St)(k:Nat)(h:k < L.length):(L.take (k+1)).flatMap An=(L.take k).flatMap An ++An L[k]:=by
 rw[List.take_succ_eq_append_getElem h,List.flatMap_append];simp
theorem JU:∀ (L:List St),(L.flatMap An).length≤2 * L.length
 | []=>by simp
 | s ::r=>by
  have:=JU r;have h1:(An s).length≤2:=by unfold An;split <;> split <;> simp
  rw[List.flatMap_cons,List.length_append,List.length_cons];omega
theorem Aj.grown {w w':World}{b:Nat}{cs:Array Value}{t:TypeId}{row:Option Nat}(h:Aj w b cs t)(a:w.grownBy w' row)(c:some b=row→False):Aj w' b cs t:=⟨(a.block b h.lt c).trans h.out⟩
theorem Nv (a:Option Addr)(n c:Nat)(L:List St)(w:World)(h:KU w a n c L):
  Calls Tryz.prog 56 #[.slice a n c] w fun e w'=>∃ v,e= .returned v∧w'.ownsRow w.heap.size 3 1 v (L.flatMap An).length (At (L.flatMap An))∧Below w.heap.size w w':=by
 have aa:=h.small;have J:=h.len;have K:=Ab J;clear J;obtain ⟨i,hi,z,A,B⟩:=info_parts Qc;go_enter Tryz.func56,Tryz.ntmps56
 go_wp2_with fail
 go_loopw [3,8] (fun v i wr=>∃ k:Nat,k≤n∧i= .int .i64 k∧wr.ownsRow w.heap.size 3 1 v ((L.take k).flatMap An).length (At ((L.take k).flatMap An))∧Below w.heap.size w wr) (fun _ i _=>n - (intOf i).toNat)
 case atStart=>exact ⟨0,Nat.zero_le _,rfl,World.ownsRow_nil _ _ _ _,BRN⟩
 case round=>
  obtain ⟨k,hk,rfl,l,y⟩:=hrel;by_cases M:k < n
  ·have ab:(k:Int) < (n:Int):=by omega
   have N:k < L.length:=by rw[Aa K];exact M
   obtain ⟨b,ac,rfl,ad,Q,c1,c2,c3⟩:=(h.below y NLN).cells k N;have t:=Ab (TM L k N);have E:=JU (L.take k);rw[List.length_take] at E;have g:=Ab M;generalize L[k]=s at Q c1 c2 c3 t;generalize (L.take k).flatMap An=R at l E t;have ae:R.length≤2 * 1048576:=by omega
   have O:=Aj.new wr #[.int .i64 s.kind,.string s.name,.int .i64 s.cond,.int .i64 s.grant] 51;have C:=y.alloc y.size (.cells #[.int .i64 s.kind,.string s.name,.int .i64 s.cond,.int .i64 s.grant] 51);have m:=l.alloc (.cells #[.int .i64 s.kind,.string s.name,.int .i64 s.cond,.int .i64 s.grant] 51);have af:(wr.alloc (.cells #[.int .i64 s.kind,.string s.name,.int .i64 s.cond,.int .i64 s.grant] 51)).heap.size=wr.heap.size+1:=by simp
   have ag:=y.size;clear E;by_cases j:s.kind=3
   ·have e3:(s.kind != 3)=false:=by rw[j];rfl
    by_cases f:s.grant= -1
    ·have F:(s.grant != -1)=false:=by rw[f];rfl
     have o:=Ab (show An s= [] by rw[An,if_neg (by omega),if_neg (by omega)];rfl);clear j f;go_wp2_with fail
     go_roundw
     case rel=>exact ⟨k+1,Aa g,by go_num,by rw[Aa t,Aa o,List.append_nil];exact m,C⟩
     case measure=>have:=Aa g;simp[intOf];omega
    ·have F:(s.grant != -1)=true:=bne_iff_ne.2 f;have o:=Ab (show An s= [s.grant] by rw[An,if_neg (by omega),if_pos f];rfl);clear j f;go_wp2_with (at_builtin;refine wpList_append_own _ rfl _ _ 30 rfl w.heap.size 3 i (.int .i64 0) 1 8 Tryz.underlying30 hi z A B rfl (by decide) _ _ _ rfl (World.ownsRow.alloc m _) ⟨wr.heap.size+1,0,none⟩ 1 1 [.int .i64 s.grant] rfl rfl ?c1 ?c2 ?c3 ?c4 ?c5 ?_)
     case c1=>exact Bn _ _ _ _ (by simp)
     case c2=>intro u hu;simp at hu;subst hu;rfl
     case c3=>skip;unfold maxLen;omega
     case c4=>skip;omega
     case c5=>simp;omega
     intro P H p d _;have r:=(C.alloc (by omega) (.cells #[.int .i64 s.grant] 3)).grown d (by simp;omega) (fun q hq=>(m.lt q hq).1);skip;clear d;go_wp2_with fail
     go_roundw
     case rel=>exact ⟨k+1,Aa g,by go_num,by rw[Aa t,Aa o,At,List.map_append,List.length_append];exact p,r⟩
     case measure=>have:=Aa g;simp[intOf];omega
   ·have e3:(s.kind != 3)=true:=bne_iff_ne.2 j;by_cases f:s.grant= -1
    ·have F:(s.grant != -1)=false:=by rw[f];rfl
     have o:=Ab (show An s= [s.cond] by rw[An,if_pos j,if_neg (by omega)];rfl);clear j f;go_wp2_with (at_builtin;refine wpList_append_own _ rfl _ _ 30 rfl w.heap.size 3 i (.int .i64 0) 1 8 Tryz.underlying30 hi z A B rfl (by decide) _ _ _ rfl (World.ownsRow.alloc m _) ⟨wr.heap.size+1,0,none⟩ 1 1 [.int .i64 s.cond] rfl rfl ?c1 ?c2 ?c3 ?c4 ?c5 ?_)
     case c1=>exact Bn _ _ _ _ (by simp)
     case c2=>intro u hu;simp at hu;subst hu;rfl
     case c3=>skip;unfold maxLen;omega
     case c4=>skip;omega
     case c5=>simp;omega
     intro P H p d _;have r:=(C.alloc (by omega) (.cells #[.int .i64 s.cond] 3)).grown d (by simp;omega) (fun q hq=>(m.lt q hq).1);have I:=(O.alloc (.cells #[.int .i64 s.cond] 3)).grown d (fun e=>by have:=(l.lt _ e.symm).2;omega);have S:=r.size;obtain ⟨T,U,q2,q3,V⟩:=Dm I;clear d;go_wp2_with fail
     go_roundw
     case rel=>exact ⟨k+1,Aa g,by go_num,by rw[Aa t,Aa o,At,List.map_append,List.length_append];exact p,r⟩
     case measure=>have:=Aa g;simp[intOf];omega
    ·have F:(s.grant != -1)=true:=bne_iff_ne.2 f;have o:=Ab (show An s= [s.cond,s.grant] by rw[An,if_pos j,if_pos f];rfl);clear j f;go_wp2_with (at_builtin;refine wpList_append_own _ rfl _ _ 30 rfl w.heap.size 3 i (.int .i64 0) 1 8 Tryz.underlying30 hi z A B rfl (by decide) _ _ _ rfl (World.ownsRow.alloc m _) ⟨wr.heap.size+1,0,none⟩ 1 1 [.int .i64 s.cond] rfl rfl ?c1 ?c2 ?c3 ?c4 ?c5 ?_)
     case c1=>exact Bn _ _ _ _ (by simp)
     case c2=>intro u hu;simp at hu;subst hu;rfl
     case c3=>skip;unfold maxLen;omega
     case c4=>skip;omega
     case c5=>simp;omega
     intro P H p d _;have r:=(C.alloc (by omega) (.cells #[.int .i64 s.cond] 3)).grown d (by simp;omega) (fun q hq=>(m.lt q hq).1);have I:=(O.alloc (.cells #[.int .i64 s.cond] 3)).grown d (fun e=>by have:=(l.lt _ e.symm).2;omega);have S:=r.size;obtain ⟨T,U,q2,q3,V⟩:=Dm I;obtain ⟨ah,ai,W⟩:=AK p;subst W;clear d;go_wp2_with (at_builtin;refine wpList_append_own _ rfl _ _ 30 rfl w.heap.size 3 i (.int .i64 0) 1 8 Tryz.underlying30 hi z A B rfl (by decide) _ _ _ rfl (World.ownsRow.alloc p _) ⟨H.heap.size,0,none⟩ 1 1 [.int .i64 s.grant] rfl rfl ?c1 ?c2 ?c3 ?c4 ?c5 ?_)
     case c1=>exact Bn _ _ _ _ (by simp)
     case c2=>intro u hu;simp at hu;subst hu;rfl
     case c3=>skip;unfold maxLen;omega
     case c4=>skip;omega
     case c5=>simp;omega
     intro aj ak X d _;have Y:=(r.alloc (by omega) (.cells #[.int .i64 s.grant] 3)).grown d (by simp;omega) (fun q hq=>(p.lt q hq).1);skip;clear d;go_wp2_with fail
     go_roundw
     case rel=>exact ⟨k+1,Aa g,by go_num,by rw[Aa t,Aa o,At,List.map_append,List.length_append];simpa[At] using X,Y⟩
     case measure=>have:=Aa g;simp[intOf];omega
  ·have e:k=n:=by omega
   subst e;have e2:L.take k=L:=List.take_of_length_le (by rw[Aa K];exact NLN);rw[e2] at l;obtain ⟨x,al,Z⟩:=AK l;subst Z;go_wp2
   go_ret
   exact ⟨_,rfl,l,y⟩
def YM (w:World) (b o:Nat) (x:Nd):Prop:=∃ an nn cn ak nk ck,w.cell? ⟨b,o,none⟩=some (.int .i64 x.op)∧w.cell? ⟨b,o+1,none⟩=some (.int .i64 x.num)∧w.cell? ⟨b,o+2,none⟩=some (.string x.text)∧w.cell? ⟨b,o+3,none⟩=some (.slice an nn cn)∧w.cell? ⟨b,o+4,none⟩=some (.slice ak nk ck)∧Bb w an nn cn x.names∧Do w ak nk ck x.kids
structure Fe (w:World) (a:Option Addr) (n c:Nat) (L:List Nd):Prop where
 len:L.length=n
 small:n≤1048576
 sizes:∀ x∈L,x.text.size≤1048576
 cells:∀ j,(h:j < L.length)→∃ b off,a=some ⟨b,off,none⟩∧b < w.heap.size∧YM w b (off+j * 5) L[j]
theorem YM.below {w w':World}{B b a:Nat}{x:Nd}(h:YM w b a x)(o:b < w.heap.size)(c:Below B w w')(f:w.heap.size≤B):YM w' b a x:=by
 obtain ⟨an,nn,g,i,j,k,l,c1,c2,c3,c4,m,n⟩:=h;have d:b < B:=by omega
 exact ⟨an,nn,g,i,j,k,(c.cell (p:=⟨b,a,none⟩) d).trans l,(c.cell (p:=⟨b,a+1,none⟩) d).trans c1,(c.cell (p:=⟨b,a+2,none⟩) d).trans c2,(c.cell (p:=⟨b,a+3,none⟩) d).trans c3,(c.cell (p:=⟨b,a+4,none⟩) d).trans c4,m.below c f,n.below c f⟩
theorem Fe.below {w w':World}{B:Nat}{a:Option Addr}{n c:Nat}{L:List Nd}(h:Fe w a n c L)(d:Below B w w')(g:w.heap.size≤B):Fe w' a n c L:=
 ⟨h.len,h.small,h.sizes,fun j i=>by
  obtain ⟨b,k,l,f,hc⟩:=h.cells j i;exact ⟨b,k,l,Nat.lt_of_lt_of_le f d.size,hc.below f d g⟩⟩
structure Cw (w:World):Prop where
 lt: 10 < w.heap.size
 cells:∀ k,w.cell? ⟨10,k,none⟩=Eh[k]?
theorem Cw.below {w w':World}{B:Nat}(h:Cw w)(a:Below B w w')(b:w.heap.size≤B):Cw w':=
 ⟨Nat.lt_of_lt_of_le h.lt a.size,fun k=>(a.cell (p:=⟨10,k,none⟩) (Nat.lt_of_lt_of_le h.lt b)).trans (h.cells k)⟩
theorem GN {a w':World}{b:Nat}{op num:Int}{text:ByteArray}{an c:Option Addr}{nn d f g:Nat}{t:TypeId}(R:Aj a b #[.int .i64 op,.int .i64 num,.string text,.slice an nn d,.slice c f g] t)(h:Below a.heap.size a w'):
  w'.cell? ⟨b,0,none⟩=some (.int .i64 op)∧w'.cell? ⟨b,1,none⟩=some (.int .i64 num)∧w'.cell? ⟨b,2,none⟩=some (.string text)∧w'.cell? ⟨b,3,none⟩=some (.slice an nn d)∧w'.cell? ⟨b,4,none⟩=some (.slice c f g):=by
 obtain ⟨i,c1,c2,c3,c4,_⟩:=PP (R.after h NLN);exact ⟨i,c1,c2,c3,c4⟩
theorem Ge (L:List Nd):L.all Aq=true↔∀ j,(h:j < L.length)→Aq L[j]=true:=by
 rw[List.all_eq_true];constructor
 ·intro h j a;exact h _ (List.getElem_mem a)
 ·intro h x hx;obtain ⟨j,a,rfl⟩:=List.getElem_of_mem hx;exact h j a
def Gi (x:Nd) (u k:Value):List Value:= [.int .i64 x.op,.int .i64 x.num,.string x.text,u,k]
def DA:List Nd→List Value→List Value→List Value
 | x ::N,u ::nv,k ::kv=>Gi x u k ++DA N nv kv
 | _,_,_=> []
theorem Pm:∀ (N:List Nd) (a b:List Value),a.length=N.length→b.length=N.length→(DA N a b).length=N.length * 5
 | [],_,_,_,_=>by simp[DA]
 | x ::N, [],_,h,_=>by simp at h
 | x ::N,_ ::_, [],_,h=>by simp at h
 | x ::N,u ::a,k ::b,h,h'=>by
  have:=Pm N a b (by simpa using h) (by simpa using h');simp only[DA,Gi,List.length_append,List.length_cons,List.length_nil,this];omega
theorem Jb:∀ (N:List Nd) (a b:List Value) (x:Nd) (u k:Value),a.length=N.length→b.length=N.length→DA (N ++ [x]) (a ++ [u]) (b ++ [k])=DA N a b ++Gi x u k
 | [], [], [],x,u,k,_,_=>by simp[DA]
 | [],_ ::_,_,x,u,k,h,_=>by simp at h
 | [], [],_ ::_,x,u,k,_,h=>by simp at h
 | y ::N, [],_,x,u,k,h,_=>by simp at h
 | y ::N,_ ::_, [],x,u,k,_,h=>by simp at h
 | y ::N,z ::a,t ::b,x,u,k,h,h'=>by
  have:=Jb N a b x u k (by simpa using h) (by simpa using h');simp only[List.cons_append,DA,this,List.append_assoc]
theorem Ii:∀ (N:List Nd) (a b:List Value) (j:Nat) (h:j < N.length) (c:j < a.length) (h2:j < b.length),∀ r,r < 5→(DA N a b)[j * 5+r]? =(Gi N[j] a[j] b[j])[r]?
 | x ::N,u ::a,k ::b,0,_,_,_,r,hr=>by
  rw[DA,Nat.zero_mul,Nat.zero_add,List.getElem?_append_left (by simp[Gi];omega)];rfl
 | x ::N,u ::a,k ::b,j+1,h,c,h2,r,hr=>by
  have d:=Ii N a b j (by simpa using h) (by simpa using c) (by simpa using h2) r hr;rw[DA,List.getElem?_append_right (by simp[Gi];omega)];have e:(j+1) * 5+r - (Gi x u k).length=j * 5+r:=by simp[Gi];omega
  rw[e,d];rfl
 | [],_,_,_,h,_,_,_,_=>absurd h (by simp)
 | _ ::_, [],_,_,_,h,_,_,_=>absurd h (by simp)
 | _ ::_,_ ::_, [],_,_,_,h,_,_=>absurd h (by simp)
structure A6 (w:World) (lo:Nat) (v:Value) (N:List Nd) (nv kv:List Value):Prop where
 len:nv.length=N.length
 lenk:kv.length=N.length
 own:w.ownsRow lo 80 5 v N.length (DA N nv kv)
 names:∀ j,(h:j < N.length)→(h':j < nv.length)→w.ownsRow lo 9 1 nv[j] N[j].names.length (N[j].names.map Value.string)
 kids:∀ j,(h:j < N.length)→(h':j < kv.length)→w.ownsRow lo 3 1 kv[j] N[j].kids.length (At N[j].kids)
 apart:∀ i j,(hij:i < j)→(h:j < nv.length)→∀ q,(nv[i]'(by omega)).ownBlock=some q→nv[j].ownBlock≠some q
 apartk:∀ i j,(hij:i < j)→(h:j < kv.length)→∀ q,(kv[i]'(by omega)).ownBlock=some q→kv[j].ownBlock≠some q
theorem A6.nil (w:World)(lo:Nat):A6 w lo (.slice none 0 0) [] [] []:=
 ⟨rfl,rfl,World.ownsRow_nil _ _ _ _,fun j h=>absurd h (by simp),fun j h=>absurd h (by simp),fun i j _ h=>absurd h (by simp),fun i j _ h=>absurd h (by simp)⟩
theorem Ac {w w':World}{a:Nat}{e:TypeId}{size n:Nat}{v:Value}{b:List Value}(h:w.ownsRow a e size v n b)(d:∀ q,v.ownBlock=some q→w'.heap[q]? =w.heap[q]?):w'.ownsRow a e size v n b:=by
 refine ⟨h.1, ?_⟩;rcases h.2 with h2 | ⟨g,cap,f,c,i,j,h4⟩
 ·exact .inl h2
 ·exact .inr ⟨g,cap,f,c,i,(d g (by rw[c];rfl)).trans j,h4⟩
theorem A6.lts {w:World}{lo:Nat}{v:Value}{N:List Nd}{b c:List Value}(h:A6 w lo v N b c):(∀ q,v.ownBlock=some q→lo≤q∧q < w.heap.size)∧(∀ j,(a:j < b.length)→∀ q,b[j].ownBlock=some q→lo≤q∧q < w.heap.size)∧∀ j,(a:j < c.length)→∀ q,c[j].ownBlock=some q→lo≤q∧q < w.heap.size:=
 ⟨h.own.lt,fun j a=>(h.names j (by rw[← h.len];exact a) a).lt,fun j a=>(h.kids j (by rw[← h.lenk];exact a) a).lt⟩
theorem A6.upto {w w':World}{lo:Nat}{v:Value}{N:List Nd}{c d:List Value}(h:A6 w lo v N c d)(h1:∀ q,v.ownBlock=some q→w'.heap[q]? =w.heap[q]?)(h2:∀ j,(a:j < c.length)→∀ q,c[j].ownBlock=some q→w'.heap[q]? =w.heap[q]?)(h3:∀ j,(a:j < d.length)→∀ q,d[j].ownBlock=some q→w'.heap[q]? =w.heap[q]?):A6 w' lo v N c d:=
 ⟨h.len,h.lenk,Ac h.own h1,fun j a b=>Ac (h.names j a b) (h2 j b),fun j a b=>Ac (h.kids j a b) (h3 j b),h.apart,h.apartk⟩
theorem A6.blocks {w w':World}{lo:Nat}{v:Value}{N:List Nd}{c d:List Value}(h:A6 w lo v N c d)(b:∀ k,lo≤k→k < w.heap.size→w'.heap[k]? =w.heap[k]?):A6 w' lo v N c d:=
 h.upto (fun q hq=>b q (h.lts.1 q hq).1 (h.lts.1 q hq).2) (fun j a q hq=>b q (h.lts.2.1 j a q hq).1 (h.lts.2.1 j a q hq).2) (fun j a q hq=>b q (h.lts.2.2 j a q hq).1 (h.lts.2.2 j a q hq).2)
theorem Ak {w:World}{B i n j size k:Nat}{e e':TypeId}{v f:Value}{l m:List Value}(h:w.ownsRow B e size v n l)(o:w.ownsRow i e' k f j m)(p:e≠e'):∀ q,v.ownBlock=some q→f.ownBlock≠some q:=fun q hq b=>by
 rcases h.2 with ⟨c,_⟩ | ⟨g,cap,t,c,_,r,_⟩
 ·rw[c] at hq;cases hq
 rcases o.2 with ⟨d,_⟩ | ⟨s,u,x,d,_,a,_⟩
 ·rw[d] at b;cases b
 rw[c] at hq;rw[d] at b;obtain rfl:g=q:=by simpa[Value.ownBlock] using hq
 obtain rfl:s=g:=by simpa[Value.ownBlock] using b
 rw[r] at a;injection a with a;injection a with _ a;exact p a
def InN (v:Value) (nv kv:List Value) (hi:Nat):Prop:=(∀ q,v.ownBlock=some q→q < hi)∧(∀ j,(hj:j < nv.length)→∀ q,nv[j].ownBlock=some q→q < hi)∧∀ j,(hj:j < kv.length)→∀ q,kv[j].ownBlock=some q→q < hi
def okN (x:Nd):Prop:=x.names.length≤1048576∧x.kids.length≤1048576∧∀ s∈x.names,s.size≤maxLen
theorem Ex.form (e:Ex):∃ t u,e.val= .iface t u:=by cases e <;> exact ⟨_,_,rfl⟩
theorem BU {T:TypeId}{a:Array Field}(hu: Tryz.prog.underlying T=some (.struct a))(b:TypeId)(v:Value)(w:World):(Instr.typeAssert (.iface T v) b T true).run Tryz.prog w= .ok (.tuple #[v,.bool true]) w:=by simp[Instr.typeAssert,run_underlying hu]
theorem Ah {S T:TypeId}{b:Array Field}{a:Value}(hu: Tryz.prog.underlying T=some (.struct b))(c:∀ w,(zeroValue T).run Tryz.prog w= .ok a w)(h:S≠T)(d:TypeId)(v:Value)(w:World):(Instr.typeAssert (.iface S v) d T true).run Tryz.prog w= .ok (.tuple #[a,.bool false]) w:=by simp[Instr.typeAssert,run_underlying hu,c,h]
theorem Qr (i n:Int):∀ w,(method 409 130 (.agg #[.int .i64 i,.int .i64 n]) "loop.example/s01308/impl.kids").run Tryz.prog w= .ok (219,.int .i64 i) w:=fun _=>by kernel_rfl
theorem Vt (i n:Int):∀ w,(method 409 130 (.agg #[.int .i64 i,.int .i64 n]) "loop.example/s01308/impl.place").run Tryz.prog w= .ok (220,.int .i64 i) w:=fun _=>by kernel_rfl
theorem NG (i:Int)(s:ByteArray):∀ w,(method 409 133 (.agg #[.int .i64 i,.string s]) "loop.example/s01308/impl.kids").run Tryz.prog w= .ok (219,.int .i64 i) w:=fun _=>by kernel_rfl
theorem SZ (i:Int)(s:ByteArray):∀ w,(method 409 133 (.agg #[.int .i64 i,.string s]) "loop.example/s01308/impl.place").run Tryz.prog w= .ok (220,.int .i64 i) w:=fun _=>by kernel_rfl
theorem NH (i:Int)(b:Bool):∀ w,(method 409 135 (.agg #[.int .i64 i,.bool b]) "loop.example/s01308/impl.kids").run Tryz.prog w= .ok (219,.int .i64 i) w:=fun _=>by kernel_rfl
theorem S8 (i:Int)(b:Bool):∀ w,(method 409 135 (.agg #[.int .i64 i,.bool b]) "loop.example/s01308/impl.place").run Tryz.prog w= .ok (220,.int .i64 i) w:=fun _=>by kernel_rfl
theorem Qs (i:Int)(a:Option Addr)(n c:Nat):∀ w,(method 409 138 (.agg #[.int .i64 i,.slice a n c]) "loop.example/s01308/impl.kids").run Tryz.prog w= .ok (219,.int .i64 i) w:=fun _=>by kernel_rfl
theorem Vu (i:Int)(a:Option Addr)(n c:Nat):∀ w,(method 409 138 (.agg #[.int .i64 i,.slice a n c]) "loop.example/s01308/impl.place").run Tryz.prog w= .ok (220,.int .i64 i) w:=fun _=>by kernel_rfl
theorem NI (i:Int)(s:ByteArray):∀ w,(method 409 141 (.agg #[.int .i64 i,.string s]) "loop.example/s01308/impl.kids").run Tryz.prog w= .ok (219,.int .i64 i) w:=fun _=>by kernel_rfl
theorem Ta (i:Int)(s:ByteArray):∀ w,(method 409 141 (.agg #[.int .i64 i,.string s]) "loop.example/s01308/impl.place").run Tryz.prog w= .ok (220,.int .i64 i) w:=fun _=>by kernel_rfl
theorem NJ (i n:Int):∀ w,(method 409 184 (.agg #[.int .i64 i,.int .i64 n]) "loop.example/s01308/impl.kids").run Tryz.prog w= .ok (219,.int .i64 i) w:=fun _=>by kernel_rfl
theorem Tb (i n:Int):∀ w,(method 409 184 (.agg #[.int .i64 i,.int .i64 n]) "loop.example/s01308/impl.place").run Tryz.prog w= .ok (220,.int .i64 i) w:=fun _=>by kernel_rfl
theorem NK (i n:Int):∀ w,(method 409 185 (.agg #[.int .i64 i,.int .i64 n]) "loop.example/s01308/impl.kids").run Tryz.prog w= .ok (219,.int .i64 i) w:=fun _=>by kernel_rfl
theorem Tc (i n:Int):∀ w,(method 409 185 (.agg #[.int .i64 i,.int .i64 n]) "loop.example/s01308/impl.place").run Tryz.prog w= .ok (220,.int .i64 i) w:=fun _=>by kernel_rfl
theorem Un (i op:Int)(t:TypeId)(u:Value):∀ w,(method 409 143 (.agg #[.int .i64 i,.int .i64 op,.iface t u]) "loop.example/s01308/impl.kids").run Tryz.prog w= .ok (221,.agg #[.int .i64 i,.int .i64 op,.iface t u]) w:=fun _=>by kernel_rfl
theorem Xr (i op:Int)(t:TypeId)(u:Value):∀ w,(method 409 143 (.agg #[.int .i64 i,.int .i64 op,.iface t u]) "loop.example/s01308/impl.place").run Tryz.prog w= .ok (222,.agg #[.int .i64 i,.int .i64 op,.iface t u]) w:=fun _=>by kernel_rfl
theorem Qt (i op:Int)(t:TypeId)(u:Value)(a:TypeId)(b:Value):∀ w,(method 409 146 (.agg #[.int .i64 i,.int .i64 op,.iface t u,.iface a b]) "loop.example/s01308/impl.kids").run Tryz.prog w= .ok (223,.agg #[.int .i64 i,.int .i64 op,.iface t u,.iface a b]) w:=fun _=>by kernel_rfl
theorem Vv (i op:Int)(t:TypeId)(u:Value)(a:TypeId)(b:Value):∀ w,(method 409 146 (.agg #[.int .i64 i,.int .i64 op,.iface t u,.iface a b]) "loop.example/s01308/impl.place").run Tryz.prog w= .ok (224,.agg #[.int .i64 i,.int .i64 op,.iface t u,.iface a b]) w:=fun _=>by kernel_rfl
theorem Qu (i:Int)(t:TypeId)(u:Value)(a:TypeId)(b:Value)(c:TypeId)(d:Value):∀ w,(method 409 149 (.agg #[.int .i64 i,.iface t u,.iface a b,.iface c d]) "loop.example/s01308/impl.kids").run Tryz.prog w= .ok (225,.agg #[.int .i64 i,.iface t u,.iface a b,.iface c d]) w:=fun _=>by kernel_rfl
theorem Vw (i:Int)(t:TypeId)(u:Value)(a:TypeId)(b:Value)(c:TypeId)(d:Value):∀ w,(method 409 149 (.agg #[.int .i64 i,.iface t u,.iface a b,.iface c d]) "loop.example/s01308/impl.place").run Tryz.prog w= .ok (226,.agg #[.int .i64 i,.iface t u,.iface a b,.iface c d]) w:=fun _=>by kernel_rfl
theorem Di (i:Int)(w:World):Calls Tryz.prog 219 #[.int .i64 i] w fun r w'=>r= .returned (.slice none 0 0)∧w'=w:=by
 go_enter Tryz.func219,Tryz.ntmps219
 go_wp2
 go_ret
 exact ⟨rfl,rfl⟩
theorem Td (i:Int)(w:World):Calls Tryz.prog 220 #[.int .i64 i] w fun r w'=>r= .returned (.int .i64 i)∧w'=w:=by
 go_enter Tryz.func220,Tryz.ntmps220
 go_wp2
 go_ret
 exact ⟨rfl,rfl⟩
def Aa2 (w:World) (vs:List Value) (n:Nat) (r:Ending) (w':World):Prop:=∃ g,r= .returned (.slice (some ⟨g,0,none⟩) n n)∧w.heap.size≤g∧Aj w' g vs.toArray 45∧Below w.heap.size w w'
theorem LB (i op:Int)(t:TypeId)(u:Value)(w:World):Calls Tryz.prog 221 #[.agg #[.int .i64 i,.int .i64 op,.iface t u]] w (Aa2 w [.iface t u] 1):=by
 have a:=(Below.refl w.heap.size w).alloc NLN (.cells #[.int .i64 i,.int .i64 op,.iface t u] 143);have b:=Aj.new (w.alloc (.cells #[.int .i64 i,.int .i64 op,.iface t u] 143)) #[.iface t u] 45;simp only[World.size_alloc] at b;go_enter Tryz.func221,Tryz.ntmps221
 go_wp2
 go_ret
 exact ⟨w.heap.size+1,rfl,Nat.le_succ _,b,a.alloc a.size _⟩
theorem QE (i op:Int)(t:TypeId)(u:Value)(w:World):Calls Tryz.prog 222 #[.agg #[.int .i64 i,.int .i64 op,.iface t u]] w fun r w'=>r= .returned (.int .i64 i)∧Below w.heap.size w w':=by
 have a:=(Below.refl w.heap.size w).alloc NLN (.cells #[.int .i64 i,.int .i64 op,.iface t u] 143);go_enter Tryz.func222,Tryz.ntmps222
 go_wp2
 go_ret
 exact ⟨rfl,a⟩
theorem Ke (i op:Int)(t:TypeId)(u:Value)(a:TypeId)(b:Value)(w:World):Calls Tryz.prog 223 #[.agg #[.int .i64 i,.int .i64 op,.iface t u,.iface a b]] w (Aa2 w [.iface t u,.iface a b] 2):=by
 have c:=(Below.refl w.heap.size w).alloc NLN (.cells #[.int .i64 i,.int .i64 op,.iface t u,.iface a b] 146);have d:=Aj.new (w.alloc (.cells #[.int .i64 i,.int .i64 op,.iface t u,.iface a b] 146)) #[.iface t u,.iface a b] 45;simp only[World.size_alloc] at d;go_enter Tryz.func223,Tryz.ntmps223
 go_wp2
 go_ret
 exact ⟨w.heap.size+1,rfl,Nat.le_succ _,d,c.alloc c.size _⟩
theorem Pe (i op:Int)(t:TypeId)(u:Value)(a:TypeId)(b:Value)(w:World):Calls Tryz.prog 224 #[.agg #[.int .i64 i,.int .i64 op,.iface t u,.iface a b]] w fun r w'=>r= .returned (.int .i64 i)∧Below w.heap.size w w':=by
 have c:=(Below.refl w.heap.size w).alloc NLN (.cells #[.int .i64 i,.int .i64 op,.iface t u,.iface a b] 146);go_enter Tryz.func224,Tryz.ntmps224
 go_wp2
 go_ret
 exact ⟨rfl,c⟩
theorem Kf (i:Int)(t:TypeId)(u:Value)(a:TypeId)(b:Value)(c:TypeId)(d:Value)(w:World):Calls Tryz.prog 225 #[.agg #[.int .i64 i,.iface t u,.iface a b,.iface c d]] w (Aa2 w [.iface t u,.iface a b,.iface c d] 3):=by
 have f:=(Below.refl w.heap.size w).alloc NLN (.cells #[.int .i64 i,.iface t u,.iface a b,.iface c d] 149);have g:=Aj.new (w.alloc (.cells #[.int .i64 i,.iface t u,.iface a b,.iface c d] 149)) #[.iface t u,.iface a b,.iface c d] 45;simp only[World.size_alloc] at g;go_enter Tryz.func225,Tryz.ntmps225
 go_wp2
 go_ret
 exact ⟨w.heap.size+1,rfl,Nat.le_succ _,g,f.alloc f.size _⟩
theorem Pf (i:Int)(t:TypeId)(u:Value)(a:TypeId)(b:Value)(c:TypeId)(d:Value)(w:World):Calls Tryz.prog 226 #[.agg #[.int .i64 i,.iface t u,.iface a b,.iface c d]] w fun r w'=>r= .returned (.int .i64 i)∧Below w.heap.size w w':=by
 have f:=(Below.refl w.heap.size w).alloc NLN (.cells #[.int .i64 i,.iface t u,.iface a b,.iface c d] 149);go_enter Tryz.func226,Tryz.ntmps226
 go_wp2
 go_ret
 exact ⟨rfl,f⟩
end Go.Proofs.YtoplnhndilmlcaaGreatDoor
