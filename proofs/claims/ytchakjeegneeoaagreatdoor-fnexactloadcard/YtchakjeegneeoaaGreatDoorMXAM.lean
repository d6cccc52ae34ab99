/-
  VPA, VPB, VPC, VPE, VPF, VPG. Own work.
-/
import Derived.Test.YtchakjeegneeoaaGreatDoorMXAB
import Derived.Test.YtchakjeegneeoaaGreatDoorMXAL
import Derived.Deep.RegionHeld3
import Derived.Test.YtchakjeegneeoaaGreatDoorMXAG
namespace Go.Proofs.YtchakjeegneeoaaGreatDoor
set_option maxHeartbeats 1600000
open Go.RowKit
set_option linter.unusedVariables false
theorem YS (p:UInt8→Bool)(r:List UInt8):AR p r=r.length↔r.all p=true:=by
 constructor
 ·intro h;have:=EP p r
  rwa[h,z3] at this
 ·intro h;have e:r.takeWhile p=r:=by
   induction r with
   |nil=>rfl
   |cons c r a=>
    rw[List.all_cons,zI] at h;rw[List.takeWhile_cons,if_pos h.1,a h.2]
  rw[AR,e]
theorem QC {s:ByteArray}(h0: 0 < s.size):BD s=(decide (s.size≤32) && JG (s[0].toNat:Int) && decide (AR Ew (Ap s)=s.size) && !Gz (Ap s)):=by
 have h:=BC s 0 h0;rw[zs] at h;have a:(Ap s).length=s.size:=Av s;have b:decide (AR Ew (Ap s)=s.size)=(Ap s).all Ew:=by rw[← a,zP,decide_eq_true_iff];exact YS Ew (Ap s)
 rw[b,← a];generalize (Ap s).drop (0+1)=q at h;rw[BD,h];rfl
theorem Mn {s:ByteArray}(h0:s.size=0):BD s=false:=by
 have:Ap s= []:=zy (by rw[Av];exact h0);rw[BD,this]
theorem Eh (s:ByteArray)(w:World)(hs:s.size≤1048576):
  Calls Tryz.prog 80 #[.string s] w fun e w'=>e= .returned (.bool (BD s))∧Below w.heap.size w w':=by
 by_cases h0:s.size=0
 ·have k: ¬ ((0 :Int) < (s.size:Int)):=by omega
  rw[Mn h0];go_enter Tryz.func80,Tryz.ntmps80
  go_wp2
  go_ret
  exact ⟨rfl,BRN⟩
 have hp: 0 < s.size:=by omega
 have k:(0 :Int) < (s.size:Int):=by omega
 have c:=Ab (QC hp);by_cases g:s.size≤32
 case neg=>
  have l: ¬ ((s.size:Int)≤32):=by omega
  have n:(32 :Int) < (s.size:Int):=by omega
  go_enter Tryz.func80,Tryz.ntmps80
  go_wp2
  go_ret
  exact ⟨Ag (by rw[Aa c];simp[g]),BRN⟩
 have l:(s.size:Int)≤32:=by omega
 cases d:JG (s[0].toNat:Int)
 ·have b:=Ab d;clear d;go_enter Tryz.func80,Tryz.ntmps80
  go_wp2_with (go_at_call 66;refine (AW _ _).mono ?_;rintro e w' ⟨rfl,a⟩;rw[Aa b,a];clear a)
  go_ret
  exact ⟨Ag (by rw[Aa c,Aa b];simp),BRN⟩
 have b:=Ab d;clear d;have h:=Ab (Ja Ew s);by_cases i:AR Ew (Ap s)=s.size
 ·have m:(((AR Ew (Ap s):Nat):Int)==(s.size:Int))=true:=zN.2 (by omega);go_enter Tryz.func80,Tryz.ntmps80
  go_wp2_with (first | (go_at_call 66;refine (AW _ _).mono ?_;rintro e w' ⟨rfl,a⟩;rw[Aa b,a];clear a) | (go_at_call 67;refine (LJ s 0 _ (by unfold maxLen;omega) (by omega)).mono ?_;rintro e w' ⟨rfl,a⟩;rw[Aa h,a];clear a))
  refine (OB s _).mono ?_;rintro e o ⟨rfl,j⟩;cases a:Gz (Ap s)
  ·have f:=Ab a;clear a;go_wp2
   go_ret
   exact ⟨Ag (by rw[Aa c,Aa b,Aa f];simp[g,i]),j⟩
  ·have f:=Ab a;clear a;go_wp2
   go_ret
   exact ⟨Ag (by rw[Aa c,Aa f];simp),j⟩
 ·have m:(((AR Ew (Ap s):Nat):Int)==(s.size:Int))=false:=zB.2 (by omega);go_enter Tryz.func80,Tryz.ntmps80
  go_wp2_with (first | (go_at_call 66;refine (AW _ _).mono ?_;rintro e w' ⟨rfl,a⟩;rw[Aa b,a];clear a) | (go_at_call 67;refine (LJ s 0 _ (by unfold maxLen;omega) (by omega)).mono ?_;rintro e w' ⟨rfl,a⟩;rw[Aa h,a];clear a))
  go_ret
  exact ⟨Ag (by rw[Aa c];simp[i]),BRN⟩
theorem DX (s:ByteArray)(w:World)(hs:s.size≤1048576):
  Calls Tryz.prog 129 #[.string s] w fun e w'=>e= .returned (.bool (BD s))∧w'=w:=by
 by_cases h0:s.size=0
 ·rw[Mn h0];have he:=Gn h0;subst he;go_enter Tryz.func129,Tryz.ntmps129
  go_wp2
  go_ret
  exact ⟨rfl,rfl⟩
 have hp: 0 < s.size:=by omega
 have l:(0 :Int) < (s.size:Int):=by omega
 have m:=GK h0;have c:=Ab (QC hp);by_cases g:s.size≤32
 case neg=>
  have j: ¬ ((s.size:Int)≤32):=by omega
  have n:(32 :Int) < (s.size:Int):=by omega
  go_enter Tryz.func129,Tryz.ntmps129
  go_wp2
  go_ret
  exact ⟨Ag (by rw[Aa c];simp[g]),rfl⟩
 have j:(s.size:Int)≤32:=by omega
 cases d:JG (s[0].toNat:Int)
 ·have b:=Ab d;clear d;go_enter Tryz.func129,Tryz.ntmps129
  go_wp2_with (go_at_call 109;refine (AZ _ _).mono ?_;rintro e w' ⟨rfl,a⟩;rw[Aa b,a];clear a)
  go_ret
  exact ⟨Ag (by rw[Aa c,Aa b];simp),rfl⟩
 have b:=Ab d;clear d;by_cases h:AR Ew (Ap s)=s.size
 ·have k:(((AR Ew (Ap s):Nat):Int)==(s.size:Int))=true:=zN.2 (by omega);go_enter Tryz.func129,Tryz.ntmps129
  go_wp2_with (first | (go_at_call 109;refine (AZ _ _).mono ?_;rintro e w' ⟨rfl,a⟩;rw[Aa b,a];clear a) | (go_at_call 136;refine (Ox s _ (by unfold maxLen;omega)).mono ?_;rintro e w' ⟨rfl,a⟩;rw[a];clear a))
  refine (OD s _).mono ?_;rintro e o ⟨rfl,i⟩;rw[i];clear i;cases a:Gz (Ap s)
  ·have f:=Ab a;clear a;go_wp2
   go_ret
   exact ⟨Ag (by rw[Aa c,Aa b,Aa f];simp[g,h]),rfl⟩
  ·have f:=Ab a;clear a;go_wp2
   go_ret
   exact ⟨Ag (by rw[Aa c,Aa f];simp),rfl⟩
 ·have k:(((AR Ew (Ap s):Nat):Int)==(s.size:Int))=false:=zB.2 (by omega);go_enter Tryz.func129,Tryz.ntmps129
  go_wp2_with (first | (go_at_call 109;refine (AZ _ _).mono ?_;rintro e w' ⟨rfl,a⟩;rw[Aa b,a];clear a) | (go_at_call 136;refine (Ox s _ (by unfold maxLen;omega)).mono ?_;rintro e w' ⟨rfl,a⟩;rw[a];clear a))
  go_ret
  exact ⟨Ag (by rw[Aa c];simp[h]),rfl⟩
theorem JI (s:ByteArray):BM s=(decide (s.size≤32) && Jn s.data.toList):=rfl
theorem Wb (s:ByteArray):BM s=(decide (s.size=0) || vnB s):=by
 rw[JI,vnB];by_cases h:s.size=0
 ·have e:=Gn h;subst e;rfl
 ·rw[show decide (s.size=0)=false from zR h,Bool.false_or,show decide (1≤s.size∧s.size≤32)=decide (s.size≤32) by rw[decide_eq_decide];omega]
theorem KG (s:ByteArray)(w:World)(hs:s.size≤1048576):
  Calls Tryz.prog 103 #[.string s] w fun e w'=>e= .returned (.bool (BM s))∧w'=w:=by
 by_cases h0:s.size=0
 ·have e:=Gn h0;subst e;go_enter Tryz.func103,Tryz.ntmps103
  go_wp2
  go_ret
  exact ⟨rfl,rfl⟩
 ·have c:=GK h0;have b:=Ab (show BM s=vnB s by rw[Wb,zR h0,Bool.false_or]);go_enter Tryz.func103,Tryz.ntmps103
  go_wp2_with (go_at_call 134;refine (FN _ _ (by unfold maxLen;omega)).mono ?_;rintro e w' ⟨rfl,a⟩;rw[a];clear a)
  go_ret
  exact ⟨Ag (Aa b).symm,rfl⟩
theorem OQ (op:Int)(w:World):
  Calls Tryz.prog 102 #[.int .i64 op] w fun e w'=>e= .returned (.int .i64 (Dn op))∧w'=w:=by
 go_enter Tryz.func102,Tryz.ntmps102
 go_wp2
 all_goals
  go_ret
  refine ⟨Fg ?_,rfl⟩;unfold Dn
  simp_all
  try omega
set_option maxRecDepth 100000
set_option maxHeartbeats 3200000
theorem Gr {w:World}{b:Nat}{a c d f g:Value}{t:TypeId}(R:Al w b #[a,c,d,f,g] t):w.cell? ⟨b,0,none⟩=some a∧w.cell? ⟨b,1,none⟩=some c∧w.cell? ⟨b,2,none⟩=some d∧w.cell? ⟨b,3,none⟩=some f∧w.cell? ⟨b,4,none⟩=some g∧∀ j,w.frozen? ⟨b,j,none⟩=false:=
 ⟨by simpa using R.cell 0,by simpa using R.cell 1,by simpa using R.cell 2,by simpa using R.cell 3,by simpa using R.cell 4,fun j=>R.frozen j⟩
theorem Bg.drew' {w:World}{a:Option Addr}{n c:Nat}{b:List ByteArray}(h:Bg w a n c b):Bg w.drew a n c b:=⟨h.len,h.cap,h.small,h.sizes,h.cells⟩
theorem Dd (s:ByteArray):s.toList= []↔s.size=0:=by
 rw[za,← List.length_eq_zero_iff];have:s.data.toList.length=s.size:=by simp
 rw[this]
def ndV (op num:Int) (text:ByteArray) (an:Option Addr) (nn cn:Nat) (ak:Option Addr) (nk ck:Nat):Value:= .agg #[.int .i64 op,.int .i64 num,.string text,.slice an nn cn,.slice ak nk ck]
theorem KH (x:Nd)(an:Option Addr)(nn q:Nat)(r:Option Addr)(i s:Nat)(w:World)(B:Bg w an nn q x.names)(F:i=x.kids.length)(hs:x.text.size≤1048576)(hk:i≤1048576):
  Calls Tryz.prog 79 #[ndV x.op x.num x.text an nn q r i s,.bool false] w fun e w'=>e= .returned (.bool (As x))∧Below w.heap.size w w':=by
 have H:=B.len;obtain ⟨op,num,text,names,kids⟩:=x;simp only at B F hs H ⊢;have I:=Al.new w #[.int .i64 op,.int .i64 num,.string text,.slice an nn q,.slice r i s] 68;have C:=(Below.refl w.heap.size w).alloc NLN (.cells #[.int .i64 op,.int .i64 num,.string text,.slice an nn q,.slice r i s] 68);have R:(w.alloc (.cells #[.int .i64 op,.int .i64 num,.string text,.slice an nn q,.slice r i s] 68)).heap.size=w.heap.size+1:=by simp
 have U:=Ab H;have V:=Ab F;clear H F;have a:=Ab (show As ⟨op,num,text,names,kids⟩=(decide ((kids.length:Int)=Dn op) && (if op=1 then decide (0≤num) && decide (text.size=0) && decide (names.length=0) else if op=2 then BM text && decide (num=0) && decide (names.length=0) else if op=3 then decide (num=0∨num=1) && decide (text.size=0) && decide (names.length=0) else if op=4 then JC names && decide (num=0) && decide (text.size=0) else if op=5 then BD text && decide (num=0) && decide (names.length=0) else if op=6∨op=7 then false else decide (num=0) && decide (text.size=0) && decide (names.length=0))) from rfl);rw[← Aa V,← Aa U] at a;generalize As ⟨op,num,text,names,kids⟩=Z at a ⊢;unfold ndV;go_enter Tryz.func79,Tryz.ntmps79
 go_wp2_with fail
 obtain ⟨c0,c1,c2,c3,c4,c⟩:=Gr I;generalize w.alloc (.cells #[.int .i64 op,.int .i64 num,.string text,.slice an nn q,.slice r i s] 68)=W at *;by_cases u:(i:Int)=Dn op
 case neg=>
  have X:((i:Int) != Dn op)=true:=zS.2 u;go_region_held3 (fun w'=>w'.cell? ⟨w.heap.size,4,none⟩=some (.slice r i s)∧w'.cell? ⟨w.heap.size,0,none⟩=some (.int .i64 op)) (go_keep)
   ((go_at_call 102;refine (OQ _ _).mono ?_;rintro e Y ⟨rfl,v⟩;rw[v];clear v))
  all_goals
   go_wp2
   go_ret
   exact ⟨Ag (by rw[Aa a,zR u];rfl),C.drew⟩
 have X:((i:Int) != Dn op)=false:=by rw[u];simp
 have t:=Ab u;clear u;go_region_held3 (fun w'=>w'.cell? ⟨w.heap.size,4,none⟩=some (.slice r i s)∧w'.cell? ⟨w.heap.size,0,none⟩=some (.int .i64 op)) (go_keep)
  ((go_at_call 102;refine (OQ _ _).mono ?_;rintro e Y ⟨rfl,v⟩;rw[v];clear v))
 have g:Al W.drew w.heap.size #[.int .i64 op,.int .i64 num,.string text,.slice an nn q,.slice r i s] 68:=⟨I.out⟩
 have b:Below w.heap.size w W.drew:=C.drew;have j:Bg W.drew an nn q names:=(B.below C NLN).drew';have J:W.drew.heap.size=w.heap.size+1:=R;clear I C c0 c1 c2 c3 c4 c B R;generalize W.drew=E at g b j J ⊢;have k:=g.alloc (.cells #[.int .i64 op,.int .i64 0,.string ⟨#[]⟩,.slice none 0 0,.slice none 0 0] 68);have f:=b.alloc (by omega) (.cells #[.int .i64 op,.int .i64 0,.string ⟨#[]⟩,.slice none 0 0,.slice none 0 0] 68);have l:=j.below ((Below.refl E.heap.size E).alloc NLN (.cells #[.int .i64 op,.int .i64 0,.string ⟨#[]⟩,.slice none 0 0,.slice none 0 0] 68)) NLN;have h:=Al.new E #[.int .i64 op,.int .i64 0,.string ⟨#[]⟩,.slice none 0 0,.slice none 0 0] 68;rw[J] at h;have aa:(E.alloc (.cells #[.int .i64 op,.int .i64 0,.string ⟨#[]⟩,.slice none 0 0,.slice none 0 0] 68)).heap.size=w.heap.size+2:=by simp[J]
 obtain ⟨c0,c1,c2,c3,c4,c⟩:=Gr g;have ab:=Dd text;by_cases K:op=1
 ·subst K;have a:=Ab ((Aa a).trans (by rw[zW (Aa t),if_pos rfl,Z0]));go_wp2
  all_goals
   go_ret
   refine ⟨Ag ?_,b.alloc (by omega) _⟩;rw[Aa a];have n:((nn:Int)== 0)=decide (nn=0):=by rw[zP];simp
   clear a g k h b f j l c0 c1 c2 c3 c4 c
   simp_all
   try omega
 by_cases L:op=2
 ·subst L;have a:=Ab ((Aa a).trans (by rw[zW (Aa t),if_neg (by omega),if_pos rfl,Z0]));cases hq:BM text
  ·have d:=Ab hq;clear hq;go_wp2_with (go_at_call 103;refine (KG _ _ hs).mono ?_;rintro e w' ⟨rfl,m⟩;rw[Aa d,m];clear m)
   all_goals
    go_ret
    refine ⟨Ag ?_,b.alloc (by omega) _⟩;rw[Aa a];have hq:=Aa d;have n:((nn:Int)== 0)=decide (nn=0):=by rw[zP];simp
    clear a g k h b f j l c0 c1 c2 c3 c4 c
    simp_all
    try omega
  ·have d:=Ab hq;clear hq;go_wp2_with (go_at_call 103;refine (KG _ _ hs).mono ?_;rintro e w' ⟨rfl,m⟩;rw[Aa d,m];clear m)
   all_goals
    go_ret
    refine ⟨Ag ?_,b.alloc (by omega) _⟩;rw[Aa a];have hq:=Aa d;have n:((nn:Int)== 0)=decide (nn=0):=by rw[zP];simp
    clear a g k h b f j l c0 c1 c2 c3 c4 c
    simp_all
    try omega
 by_cases M:op=3
 ·subst M;have a:=Ab ((Aa a).trans (by rw[zW (Aa t),if_neg (by omega),if_neg (by omega),if_pos rfl,Z0]));go_wp2
  all_goals
   go_ret
   refine ⟨Ag ?_,b.alloc (by omega) _⟩;rw[Aa a];have n:((nn:Int)== 0)=decide (nn=0):=by rw[zP];simp
   clear a g k h b f j l c0 c1 c2 c3 c4 c
   simp_all
   try omega
 by_cases N:op=4
 ·subst N;have a:=Ab ((Aa a).trans (by rw[zW (Aa t),if_neg (by omega),if_neg (by omega),if_neg (by omega),if_pos rfl,Z0]));cases hq:JC names
  ·have d:=Ab hq;clear hq;go_wp2_with (go_at_call 104;refine (Oq _ _ _ _ _ l).mono ?_;rintro e w' ⟨rfl,m⟩;rw[Aa d,m];clear m)
   all_goals
    go_ret
    refine ⟨Ag ?_,b.alloc (by omega) _⟩;rw[Aa a];have hq:=Aa d;have n:((nn:Int)== 0)=decide (nn=0):=by rw[zP];simp
    clear a g k h b f j l c0 c1 c2 c3 c4 c
    simp_all
    try omega
  ·have d:=Ab hq;clear hq;go_wp2_with (go_at_call 104;refine (Oq _ _ _ _ _ l).mono ?_;rintro e w' ⟨rfl,m⟩;rw[Aa d,m];clear m)
   all_goals
    go_ret
    refine ⟨Ag ?_,b.alloc (by omega) _⟩;rw[Aa a];have hq:=Aa d;have n:((nn:Int)== 0)=decide (nn=0):=by rw[zP];simp
    clear a g k h b f j l c0 c1 c2 c3 c4 c
    simp_all
    try omega
 by_cases O:op=5
 ·subst O;have a:=Ab ((Aa a).trans (by rw[zW (Aa t),if_neg (by omega),if_neg (by omega),if_neg (by omega),if_neg (by omega),if_pos rfl,Z0]));cases hq:BD text
  ·have d:=Ab hq;clear hq;go_wp2_with fail
   refine (Eh _ _ hs).mono ?_;rintro e w2 ⟨rfl,o⟩;rw[Aa d];have y:=k.after o NLN;have z:=h.after o NLN;have A:=f.trans (o.mono f.size);clear g k h f j l c0 c1 c2 c3 c4 c o;obtain ⟨c0,c1,c2,c3,c4,c⟩:=Gr y;obtain ⟨P,d1,d2,d3,d4,Q⟩:=Gr z;go_wp2
   all_goals
    go_ret
    refine ⟨Ag ?_,A⟩;rw[Aa a];have hq:=Aa d;have n:((nn:Int)== 0)=decide (nn=0):=by rw[zP];simp
    clear a y z A b c0 c1 c2 c3 c4 c P d1 d2 d3 d4 Q
    simp_all
    try omega
  ·have d:=Ab hq;clear hq;go_wp2_with fail
   refine (Eh _ _ hs).mono ?_;rintro e w2 ⟨rfl,o⟩;rw[Aa d];have y:=k.after o NLN;have z:=h.after o NLN;have A:=f.trans (o.mono f.size);clear g k h f j l c0 c1 c2 c3 c4 c o;obtain ⟨c0,c1,c2,c3,c4,c⟩:=Gr y;obtain ⟨P,d1,d2,d3,d4,Q⟩:=Gr z;go_wp2
   all_goals
    go_ret
    refine ⟨Ag ?_,A.setCell (p:=⟨w.heap.size+1,2,none⟩) (by show w.heap.size≤w.heap.size+1;omega) _⟩;rw[Aa a];have hq:=Aa d;have n:((nn:Int)== 0)=decide (nn=0):=by rw[zP];simp
    clear a y z A b c0 c1 c2 c3 c4 c P d1 d2 d3 d4 Q
    simp_all
    try omega
 by_cases S:op=6
 ·subst S;have a:=Ab ((Aa a).trans (by rw[zW (Aa t),if_neg (by omega),if_neg (by omega),if_neg (by omega),if_neg (by omega),if_neg (by omega),if_pos (by omega),Z0]));go_wp2
  all_goals
   go_ret
   refine ⟨Ag ?_,b.alloc (by omega) _⟩;rw[Aa a];have n:((nn:Int)== 0)=decide (nn=0):=by rw[zP];simp
   clear a g k h b f j l c0 c1 c2 c3 c4 c
   simp_all
   try omega
 by_cases T:op=7
 ·subst T;have a:=Ab ((Aa a).trans (by rw[zW (Aa t),if_neg (by omega),if_neg (by omega),if_neg (by omega),if_neg (by omega),if_neg (by omega),if_pos (by omega),Z0]));go_wp2
  all_goals
   go_ret
   refine ⟨Ag ?_,b.alloc (by omega) _⟩;rw[Aa a];have n:((nn:Int)== 0)=decide (nn=0):=by rw[zP];simp
   clear a g k h b f j l c0 c1 c2 c3 c4 c
   simp_all
   try omega
 have a:=Ab ((Aa a).trans (by rw[zW (Aa t),if_neg K,if_neg L,if_neg M,if_neg N,if_neg O,if_neg (by omega),Z0]));have ac:=zB.2 K;have ad:=zB.2 L;have ae:=zB.2 M;have af:=zB.2 N;have ag:=zB.2 O;have ah:=zB.2 S;have ai:=zB.2 T;go_wp2
 all_goals
  go_ret
  refine ⟨Ag ?_,b.alloc (by omega) _⟩;rw[Aa a];have n:((nn:Int)== 0)=decide (nn=0):=by rw[zP];simp
  clear a g k h b f j l c0 c1 c2 c3 c4 c
  simp_all
  try omega
def wfB (x:Nd):Bool:=
 if x.op=1 then decide (0≤x.num) && decide (x.text.size=0) && decide (x.names.length=0)
 else if x.op=2 then BM x.text && decide (x.num=0) && decide (x.names.length=0)
 else if x.op=3 then decide (x.num=0∨x.num=1) && decide (x.text.size=0) && decide (x.names.length=0)
 else if x.op=4 then JC x.names && decide (x.num=0) && decide (x.text.size=0)
 else if x.op=5 then BD x.text && decide (x.num=0) && decide (x.names.length=0)
 else if x.op=6∨x.op=7 then false
 else decide (x.num=0) && decide (x.text.size=0) && decide (x.names.length=0)
theorem OR (x:Nd):As x=(decide ((x.kids.length:Int)=Dn x.op) && wfB x):=rfl
theorem Gj (x:Nd)(an:Option Addr)(nn k:Nat)(l:Option Addr)(m n:Nat)(w:World)(o:Bg w an nn k x.names)(hs:x.text.size≤1048576):
  Calls Tryz.prog 95 #[ndV x.op x.num x.text an nn k l m n] w fun e w'=>e= .returned (.bool (wfB x))∧Below w.heap.size w w':=by
 have p:=o.len;obtain ⟨op,num,text,names,kids⟩:=x;simp only at o hs p ⊢;have q:=Al.new w #[.int .i64 op,.int .i64 num,.string text,.slice an nn k,.slice l m n] 68;have r:=(Below.refl w.heap.size w).alloc NLN (.cells #[.int .i64 op,.int .i64 num,.string text,.slice an nn k,.slice l m n] 68);have B:=o.below r NLN;have F:=Ab p;clear p;have a:=Ab (show wfB ⟨op,num,text,names,kids⟩=(if op=1 then decide (0≤num) && decide (text.size=0) && decide (names.length=0) else if op=2 then BM text && decide (num=0) && decide (names.length=0) else if op=3 then decide (num=0∨num=1) && decide (text.size=0) && decide (names.length=0) else if op=4 then JC names && decide (num=0) && decide (text.size=0) else if op=5 then BD text && decide (num=0) && decide (names.length=0) else if op=6∨op=7 then false else decide (num=0) && decide (text.size=0) && decide (names.length=0)) from rfl);rw[← Aa F] at a;generalize wfB ⟨op,num,text,names,kids⟩=H at a ⊢;unfold ndV;have I:=Dd text;obtain ⟨c0,c1,c2,c3,c4,f⟩:=Gr q;go_enter Tryz.func95,Tryz.ntmps95
 go_wp2_with fail
 generalize w.alloc (.cells #[.int .i64 op,.int .i64 num,.string text,.slice an nn k,.slice l m n] 68)=W at *;go_region
 have g:Al W.drew w.heap.size #[.int .i64 op,.int .i64 num,.string text,.slice an nn k,.slice l m n] 68:=⟨q.out⟩
 have b:Below w.heap.size w W.drew:=r.drew;have d:Bg W.drew an nn k names:=B.drew';clear q r B c0 c1 c2 c3 c4 f o;generalize W.drew=J at g b d ⊢;obtain ⟨c0,c1,c2,c3,c4,f⟩:=Gr g;by_cases s:op=1
 ·subst s;have a:=Ab ((Aa a).trans (by rw[if_pos rfl]));go_wp2
  all_goals
   go_ret
   refine ⟨Ag ?_,b⟩;rw[Aa a];have i:text.toList.isEmpty=decide (text.size=0):=by rw[zP,zz,decide_eq_true_iff];exact Dd text
   have j:((nn:Int)== 0)=decide (nn=0):=by rw[zP];simp
   clear a g b d c0 c1 c2 c3 c4 f
   simp_all
   try omega
 by_cases t:op=2
 ·subst t;have a:=Ab ((Aa a).trans (by rw[if_neg (by omega),if_pos rfl]));cases hq:BM text
  ·have c:=Ab hq;clear hq;go_wp2_with (go_at_call 128;refine (Gm _ _ (by unfold maxLen;omega)).mono ?_;rintro e w2 ⟨rfl,h⟩;rw[← JI,Aa c,h];clear h)
   all_goals
    go_ret
    refine ⟨Ag ?_,b⟩;rw[Aa a];have hq:=Aa c;have i:text.toList.isEmpty=decide (text.size=0):=by rw[zP,zz,decide_eq_true_iff];exact Dd text
    have j:((nn:Int)== 0)=decide (nn=0):=by rw[zP];simp
    clear a g b d c0 c1 c2 c3 c4 f
    simp_all
    try omega
  ·have c:=Ab hq;clear hq;go_wp2_with (go_at_call 128;refine (Gm _ _ (by unfold maxLen;omega)).mono ?_;rintro e w2 ⟨rfl,h⟩;rw[← JI,Aa c,h];clear h)
   all_goals
    go_ret
    refine ⟨Ag ?_,b⟩;rw[Aa a];have hq:=Aa c;have i:text.toList.isEmpty=decide (text.size=0):=by rw[zP,zz,decide_eq_true_iff];exact Dd text
    have j:((nn:Int)== 0)=decide (nn=0):=by rw[zP];simp
    clear a g b d c0 c1 c2 c3 c4 f
    simp_all
    try omega
 by_cases u:op=3
 ·subst u;have a:=Ab ((Aa a).trans (by rw[if_neg (by omega),if_neg (by omega),if_pos rfl]));go_wp2
  all_goals
   go_ret
   refine ⟨Ag ?_,b⟩;rw[Aa a];have i:text.toList.isEmpty=decide (text.size=0):=by rw[zP,zz,decide_eq_true_iff];exact Dd text
   have j:((nn:Int)== 0)=decide (nn=0):=by rw[zP];simp
   clear a g b d c0 c1 c2 c3 c4 f
   simp_all
   try omega
 by_cases v:op=4
 ·subst v;have a:=Ab ((Aa a).trans (by rw[if_neg (by omega),if_neg (by omega),if_neg (by omega),if_pos rfl]));cases hq:JC names
  ·have c:=Ab hq;clear hq;go_wp2_with (go_at_call 130;refine (Oo _ _ _ _ _ d).mono ?_;rintro e w2 ⟨rfl,y⟩;rw[Aa c];have z:=b.trans (y.mono b.size))
   all_goals
    go_ret
    refine ⟨Ag ?_,z⟩;rw[Aa a];have hq:=Aa c;have i:text.toList.isEmpty=decide (text.size=0):=by rw[zP,zz,decide_eq_true_iff];exact Dd text
    have j:((nn:Int)== 0)=decide (nn=0):=by rw[zP];simp
    clear a g b d c0 c1 c2 c3 c4 f
    simp_all
    try omega
  ·have c:=Ab hq;clear hq;go_wp2_with (go_at_call 130;refine (Oo _ _ _ _ _ d).mono ?_;rintro e w2 ⟨rfl,y⟩;rw[Aa c];have z:=b.trans (y.mono b.size))
   all_goals
    go_ret
    refine ⟨Ag ?_,z⟩;rw[Aa a];have hq:=Aa c;have i:text.toList.isEmpty=decide (text.size=0):=by rw[zP,zz,decide_eq_true_iff];exact Dd text
    have j:((nn:Int)== 0)=decide (nn=0):=by rw[zP];simp
    clear a g b d c0 c1 c2 c3 c4 f
    simp_all
    try omega
 by_cases A:op=5
 ·subst A;have a:=Ab ((Aa a).trans (by rw[if_neg (by omega),if_neg (by omega),if_neg (by omega),if_neg (by omega),if_pos rfl]));cases hq:BD text
  ·have c:=Ab hq;clear hq;go_wp2_with (go_at_call 129;refine (DX _ _ hs).mono ?_;rintro e w2 ⟨rfl,h⟩;rw[Aa c,h];clear h)
   all_goals
    go_ret
    refine ⟨Ag ?_,b⟩;rw[Aa a];have hq:=Aa c;have i:text.toList.isEmpty=decide (text.size=0):=by rw[zP,zz,decide_eq_true_iff];exact Dd text
    have j:((nn:Int)== 0)=decide (nn=0):=by rw[zP];simp
    clear a g b d c0 c1 c2 c3 c4 f
    simp_all
    try omega
  ·have c:=Ab hq;clear hq;go_wp2_with (go_at_call 129;refine (DX _ _ hs).mono ?_;rintro e w2 ⟨rfl,h⟩;rw[Aa c,h];clear h)
   all_goals
    go_ret
    refine ⟨Ag ?_,b⟩;rw[Aa a];have hq:=Aa c;have i:text.toList.isEmpty=decide (text.size=0):=by rw[zP,zz,decide_eq_true_iff];exact Dd text
    have j:((nn:Int)== 0)=decide (nn=0):=by rw[zP];simp
    clear a g b d c0 c1 c2 c3 c4 f
    simp_all
    try omega
 by_cases C:op=6
 ·subst C;have a:=Ab ((Aa a).trans (by rw[if_neg (by omega),if_neg (by omega),if_neg (by omega),if_neg (by omega),if_neg (by omega),if_pos (by omega)]));go_wp2
  all_goals
   go_ret
   refine ⟨Ag ?_,b⟩;rw[Aa a];have i:text.toList.isEmpty=decide (text.size=0):=by rw[zP,zz,decide_eq_true_iff];exact Dd text
   have j:((nn:Int)== 0)=decide (nn=0):=by rw[zP];simp
   clear a g b d c0 c1 c2 c3 c4 f
   simp_all
   try omega
 by_cases E:op=7
 ·subst E;have a:=Ab ((Aa a).trans (by rw[if_neg (by omega),if_neg (by omega),if_neg (by omega),if_neg (by omega),if_neg (by omega),if_pos (by omega)]));go_wp2
  all_goals
   go_ret
   refine ⟨Ag ?_,b⟩;rw[Aa a];have i:text.toList.isEmpty=decide (text.size=0):=by rw[zP,zz,decide_eq_true_iff];exact Dd text
   have j:((nn:Int)== 0)=decide (nn=0):=by rw[zP];simp
   clear a g b d c0 c1 c2 c3 c4 f
   simp_all
   try omega
 have a:=Ab ((Aa a).trans (by rw[if_neg s,if_neg t,if_neg u,if_neg v,if_neg A,if_neg (by omega)]));have K:=zB.2 s;have L:=zB.2 t;have M:=zB.2 u;have N:=zB.2 v;have O:=zB.2 A;have P:=zB.2 C;have Q:=zB.2 E;go_wp2
 all_goals
  go_ret
  refine ⟨Ag ?_,b⟩;rw[Aa a];have i:text.toList.isEmpty=decide (text.size=0):=by rw[zP,zz,decide_eq_true_iff];exact Dd text
  have j:((nn:Int)== 0)=decide (nn=0):=by rw[zP];simp
  clear a g b d c0 c1 c2 c3 c4 f
  simp_all
  try omega
theorem Bv {w:World}{b:Nat}{a c d f:Value}{t:TypeId}(R:Al w b #[a,c,d,f] t):w.cell? ⟨b,0,none⟩=some a∧w.cell? ⟨b,1,none⟩=some c∧w.cell? ⟨b,2,none⟩=some d∧w.cell? ⟨b,3,none⟩=some f∧∀ j,w.frozen? ⟨b,j,none⟩=false:=
 ⟨by simpa using R.cell 0,by simpa using R.cell 1,by simpa using R.cell 2,by simpa using R.cell 3,fun j=>R.frozen j⟩
def stV (s:St):Value:= .agg #[.int .i64 s.kind,.string s.name,.int .i64 s.cond,.int .i64 s.grant]
theorem PH (s:St)(w:World)(hs:s.name.size≤1048576):
  Calls Tryz.prog 147 #[stV s] w fun e w'=>e= .returned (.bool (DL s))∧Below w.heap.size w w':=by
 obtain ⟨kind,name,cond,grant⟩:=s;simp only at hs;have d:=(Below.refl w.heap.size w).alloc NLN (.cells #[.int .i64 kind,.string name,.int .i64 cond,.int .i64 grant] 60);have a:=Ab (show DL ⟨kind,name,cond,grant⟩=(if kind=1 then BD name && decide (grant= -1) else if kind=2 then decide (name.size=0) else if kind=3 then decide (name.size=0) && decide (cond= -1) else false) from rfl);generalize DL ⟨kind,name,cond,grant⟩=j at a ⊢;unfold stV;have k:=Dd name;by_cases f:kind=1
 ·subst f;cases hq:BD name
  ·have b:=Ab hq;clear hq;go_enter Tryz.func147,Tryz.ntmps147
   go_wp2_with (go_at_call 129;refine (DX _ _ hs).mono ?_;rintro e w2 ⟨rfl,c⟩;rw[Aa b,c];clear c)
   all_goals
    go_ret
    refine ⟨Ag ?_,(Below.refl w.heap.size w).alloc NLN _⟩;rw[Aa a,Aa b];simp
  ·have b:=Ab hq;clear hq;go_enter Tryz.func147,Tryz.ntmps147
   go_wp2_with (go_at_call 129;refine (DX _ _ hs).mono ?_;rintro e w2 ⟨rfl,c⟩;rw[Aa b,c];clear c)
   all_goals
    go_ret
    refine ⟨Ag ?_,(Below.refl w.heap.size w).alloc NLN _⟩;rw[Aa a,Aa b];simp
    try rfl
 by_cases g:kind=2
 ·subst g;go_enter Tryz.func147,Tryz.ntmps147
  go_wp2
  all_goals
   go_ret
   refine ⟨Ag ?_,(Below.refl w.heap.size w).alloc NLN _⟩;rw[Aa a];have i:name.toList.isEmpty=decide (name.size=0):=by rw[zP,zz,decide_eq_true_iff];exact Dd name
   clear a d
   simp_all
 by_cases h:kind=3
 ·subst h;go_enter Tryz.func147,Tryz.ntmps147
  go_wp2
  all_goals
   go_ret
   refine ⟨Ag ?_,(Below.refl w.heap.size w).alloc NLN _⟩;rw[Aa a];have i:name.toList.isEmpty=decide (name.size=0):=by rw[zP,zz,decide_eq_true_iff];exact Dd name
   have l:(cond== -1)=decide (cond= -1):=rfl;clear a d
   simp_all
 have e1:=zB.2 f;have e2:=zB.2 g;have e3:=zB.2 h;go_enter Tryz.func147,Tryz.ntmps147
 go_wp2
 go_ret
 exact ⟨Ag (by rw[Aa a,if_neg f,if_neg g,if_neg h]),d⟩
structure KN (w:World) (a:Option Addr) (n c:Nat) (L:List St):Prop where
 len:L.length=n
 small:n≤1048576
 sizes:∀ s∈L,s.name.size≤1048576
 cells:∀ j,(h:j < L.length)→∃ b off,a=some ⟨b,off,none⟩∧b < w.heap.size∧w.cell? ⟨b,off+j * 4,none⟩=some (.int .i64 L[j].kind)∧w.cell? ⟨b,off+j * 4+1,none⟩=some (.string L[j].name)∧w.cell? ⟨b,off+j * 4+2,none⟩=some (.int .i64 L[j].cond)∧w.cell? ⟨b,off+j * 4+3,none⟩=some (.int .i64 L[j].grant)
theorem KN.below {w w':World}{B:Nat}{a:Option Addr}{n c:Nat}{L:List St}(h:KN w a n c L)(d:Below B w w')(hB:w.heap.size≤B):KN w' a n c L:=
 ⟨h.len,h.small,h.sizes,fun j i=>by
  obtain ⟨b,f,k,l,c0,c1,c2,c3⟩:=h.cells j i;have g:b < B:=by omega
  exact ⟨b,f,k,zM l d.size,(d.cell (p:=⟨b,f+j * 4,none⟩) g).trans c0,(d.cell (p:=⟨b,f+j * 4+1,none⟩) g).trans c1,(d.cell (p:=⟨b,f+j * 4+2,none⟩) g).trans c2,(d.cell (p:=⟨b,f+j * 4+3,none⟩) g).trans c3⟩⟩
def Sh (L:List St) (j:Nat) (h:j < L.length):Bool:=DL L[j] && (decide (L[j].kind=3)== decide (j+1=L.length))
theorem JJ:∀ (L:List St),CN L=true↔∀ j,(h:j < L.length)→Sh L j h=true
 | []=>by simp[CN]
 |s ::r=>by
  rw[CN,zI,JJ r];have e:r.isEmpty=decide (0+1=(s ::r).length):=by cases r <;> simp
  constructor
  ·rintro ⟨h1,h2⟩ j a;cases j with
   |zero=>rw[e] at h1;exact h1
   |succ j=>
    have:=h2 j (by simpa using a);rw[Sh] at this ⊢;simp only[List.getElem_cons_succ,List.length_cons] at this ⊢;rw[show decide (j+1+1=r.length+1)=decide (j+1=r.length) by rw[decide_eq_decide];omega];exact this
  ·intro h;refine ⟨by rw[e];exact h 0 (by simp),fun j a=>?_⟩;have:=h (j+1) (by simpa using a);rw[Sh] at this ⊢;simp only[List.getElem_cons_succ,List.length_cons] at this;rw[show decide (j+1+1=r.length+1)=decide (j+1=r.length) by rw[decide_eq_decide];omega] at this;exact this
theorem BS (s:St)(w:World)(hs:s.name.size≤1048576):
  Calls Tryz.prog 147 #[.agg #[.int .i64 s.kind,.string s.name,.int .i64 s.cond,.int .i64 s.grant]] w fun e w'=>e= .returned (.bool (DL s))∧Below w.heap.size w w':=PH s w hs
theorem Eo (a:Option Addr)(n c:Nat)(L:List St)(w:World)(h:KN w a n c L):
  Calls Tryz.prog 123 #[.slice a n c] w fun e w'=>e= .returned (.bool (decide (1≤n∧n≤600) && CN L))∧Below w.heap.size w w':=by
 have Y:=h.small;by_cases h1:n < 1
 ·have S:(n:Int) < 1:=by omega
  go_enter Tryz.func123,Tryz.ntmps123
  go_wp2
  go_ret
  exact ⟨Ag (by simp;omega),BRN⟩
 have S: ¬ ((n:Int) < 1):=by omega
 by_cases h6: 600 < n
 ·have T:(600 :Int) < (n:Int):=by omega
  go_enter Tryz.func123,Tryz.ntmps123
  go_wp2
  go_ret
  exact ⟨Ag (by simp;omega),BRN⟩
 have T: ¬ ((600 :Int) < (n:Int)):=by omega
 have v:=Ab (show decide (1≤n∧n≤600)=true from zW ⟨by omega,by omega⟩);have O:=h.len;have K:=Ab O;clear O;go_enter Tryz.func123,Tryz.ntmps123
 go_wp2_with fail
 go_loopw [16] (fun i wr=>∃ (k:Nat),k≤n∧i= .int .i64 k∧Below w.heap.size w wr∧∀ j,(t:j < L.length)→j < k→Sh L j t=true) (fun i _=>n - (intOf i).toNat)
 case atStart=>exact ⟨0,zF _,rfl,BRN,fun j t hk=>by omega⟩
 case round=>
  obtain ⟨k,hk,rfl,H,P⟩:=hrel;have M:=Ab P;clear P;by_cases Q:k < n
  ·have Z:(k:Int) < (n:Int):=by omega
   have B:k < L.length:=by rw[Aa K];exact Q
   obtain ⟨b,aa,rfl,ab,c0,c1,c2,c3⟩:=(h.below H NLN).cells k B;have q:=h.sizes L[k] (zO B);have r:=Ab (show Sh L k B=(DL L[k] && (decide (L[k].kind=3)== decide (k+1=n))) by rw[Sh,Aa K]);generalize L[k]=s at c0 c1 c2 c3 q r;have u:=Al.new wr #[.int .i64 s.kind,.string s.name,.int .i64 s.cond,.int .i64 s.grant] 60;have g:=H.alloc H.size (.cells #[.int .i64 s.kind,.string s.name,.int .i64 s.cond,.int .i64 s.grant] 60);have C:=Ab (show Sh L k B=false→CN L=false from fun e=>by
    rw[← Bool.not_eq_true,JJ];intro U;rw[U k B] at e;cases e)
   have R:=Ab (show Sh L k B=true→∀ j,(t:j < L.length)→j < k+1→Sh L j t=true from fun e j t ac=>by
    by_cases V:j=k
    ·subst V;exact e
    ·exact Aa M j t (by omega))
   clear M;have I:=Ab Q;by_cases J:k+1=n
   ·have W:((k:Int)==(n:Int) - 1)=true:=zN.2 (by omega);have E:=zW J;have F:=Ab E;clear J E;by_cases o:s.kind=3
    ·have e3:(s.kind== 3)=true:=zN.2 o;have d3:=zW o;have x:=Ab d3;clear o d3;cases d:DL s
     ·have p:=Ab (Aa C (by rw[Aa r,d];rfl));have l:=Ab d;clear d;go_wp2_with (go_at_call 147;refine (BS s _ q).mono ?_;rintro e w2 ⟨rfl,f⟩;rw[Aa l];have m:=u.after f NLN;obtain ⟨y,z,q2,q3,A⟩:=Bv m)
      go_ret
      exact ⟨Ag (by rw[Aa v,Aa p];rfl),g.trans (f.mono g.size)⟩
     ·have N:=Ab (Aa R (by rw[Aa r,d,Aa x,Aa F];rfl));have l:=Ab d;clear d;go_wp2_with (go_at_call 147;refine (BS s _ q).mono ?_;rintro e w2 ⟨rfl,f⟩;rw[Aa l];have m:=u.after f NLN;obtain ⟨y,z,q2,q3,A⟩:=Bv m)
      go_roundw
      case rel=>exact ⟨k+1,Aa I,by go_num,g.trans (f.mono g.size),Aa N⟩
      case measure=>have:=Aa I;simp[intOf];omega
    ·have e3:(s.kind== 3)=false:=zB.2 o;have d3:=zR o;have x:=Ab d3;clear o d3;cases d:DL s
     ·have p:=Ab (Aa C (by rw[Aa r,d];rfl));have l:=Ab d;clear d;go_wp2_with (go_at_call 147;refine (BS s _ q).mono ?_;rintro e w2 ⟨rfl,f⟩;rw[Aa l];have m:=u.after f NLN;obtain ⟨y,z,q2,q3,A⟩:=Bv m)
      go_ret
      exact ⟨Ag (by rw[Aa v,Aa p];rfl),g.trans (f.mono g.size)⟩
     ·have p:=Ab (Aa C (by rw[Aa r,d,Aa x,Aa F];rfl));have l:=Ab d;clear d;go_wp2_with (go_at_call 147;refine (BS s _ q).mono ?_;rintro e w2 ⟨rfl,f⟩;rw[Aa l];have m:=u.after f NLN;obtain ⟨y,z,q2,q3,A⟩:=Bv m)
      go_ret
      exact ⟨Ag (by rw[Aa v,Aa p];rfl),g.trans (f.mono g.size)⟩
   ·have W:((k:Int)==(n:Int) - 1)=false:=zB.2 (by omega);have E:=zR J;have F:=Ab E;clear J E;by_cases o:s.kind=3
    ·have e3:(s.kind== 3)=true:=zN.2 o;have d3:=zW o;have x:=Ab d3;clear o d3;cases d:DL s
     ·have p:=Ab (Aa C (by rw[Aa r,d];rfl));have l:=Ab d;clear d;go_wp2_with (go_at_call 147;refine (BS s _ q).mono ?_;rintro e w2 ⟨rfl,f⟩;rw[Aa l];have m:=u.after f NLN;obtain ⟨y,z,q2,q3,A⟩:=Bv m)
      go_ret
      exact ⟨Ag (by rw[Aa v,Aa p];rfl),g.trans (f.mono g.size)⟩
     ·have p:=Ab (Aa C (by rw[Aa r,d,Aa x,Aa F];rfl));have l:=Ab d;clear d;go_wp2_with (go_at_call 147;refine (BS s _ q).mono ?_;rintro e w2 ⟨rfl,f⟩;rw[Aa l];have m:=u.after f NLN;obtain ⟨y,z,q2,q3,A⟩:=Bv m)
      go_ret
      exact ⟨Ag (by rw[Aa v,Aa p];rfl),g.trans (f.mono g.size)⟩
    ·have e3:(s.kind== 3)=false:=zB.2 o;have d3:=zR o;have x:=Ab d3;clear o d3;cases d:DL s
     ·have p:=Ab (Aa C (by rw[Aa r,d];rfl));have l:=Ab d;clear d;go_wp2_with (go_at_call 147;refine (BS s _ q).mono ?_;rintro e w2 ⟨rfl,f⟩;rw[Aa l];have m:=u.after f NLN;obtain ⟨y,z,q2,q3,A⟩:=Bv m)
      go_ret
      exact ⟨Ag (by rw[Aa v,Aa p];rfl),g.trans (f.mono g.size)⟩
     ·have N:=Ab (Aa R (by rw[Aa r,d,Aa x,Aa F];rfl));have l:=Ab d;clear d;go_wp2_with (go_at_call 147;refine (BS s _ q).mono ?_;rintro e w2 ⟨rfl,f⟩;rw[Aa l];have m:=u.after f NLN;obtain ⟨y,z,q2,q3,A⟩:=Bv m)
      go_roundw
      case rel=>exact ⟨k+1,Aa I,by go_num,g.trans (f.mono g.size),Aa N⟩
      case measure=>have:=Aa I;simp[intOf];omega
  ·have e:k=n:=by omega
   subst e;have X:=Ab (show CN L=true from (JJ L).2 (fun j t=>Aa M j t (by have:=Aa K;omega)));go_wp2
   go_ret
   exact ⟨Ag (by rw[Aa v,Aa X];rfl),H⟩
theorem Jk:(Tryz.prog.info? 3).map (fun i=>(i.zero,i.size,i.bytes))=some (some (.int .i64 0),1,8):=by kernel_rfl
def Ar (L:List Int):List Value:=L.map (Value.int .i64)
theorem Bj (w:World)(v:Value)(t:TypeId)(b:Nat)(a:b=w.heap.size):∀ j u,([v]:List Value)[j]? =some u→(w.alloc (.cells #[v] t)).cell? ((⟨b,0,none⟩:Addr).add j)=some u:=fun j u h=>by
 subst a;have c:j=0:=by
  have:=(ze.1 h).1;simp at this;exact this
 subst c;rw[← h];simp[Addr.add]
theorem Wc (L:List St)(k:Nat)(h:k < L.length):(L.take (k+1)).flatMap Ak=(L.take k).flatMap Ak ++Ak L[k]:=by
 rw[zf h,List.flatMap_append];simp
theorem LM:∀ (L:List St),(L.flatMap Ak).length≤2 * L.length
 | []=>by simp
 |s ::r=>by
  have:=LM r;have h1:(Ak s).length≤2:=by unfold Ak;split <;> split <;> simp
  rw[zn,zA,List.length_cons];omega
theorem Al.grown {w w':World}{b:Nat}{cs:Array Value}{t:TypeId}{row:Option Nat}(h:Al w b cs t)(a:w.grownBy w' row)(c:some b=row→False):Al w' b cs t:=⟨(a.block b h.lt c).trans h.out⟩
theorem PI (a:Option Addr)(n c:Nat)(L:List St)(w:World)(h:KN w a n c L):
  Calls Tryz.prog 127 #[.slice a n c] w fun e w'=>∃ v,e= .returned v∧w'.ownsRow w.heap.size 3 1 v (L.flatMap Ak).length (Ar (L.flatMap Ak))∧Below w.heap.size w w':=by
 have Z:=h.small;have K:=h.len;have M:=Ab K;clear K;obtain ⟨i,hi,A,B,C⟩:=info_parts Jk;go_enter Tryz.func127,Tryz.ntmps127
 go_wp2_with fail
 go_loopw [3,8] (fun v i wr=>∃ k:Nat,k≤n∧i= .int .i64 k∧wr.ownsRow w.heap.size 3 1 v ((L.take k).flatMap Ak).length (Ar ((L.take k).flatMap Ak))∧Below w.heap.size w wr) (fun _ i _=>n - (intOf i).toNat)
 case atStart=>exact ⟨0,zF _,rfl,World.ownsRow_nil _ _ _ _,BRN⟩
 case round=>
  obtain ⟨k,hk,rfl,m,z⟩:=hrel;by_cases N:k < n
  ·have aa:(k:Int) < (n:Int):=by omega
   have O:k < L.length:=by rw[Aa M];exact N
   obtain ⟨b,ab,rfl,ac,c0,c1,c2,c3⟩:=(h.below z NLN).cells k O;have y:=Ab (Wc L k O);have F:=LM (L.take k);rw[zb] at F;have j:=Ab N;generalize L[k]=s at c0 c1 c2 c3 y;generalize (L.take k).flatMap Ak=Q at m F y;have ad:Q.length≤2 * 1048576:=by omega
   have P:=Al.new wr #[.int .i64 s.kind,.string s.name,.int .i64 s.cond,.int .i64 s.grant] 60;have E:=z.alloc z.size (.cells #[.int .i64 s.kind,.string s.name,.int .i64 s.cond,.int .i64 s.grant] 60);have o:=m.alloc (.cells #[.int .i64 s.kind,.string s.name,.int .i64 s.cond,.int .i64 s.grant] 60);have ae:(wr.alloc (.cells #[.int .i64 s.kind,.string s.name,.int .i64 s.cond,.int .i64 s.grant] 60)).heap.size=wr.heap.size+1:=by simp
   have af:=z.size;clear F;by_cases l:s.kind=3
   ·have e3:(s.kind != 3)=false:=by rw[l];rfl
    by_cases f:s.grant= -1
    ·have H:(s.grant != -1)=false:=by rw[f];rfl
     have p:=Ab (show Ak s= [] by rw[Ak,if_neg (by omega),if_neg (by omega)];rfl);clear l f;go_wp2_with fail
     go_roundw
     case rel=>exact ⟨k+1,Aa j,by go_num,by rw[Aa y,Aa p,zr];exact o,E⟩
     case measure=>have:=Aa j;simp[intOf];omega
    ·have H:(s.grant != -1)=true:=zS.2 f;have p:=Ab (show Ak s= [s.grant] by rw[Ak,if_neg (by omega),if_pos f];rfl);clear l f;go_wp2_with (at_builtin;refine wpList_append_own _ rfl _ _ 24 rfl w.heap.size 3 i (.int .i64 0) 1 8 Tryz.underlying24 hi A B C rfl (by decide) _ _ _ rfl (World.ownsRow.alloc o _) ⟨wr.heap.size+1,0,none⟩ 1 1 [.int .i64 s.grant] rfl rfl ?c1 ?c2 ?c3 ?c4 ?c5 ?_)
     case c1=>exact Bj _ _ _ _ (by simp)
     case c2=>intro u g;simp at g;subst g;rfl
     case c3=>skip;unfold maxLen;omega
     case c4=>skip;omega
     case c5=>simp;omega
     intro v' I r d _;have t:=(E.alloc (by omega) (.cells #[.int .i64 s.grant] 3)).grown d (by simp;omega) (fun q hq=>(o.lt q hq).1);skip;clear d;go_wp2_with fail
     go_roundw
     case rel=>exact ⟨k+1,Aa j,by go_num,by rw[Aa y,Aa p,Ar,zU,zA];exact r,t⟩
     case measure=>have:=Aa j;simp[intOf];omega
   ·have e3:(s.kind != 3)=true:=zS.2 l;by_cases f:s.grant= -1
    ·have H:(s.grant != -1)=false:=by rw[f];rfl
     have p:=Ab (show Ak s= [s.cond] by rw[Ak,if_pos l,if_neg (by omega)];rfl);clear l f;go_wp2_with (at_builtin;refine wpList_append_own _ rfl _ _ 24 rfl w.heap.size 3 i (.int .i64 0) 1 8 Tryz.underlying24 hi A B C rfl (by decide) _ _ _ rfl (World.ownsRow.alloc o _) ⟨wr.heap.size+1,0,none⟩ 1 1 [.int .i64 s.cond] rfl rfl ?c1 ?c2 ?c3 ?c4 ?c5 ?_)
     case c1=>exact Bj _ _ _ _ (by simp)
     case c2=>intro u g;simp at g;subst g;rfl
     case c3=>skip;unfold maxLen;omega
     case c4=>skip;omega
     case c5=>simp;omega
     intro v' I r d _;have t:=(E.alloc (by omega) (.cells #[.int .i64 s.cond] 3)).grown d (by simp;omega) (fun q hq=>(o.lt q hq).1);have J:=(P.alloc (.cells #[.int .i64 s.cond] 3)).grown d (fun e=>by have:=(m.lt _ e.symm).2;omega);have R:=t.size;obtain ⟨S,T,q2,q3,U⟩:=Bv J;clear d;go_wp2_with fail
     go_roundw
     case rel=>exact ⟨k+1,Aa j,by go_num,by rw[Aa y,Aa p,Ar,zU,zA];exact r,t⟩
     case measure=>have:=Aa j;simp[intOf];omega
    ·have H:(s.grant != -1)=true:=zS.2 f;have p:=Ab (show Ak s= [s.cond,s.grant] by rw[Ak,if_pos l,if_pos f];rfl);clear l f;go_wp2_with (at_builtin;refine wpList_append_own _ rfl _ _ 24 rfl w.heap.size 3 i (.int .i64 0) 1 8 Tryz.underlying24 hi A B C rfl (by decide) _ _ _ rfl (World.ownsRow.alloc o _) ⟨wr.heap.size+1,0,none⟩ 1 1 [.int .i64 s.cond] rfl rfl ?c1 ?c2 ?c3 ?c4 ?c5 ?_)
     case c1=>exact Bj _ _ _ _ (by simp)
     case c2=>intro u g;simp at g;subst g;rfl
     case c3=>skip;unfold maxLen;omega
     case c4=>skip;omega
     case c5=>simp;omega
     intro v' I r d _;have t:=(E.alloc (by omega) (.cells #[.int .i64 s.cond] 3)).grown d (by simp;omega) (fun q hq=>(o.lt q hq).1);have J:=(P.alloc (.cells #[.int .i64 s.cond] 3)).grown d (fun e=>by have:=(m.lt _ e.symm).2;omega);have R:=t.size;obtain ⟨S,T,q2,q3,U⟩:=Bv J;obtain ⟨ag,ah,V⟩:=CX r;subst V;clear d;go_wp2_with (at_builtin;refine wpList_append_own _ rfl _ _ 24 rfl w.heap.size 3 i (.int .i64 0) 1 8 Tryz.underlying24 hi A B C rfl (by decide) _ _ _ rfl (World.ownsRow.alloc r _) ⟨I.heap.size,0,none⟩ 1 1 [.int .i64 s.grant] rfl rfl ?c1 ?c2 ?c3 ?c4 ?c5 ?_)
     case c1=>exact Bj _ _ _ _ (by simp)
     case c2=>intro u g;simp at g;subst g;rfl
     case c3=>skip;unfold maxLen;omega
     case c4=>skip;omega
     case c5=>simp;omega
     intro ai aj W d _;have X:=(t.alloc (by omega) (.cells #[.int .i64 s.grant] 3)).grown d (by simp;omega) (fun q hq=>(r.lt q hq).1);skip;clear d;go_wp2_with fail
     go_roundw
     case rel=>exact ⟨k+1,Aa j,by go_num,by rw[Aa y,Aa p,Ar,zU,zA];simpa[Ar] using W,X⟩
     case measure=>have:=Aa j;simp[intOf];omega
  ·have e:k=n:=by omega
   subst e;have e2:L.take k=L:=zq (by rw[Aa M];exact NLN);rw[e2] at m;obtain ⟨x,ak,Y⟩:=CX m;subst Y;go_wp2
   go_ret
   exact ⟨_,rfl,m,z⟩
end Go.Proofs.YtchakjeegneeoaaGreatDoor
