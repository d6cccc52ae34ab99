/-
  VPA, VPB. Own work.
-/
import Derived.Test.YtdldimphcpojoaaGreatDoorMXAC
import Derived.Test.YtdldimphcpojoaaGreatDoorMXAG
import Derived.Deep.RegionHeld3
namespace Go.Proofs.YtdldimphcpojoaaGreatDoor
set_option maxHeartbeats 1600000
open Go.RowKit
set_option linter.unusedVariables false
theorem Um (p:UInt8→Bool)(r:List UInt8):AK p r=r.length↔r.all p=true:=by
 constructor
 ·intro h;have:=Dg p r
  rwa[h,List.take_length] at this
 ·intro h;have e:r.takeWhile p=r:=by
   induction r with
   | nil=>rfl
   | cons c r a=>
    rw[List.all_cons,Bool.and_eq_true] at h;rw[List.takeWhile_cons,if_pos h.1,a h.2]
  rw[AK,e]
theorem Un {s:ByteArray}(h0: 0 < s.size):Dt s=(decide (s.size≤32) && IG (s[0].toNat:Int) && decide (AK Ed (Ak s)=s.size) && !Gb (Ak s)):=by
 have h:=BJ s 0 h0;rw[List.drop_zero] at h;have hl:(Ak s).length=s.size:=As s;have a:decide (AK Ed (Ak s)=s.size)=(Ak s).all Ed:=by rw[← hl,Bool.eq_iff_iff,decide_eq_true_iff];exact Um Ed (Ak s)
 rw[a,← hl];generalize (Ak s).drop (0+1)=q at h;rw[Dt,h];rfl
theorem PM {s:ByteArray}(h0:s.size=0):Dt s=false:=by
 have:Ak s= []:=List.eq_nil_of_length_eq_zero (by rw[As];exact h0);rw[Dt,this]
theorem Dn (s:ByteArray)(w:World)(hs:s.size≤1048576):
  Calls Tryz.prog 105 #[.string s] w fun e w'=>e= .returned (.bool (Dt s))∧Below w.heap.size w w':=by
 by_cases h0:s.size=0
 ·have j: ¬ ((0 :Int) < (s.size:Int)):=by omega
  rw[PM h0];go_enter Tryz.func105,Tryz.ntmps105
  go_wp2
  go_ret
  exact ⟨rfl,BRN⟩
 have k: 0 < s.size:=by omega
 have j:(0 :Int) < (s.size:Int):=by omega
 have c:=Ab (Un k);by_cases f:s.size≤32
 case neg=>
  have l: ¬ ((s.size:Int)≤32):=by omega
  have n:(32 :Int) < (s.size:Int):=by omega
  go_enter Tryz.func105,Tryz.ntmps105
  go_wp2
  go_ret
  exact ⟨Ay (by rw[Aa c];simp[f]),BRN⟩
 have l:(s.size:Int)≤32:=by omega
 cases hl:IG (s[0].toNat:Int)
 ·have b:=Ab hl;clear hl;go_enter Tryz.func105,Tryz.ntmps105
  go_wp2_with (go_at_call 48;refine (AG _ _).mono ?_;rintro e w' ⟨rfl,a⟩;rw[Aa b,a];clear a)
  go_ret
  exact ⟨Ay (by rw[Aa c,Aa b];simp),BRN⟩
 have b:=Ab hl;clear hl;have g:=Ab (Gz Ed s);by_cases h:AK Ed (Ak s)=s.size
 ·have m:(((AK Ed (Ak s):Nat):Int)==(s.size:Int))=true:=beq_iff_eq.2 (by omega);go_enter Tryz.func105,Tryz.ntmps105
  go_wp2_with (first | (go_at_call 48;refine (AG _ _).mono ?_;rintro e w' ⟨rfl,a⟩;rw[Aa b,a];clear a) | (go_at_call 49;refine (Js s 0 _ (by unfold maxLen;omega) (by omega)).mono ?_;rintro e w' ⟨rfl,a⟩;rw[Aa g,a];clear a))
  refine (Lo s _).mono ?_;rintro e o ⟨rfl,i⟩;cases a:Gb (Ak s)
  ·have d:=Ab a;clear a;go_wp2
   go_ret
   exact ⟨Ay (by rw[Aa c,Aa b,Aa d];simp[f,h]),i⟩
  ·have d:=Ab a;clear a;go_wp2
   go_ret
   exact ⟨Ay (by rw[Aa c,Aa d];simp),i⟩
 ·have m:(((AK Ed (Ak s):Nat):Int)==(s.size:Int))=false:=beq_eq_false_iff_ne.2 (by omega);go_enter Tryz.func105,Tryz.ntmps105
  go_wp2_with (first | (go_at_call 48;refine (AG _ _).mono ?_;rintro e w' ⟨rfl,a⟩;rw[Aa b,a];clear a) | (go_at_call 49;refine (Js s 0 _ (by unfold maxLen;omega) (by omega)).mono ?_;rintro e w' ⟨rfl,a⟩;rw[Aa g,a];clear a))
  go_ret
  exact ⟨Ay (by rw[Aa c];simp[h]),BRN⟩
theorem Rt (s:ByteArray):DU s=(decide (s.size≤32) && JL s.data.toList):=rfl
theorem Rv (s:ByteArray):DU s=(decide (s.size=0) || vnB s):=by
 rw[Rt,vnB];by_cases h:s.size=0
 ·have e:=GK h;subst e;rfl
 ·rw[show decide (s.size=0)=false from decide_eq_false h,Bool.false_or,show decide (1≤s.size∧s.size≤32)=decide (s.size≤32) by rw[decide_eq_decide];omega]
theorem g0 (s:ByteArray)(w:World)(hs:s.size≤1048576):
  Calls Tryz.prog 116 #[.string s] w fun e w'=>e= .returned (.bool (DU s))∧w'=w:=by
 by_cases h0:s.size=0
 ·have e:=GK h0;subst e;go_enter Tryz.func116,Tryz.ntmps116
  go_wp2
  go_ret
  exact ⟨rfl,rfl⟩
 ·have c:=Ft h0;have b:=Ab (show DU s=vnB s by rw[Rv,decide_eq_false h0,Bool.false_or]);go_enter Tryz.func116,Tryz.ntmps116
  go_wp2_with (go_at_call 125;refine (EK _ _ (by unfold maxLen;omega)).mono ?_;rintro e w' ⟨rfl,a⟩;rw[a];clear a)
  go_ret
  exact ⟨Ay (Aa b).symm,rfl⟩
theorem Lt (op:Int)(w:World):
  Calls Tryz.prog 115 #[.int .i64 op] w fun e w'=>e= .returned (.int .i64 (GT op))∧w'=w:=by
 go_enter Tryz.func115,Tryz.ntmps115
 go_wp2
 all_goals
  go_ret
  refine ⟨Ek ?_,rfl⟩;unfold GT
  simp_all
  try omega
set_option maxRecDepth 100000
set_option maxHeartbeats 3200000
theorem Uo {w:World}{b:Nat}{a c d f g:Value}{t:TypeId}(R:An w b #[a,c,d,f,g] t):w.cell? ⟨b,0,none⟩=some a∧w.cell? ⟨b,1,none⟩=some c∧w.cell? ⟨b,2,none⟩=some d∧w.cell? ⟨b,3,none⟩=some f∧w.cell? ⟨b,4,none⟩=some g∧∀ j,w.frozen? ⟨b,j,none⟩=false:=
 ⟨by simpa using R.cell 0,by simpa using R.cell 1,by simpa using R.cell 2,by simpa using R.cell 3,by simpa using R.cell 4,fun j=>R.frozen j⟩
theorem Bg.drew' {w:World}{a:Option Addr}{n c:Nat}{b:List ByteArray}(h:Bg w a n c b):Bg w.drew a n c b:=⟨h.len,h.cap,h.small,h.sizes,h.cells⟩
theorem Rw (s:ByteArray):s.toList= []↔s.size=0:=by
 rw[ByteArray.toList_eq,← List.length_eq_zero_iff];have:s.data.toList.length=s.size:=by simp
 rw[this]
def Zf (op num:Int) (text:ByteArray) (an:Option Addr) (nn cn:Nat) (ak:Option Addr) (nk ck:Nat):Value:= .agg #[.int .i64 op,.int .i64 num,.string text,.slice an nn cn,.slice ak nk ck]
theorem IP (x:Nd)(an:Option Addr)(nn r:Nat)(s:Option Addr)(j t:Nat)(w:World)(E:Bg w an nn r x.names)(I:j=x.kids.length)(hs:x.text.size≤1048576)(hk:j≤1048576):
  Calls Tryz.prog 104 #[Zf x.op x.num x.text an nn r s j t,.bool false] w fun e w'=>e= .returned (.bool (By x))∧Below w.heap.size w w':=by
 have J:=E.len;obtain ⟨op,num,text,names,kids⟩:=x;simp only at E I hs J ⊢;have K:=An.new w #[.int .i64 op,.int .i64 num,.string text,.slice an nn r,.slice s j t] 114;have F:=(Below.refl w.heap.size w).alloc NLN (.cells #[.int .i64 op,.int .i64 num,.string text,.slice an nn r,.slice s j t] 114);have T:(w.alloc (.cells #[.int .i64 op,.int .i64 num,.string text,.slice an nn r,.slice s j t] 114)).heap.size=w.heap.size+1:=by simp
 have W:=Ab J;have X:=Ab I;clear J I;have a:=Ab (show By ⟨op,num,text,names,kids⟩=(decide ((kids.length:Int)=GT op) && (if op=1 then decide (0≤num) && decide (text.size=0) && decide (names.length=0) else if op=2 then DU text && decide (num=0) && decide (names.length=0) else if op=3 then decide (num=0∨num=1) && decide (text.size=0) && decide (names.length=0) else if op=4 then Le names && decide (num=0) && decide (text.size=0) else if op=5 then Dt text && decide (num=0) && decide (names.length=0) else if op=6∨op=7 then false else decide (num=0) && decide (text.size=0) && decide (names.length=0))) from rfl);rw[← Aa X,← Aa W] at a;generalize By ⟨op,num,text,names,kids⟩=aa at a ⊢;unfold Zf;go_enter Tryz.func104,Tryz.ntmps104
 go_wp2_with fail
 obtain ⟨c,c1,c2,c3,c4,d⟩:=Uo K;generalize w.alloc (.cells #[.int .i64 op,.int .i64 num,.string text,.slice an nn r,.slice s j t] 114)=v at *;by_cases y:(j:Int)=GT op
 case neg=>
  have ek:((j:Int) != GT op)=true:=bne_iff_ne.2 y;go_region_held3 (fun w'=>w'.cell? ⟨w.heap.size,4,none⟩=some (.slice s j t)∧w'.cell? ⟨w.heap.size,0,none⟩=some (.int .i64 op)) (go_keep)
   ((go_at_call 115;refine (Lt _ _).mono ?_;rintro e Y ⟨rfl,z⟩;rw[z];clear z))
  all_goals
   go_wp2
   go_ret
   exact ⟨Ay (by rw[Aa a,decide_eq_false y];rfl),F.drew⟩
 have ek:((j:Int) != GT op)=false:=by rw[y];simp
 have u:=Ab y;clear y;go_region_held3 (fun w'=>w'.cell? ⟨w.heap.size,4,none⟩=some (.slice s j t)∧w'.cell? ⟨w.heap.size,0,none⟩=some (.int .i64 op)) (go_keep)
  ((go_at_call 115;refine (Lt _ _).mono ?_;rintro e Y ⟨rfl,z⟩;rw[z];clear z))
 have h:An v.drew w.heap.size #[.int .i64 op,.int .i64 num,.string text,.slice an nn r,.slice s j t] 114:=⟨K.out⟩
 have b:Below w.heap.size w v.drew:=F.drew;have k:Bg v.drew an nn r names:=(E.below F NLN).drew';have L:v.drew.heap.size=w.heap.size+1:=T;clear K F c c1 c2 c3 c4 d E T;generalize v.drew=H at h b k L ⊢;have l:=h.alloc (.cells #[.int .i64 op,.int .i64 0,.string ⟨#[]⟩,.slice none 0 0,.slice none 0 0] 114);have g:=b.alloc (by omega) (.cells #[.int .i64 op,.int .i64 0,.string ⟨#[]⟩,.slice none 0 0,.slice none 0 0] 114);have m:=k.below ((Below.refl H.heap.size H).alloc NLN (.cells #[.int .i64 op,.int .i64 0,.string ⟨#[]⟩,.slice none 0 0,.slice none 0 0] 114)) NLN;have i:=An.new H #[.int .i64 op,.int .i64 0,.string ⟨#[]⟩,.slice none 0 0,.slice none 0 0] 114;rw[L] at i;have ab:(H.alloc (.cells #[.int .i64 op,.int .i64 0,.string ⟨#[]⟩,.slice none 0 0,.slice none 0 0] 114)).heap.size=w.heap.size+2:=by simp[L]
 obtain ⟨c,c1,c2,c3,c4,d⟩:=Uo h;have ac:=Rw text;by_cases M:op=1
 ·subst M;have a:=Ab ((Aa a).trans (by rw[decide_eq_true (Aa u),if_pos rfl,Bool.true_and]));go_wp2
  all_goals
   go_ret
   refine ⟨Ay ?_,b.alloc (by omega) _⟩;rw[Aa a];have o:((nn:Int)== 0)=decide (nn=0):=by rw[Bool.eq_iff_iff];simp
   clear a h l i b g k m c c1 c2 c3 c4 d
   simp_all
   try omega
 by_cases N:op=2
 ·subst N;have a:=Ab ((Aa a).trans (by rw[decide_eq_true (Aa u),if_neg (by omega),if_pos rfl,Bool.true_and]));cases hq:DU text
  ·have f:=Ab hq;clear hq;go_wp2_with (go_at_call 116;refine (g0 _ _ hs).mono ?_;rintro e w' ⟨rfl,n⟩;rw[Aa f,n];clear n)
   all_goals
    go_ret
    refine ⟨Ay ?_,b.alloc (by omega) _⟩;rw[Aa a];have hq:=Aa f;have o:((nn:Int)== 0)=decide (nn=0):=by rw[Bool.eq_iff_iff];simp
    clear a h l i b g k m c c1 c2 c3 c4 d
    simp_all
    try omega
  ·have f:=Ab hq;clear hq;go_wp2_with (go_at_call 116;refine (g0 _ _ hs).mono ?_;rintro e w' ⟨rfl,n⟩;rw[Aa f,n];clear n)
   all_goals
    go_ret
    refine ⟨Ay ?_,b.alloc (by omega) _⟩;rw[Aa a];have hq:=Aa f;have o:((nn:Int)== 0)=decide (nn=0):=by rw[Bool.eq_iff_iff];simp
    clear a h l i b g k m c c1 c2 c3 c4 d
    simp_all
    try omega
 by_cases O:op=3
 ·subst O;have a:=Ab ((Aa a).trans (by rw[decide_eq_true (Aa u),if_neg (by omega),if_neg (by omega),if_pos rfl,Bool.true_and]));go_wp2
  all_goals
   go_ret
   refine ⟨Ay ?_,b.alloc (by omega) _⟩;rw[Aa a];have o:((nn:Int)== 0)=decide (nn=0):=by rw[Bool.eq_iff_iff];simp
   clear a h l i b g k m c c1 c2 c3 c4 d
   simp_all
   try omega
 by_cases P:op=4
 ·subst P;have a:=Ab ((Aa a).trans (by rw[decide_eq_true (Aa u),if_neg (by omega),if_neg (by omega),if_neg (by omega),if_pos rfl,Bool.true_and]));cases hq:Le names
  ·have f:=Ab hq;clear hq;go_wp2_with (go_at_call 117;refine (Lh _ _ _ _ _ m).mono ?_;rintro e w' ⟨rfl,n⟩;rw[Aa f,n];clear n)
   all_goals
    go_ret
    refine ⟨Ay ?_,b.alloc (by omega) _⟩;rw[Aa a];have hq:=Aa f;have o:((nn:Int)== 0)=decide (nn=0):=by rw[Bool.eq_iff_iff];simp
    clear a h l i b g k m c c1 c2 c3 c4 d
    simp_all
    try omega
  ·have f:=Ab hq;clear hq;go_wp2_with (go_at_call 117;refine (Lh _ _ _ _ _ m).mono ?_;rintro e w' ⟨rfl,n⟩;rw[Aa f,n];clear n)
   all_goals
    go_ret
    refine ⟨Ay ?_,b.alloc (by omega) _⟩;rw[Aa a];have hq:=Aa f;have o:((nn:Int)== 0)=decide (nn=0):=by rw[Bool.eq_iff_iff];simp
    clear a h l i b g k m c c1 c2 c3 c4 d
    simp_all
    try omega
 by_cases Q:op=5
 ·subst Q;have a:=Ab ((Aa a).trans (by rw[decide_eq_true (Aa u),if_neg (by omega),if_neg (by omega),if_neg (by omega),if_neg (by omega),if_pos rfl,Bool.true_and]));cases hq:Dt text
  ·have f:=Ab hq;clear hq;go_wp2_with fail
   refine (Dn _ _ hs).mono ?_;rintro e Z ⟨rfl,q⟩;rw[Aa f];have A:=l.after q NLN;have B:=i.after q NLN;have C:=g.trans (q.mono g.size);clear h l i g k m c c1 c2 c3 c4 d q;obtain ⟨c,c1,c2,c3,c4,d⟩:=Uo A;obtain ⟨R,d1,d2,d3,d4,S⟩:=Uo B;go_wp2
   all_goals
    go_ret
    refine ⟨Ay ?_,C⟩;rw[Aa a];have hq:=Aa f;have o:((nn:Int)== 0)=decide (nn=0):=by rw[Bool.eq_iff_iff];simp
    clear a A B C b c c1 c2 c3 c4 d R d1 d2 d3 d4 S
    simp_all
    try omega
  ·have f:=Ab hq;clear hq;go_wp2_with fail
   refine (Dn _ _ hs).mono ?_;rintro e Z ⟨rfl,q⟩;rw[Aa f];have A:=l.after q NLN;have B:=i.after q NLN;have C:=g.trans (q.mono g.size);clear h l i g k m c c1 c2 c3 c4 d q;obtain ⟨c,c1,c2,c3,c4,d⟩:=Uo A;obtain ⟨R,d1,d2,d3,d4,S⟩:=Uo B;go_wp2
   all_goals
    go_ret
    refine ⟨Ay ?_,C.setCell (p:=⟨w.heap.size+1,2,none⟩) (by show w.heap.size≤w.heap.size+1;omega) _⟩;rw[Aa a];have hq:=Aa f;have o:((nn:Int)== 0)=decide (nn=0):=by rw[Bool.eq_iff_iff];simp
    clear a A B C b c c1 c2 c3 c4 d R d1 d2 d3 d4 S
    simp_all
    try omega
 by_cases U:op=6
 ·subst U;have a:=Ab ((Aa a).trans (by rw[decide_eq_true (Aa u),if_neg (by omega),if_neg (by omega),if_neg (by omega),if_neg (by omega),if_neg (by omega),if_pos (by omega),Bool.true_and]));go_wp2
  all_goals
   go_ret
   refine ⟨Ay ?_,b.alloc (by omega) _⟩;rw[Aa a];have o:((nn:Int)== 0)=decide (nn=0):=by rw[Bool.eq_iff_iff];simp
   clear a h l i b g k m c c1 c2 c3 c4 d
   simp_all
   try omega
 by_cases V:op=7
 ·subst V;have a:=Ab ((Aa a).trans (by rw[decide_eq_true (Aa u),if_neg (by omega),if_neg (by omega),if_neg (by omega),if_neg (by omega),if_neg (by omega),if_pos (by omega),Bool.true_and]));go_wp2
  all_goals
   go_ret
   refine ⟨Ay ?_,b.alloc (by omega) _⟩;rw[Aa a];have o:((nn:Int)== 0)=decide (nn=0):=by rw[Bool.eq_iff_iff];simp
   clear a h l i b g k m c c1 c2 c3 c4 d
   simp_all
   try omega
 have a:=Ab ((Aa a).trans (by rw[decide_eq_true (Aa u),if_neg M,if_neg N,if_neg O,if_neg P,if_neg Q,if_neg (by omega),Bool.true_and]));have ad:=beq_eq_false_iff_ne.2 M;have ae:=beq_eq_false_iff_ne.2 N;have af:=beq_eq_false_iff_ne.2 O;have ag:=beq_eq_false_iff_ne.2 P;have ah:=beq_eq_false_iff_ne.2 Q;have ai:=beq_eq_false_iff_ne.2 U;have aj:=beq_eq_false_iff_ne.2 V;go_wp2
 all_goals
  go_ret
  refine ⟨Ay ?_,b.alloc (by omega) _⟩;rw[Aa a];have o:((nn:Int)== 0)=decide (nn=0):=by rw[Bool.eq_iff_iff];simp
  clear a h l i b g k m c c1 c2 c3 c4 d
  simp_all
  try omega
end Go.Proofs.YtdldimphcpojoaaGreatDoor
