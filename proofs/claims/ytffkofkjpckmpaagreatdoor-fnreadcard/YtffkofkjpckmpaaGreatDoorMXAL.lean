/-
  VPA, VPB, VPC, VPE, VPF, VPG. Own work.
-/
import Derived.Test.YtffkofkjpckmpaaGreatDoorMXAF
import Derived.Test.YtffkofkjpckmpaaGreatDoorMXAK
import Derived.Deep.RegionHeld3
import Derived.Test.YtffkofkjpckmpaaGreatDoorMXAM
namespace Go.Proofs.YtffkofkjpckmpaaGreatDoor
set_option maxHeartbeats 1600000
open Go.RowKit
set_option linter.unusedVariables false
theorem XI (p:UInt8→Bool)(r:List UInt8):AR p r=r.length↔r.all p=true:=by
 constructor
 ·intro h;have:=Ep p r
  rwa[h,List.take_length] at this
 ·intro h;have e:r.takeWhile p=r:=by
   induction r with
   |nil=>rfl
   |cons c r a=>
    rw[z8,zE] at h;rw[List.takeWhile_cons,if_pos h.1,a h.2]
  rw[AR,e]
theorem PF {s:ByteArray}(h0: 0 < s.size):Bh s=(decide (s.size≤32) && I2 (s[0].toNat:Int) && decide (AR Dk (Aj s)=s.size) && !Fc (Aj s)):=by
 have h:=BI s 0 h0;rw[zm] at h;have hl:(Aj s).length=s.size:=At s;have a:decide (AR Dk (Aj s)=s.size)=(Aj s).all Dk:=by rw[← hl,zO,decide_eq_true_iff];exact XI Dk (Aj s)
 rw[a,← hl];generalize (Aj s).drop (0+1)=q at h;rw[Bh,h];rfl
theorem LL {s:ByteArray}(h0:s.size=0):Bh s=false:=by
 have:Aj s= []:=z7 (by rw[At];exact h0);rw[Bh,this]
theorem DL (s:ByteArray)(w:World)(hs:s.size≤1048576):
  Calls Tryz.prog 144 #[.string s] w fun e w'=>e= .returned (.bool (Bh s))∧Below w.heap.size w w':=by
 by_cases h0:s.size=0
 ·have j: ¬ ((0 :Int) < (s.size:Int)):=by omega
  rw[LL h0];go_enter Tryz.func144,Tryz.ntmps144
  go_wp2
  go_ret
  exact ⟨rfl,BRN⟩
 have hp: 0 < s.size:=by omega
 have j:(0 :Int) < (s.size:Int):=by omega
 have c:=Ab (PF hp);by_cases f:s.size≤32
 case neg=>
  have k: ¬ ((s.size:Int)≤32):=by omega
  have m:(32 :Int) < (s.size:Int):=by omega
  go_enter Tryz.func144,Tryz.ntmps144
  go_wp2
  go_ret
  exact ⟨Ah (by rw[Aa c];simp[f]),BRN⟩
 have k:(s.size:Int)≤32:=by omega
 cases hl:I2 (s[0].toNat:Int)
 ·have b:=Ab hl;clear hl;go_enter Tryz.func144,Tryz.ntmps144
  go_wp2_with (go_at_call 69;refine (A8 _ _).mono ?_;rintro e w' ⟨rfl,a⟩;rw[Aa b,a];clear a)
  go_ret
  exact ⟨Ah (by rw[Aa c,Aa b];simp),BRN⟩
 have b:=Ab hl;clear hl;have g:=Ab (IJ Dk s);by_cases h:AR Dk (Aj s)=s.size
 ·have l:(((AR Dk (Aj s):Nat):Int)==(s.size:Int))=true:=zI.2 (by omega);go_enter Tryz.func144,Tryz.ntmps144
  go_wp2_with (first | (go_at_call 69;refine (A8 _ _).mono ?_;rintro e w' ⟨rfl,a⟩;rw[Aa b,a];clear a) | (go_at_call 70;refine (La s 0 _ (by unfold maxLen;omega) (by omega)).mono ?_;rintro e w' ⟨rfl,a⟩;rw[Aa g,a];clear a))
  refine (Ny s _).mono ?_;rintro e n ⟨rfl,i⟩;cases a:Fc (Aj s)
  ·have d:=Ab a;clear a;go_wp2
   go_ret
   exact ⟨Ah (by rw[Aa c,Aa b,Aa d];simp[f,h]),i⟩
  ·have d:=Ab a;clear a;go_wp2
   go_ret
   exact ⟨Ah (by rw[Aa c,Aa d];simp),i⟩
 ·have l:(((AR Dk (Aj s):Nat):Int)==(s.size:Int))=false:=zA.2 (by omega);go_enter Tryz.func144,Tryz.ntmps144
  go_wp2_with (first | (go_at_call 69;refine (A8 _ _).mono ?_;rintro e w' ⟨rfl,a⟩;rw[Aa b,a];clear a) | (go_at_call 70;refine (La s 0 _ (by unfold maxLen;omega) (by omega)).mono ?_;rintro e w' ⟨rfl,a⟩;rw[Aa g,a];clear a))
  go_ret
  exact ⟨Ah (by rw[Aa c];simp[h]),BRN⟩
theorem Dx (s:ByteArray)(w:World)(hs:s.size≤1048576):
  Calls Tryz.prog 57 #[.string s] w fun e w'=>e= .returned (.bool (Bh s))∧w'=w:=by
 by_cases h0:s.size=0
 ·rw[LL h0];have he:=F7 h0;subst he;go_enter Tryz.func57,Tryz.ntmps57
  go_wp2
  go_ret
  exact ⟨rfl,rfl⟩
 have hp: 0 < s.size:=by omega
 have k:(0 :Int) < (s.size:Int):=by omega
 have l:=El h0;have c:=Ab (PF hp);by_cases f:s.size≤32
 case neg=>
  have i: ¬ ((s.size:Int)≤32):=by omega
  have m:(32 :Int) < (s.size:Int):=by omega
  go_enter Tryz.func57,Tryz.ntmps57
  go_wp2
  go_ret
  exact ⟨Ah (by rw[Aa c];simp[f]),rfl⟩
 have i:(s.size:Int)≤32:=by omega
 cases hl:I2 (s[0].toNat:Int)
 ·have b:=Ab hl;clear hl;go_enter Tryz.func57,Tryz.ntmps57
  go_wp2_with (go_at_call 104;refine (Bc _ _).mono ?_;rintro e w' ⟨rfl,a⟩;rw[Aa b,a];clear a)
  go_ret
  exact ⟨Ah (by rw[Aa c,Aa b];simp),rfl⟩
 have b:=Ab hl;clear hl;by_cases g:AR Dk (Aj s)=s.size
 ·have j:(((AR Dk (Aj s):Nat):Int)==(s.size:Int))=true:=zI.2 (by omega);go_enter Tryz.func57,Tryz.ntmps57
  go_wp2_with (first | (go_at_call 104;refine (Bc _ _).mono ?_;rintro e w' ⟨rfl,a⟩;rw[Aa b,a];clear a) | (go_at_call 105;refine (Nv s _ (by unfold maxLen;omega)).mono ?_;rintro e w' ⟨rfl,a⟩;rw[a];clear a))
  refine (NB s _).mono ?_;rintro e n ⟨rfl,h⟩;rw[h];clear h;cases a:Fc (Aj s)
  ·have d:=Ab a;clear a;go_wp2
   go_ret
   exact ⟨Ah (by rw[Aa c,Aa b,Aa d];simp[f,g]),rfl⟩
  ·have d:=Ab a;clear a;go_wp2
   go_ret
   exact ⟨Ah (by rw[Aa c,Aa d];simp),rfl⟩
 ·have j:(((AR Dk (Aj s):Nat):Int)==(s.size:Int))=false:=zA.2 (by omega);go_enter Tryz.func57,Tryz.ntmps57
  go_wp2_with (first | (go_at_call 104;refine (Bc _ _).mono ?_;rintro e w' ⟨rfl,a⟩;rw[Aa b,a];clear a) | (go_at_call 105;refine (Nv s _ (by unfold maxLen;omega)).mono ?_;rintro e w' ⟨rfl,a⟩;rw[a];clear a))
  go_ret
  exact ⟨Ah (by rw[Aa c];simp[g]),rfl⟩
theorem Ji (s:ByteArray):Bk s=(decide (s.size≤32) && I1 s.data.toList):=rfl
theorem U8 (s:ByteArray):Bk s=(decide (s.size=0) || vnB s):=by
 rw[Ji,vnB];by_cases h:s.size=0
 ·have e:=F7 h;subst e;rfl
 ·rw[show decide (s.size=0)=false from zK h,Bool.false_or,show decide (1≤s.size∧s.size≤32)=decide (s.size≤32) by rw[decide_eq_decide];omega]
theorem Kg (s:ByteArray)(w:World)(hs:s.size≤1048576):
  Calls Tryz.prog 159 #[.string s] w fun e w'=>e= .returned (.bool (Bk s))∧w'=w:=by
 by_cases h0:s.size=0
 ·have e:=F7 h0;subst e;go_enter Tryz.func159,Tryz.ntmps159
  go_wp2
  go_ret
  exact ⟨rfl,rfl⟩
 ·have c:=El h0;have b:=Ab (show Bk s=vnB s by rw[U8,zK h0,Bool.false_or]);go_enter Tryz.func159,Tryz.ntmps159
  go_wp2_with (go_at_call 170;refine (Fo _ _ (by unfold maxLen;omega)).mono ?_;rintro e w' ⟨rfl,a⟩;rw[a];clear a)
  go_ret
  exact ⟨Ah (Aa b).symm,rfl⟩
theorem NF (op:Int)(w:World):
  Calls Tryz.prog 158 #[.int .i64 op] w fun e w'=>e= .returned (.int .i64 (Eg op))∧w'=w:=by
 go_enter Tryz.func158,Tryz.ntmps158
 go_wp2
 all_goals
  go_ret
  refine ⟨ER ?_,rfl⟩;unfold Eg
  simp_all
  try omega
set_option maxRecDepth 100000
set_option maxHeartbeats 3200000
theorem QQ {w:World}{b:Nat}{a c d f g:Value}{t:TypeId}(R:Am w b #[a,c,d,f,g] t):w.cell? ⟨b,0,none⟩=some a∧w.cell? ⟨b,1,none⟩=some c∧w.cell? ⟨b,2,none⟩=some d∧w.cell? ⟨b,3,none⟩=some f∧w.cell? ⟨b,4,none⟩=some g∧∀ j,w.frozen? ⟨b,j,none⟩=false:=
 ⟨by simpa using R.cell 0,by simpa using R.cell 1,by simpa using R.cell 2,by simpa using R.cell 3,by simpa using R.cell 4,fun j=>R.frozen j⟩
theorem BL.drew' {w:World}{a:Option Addr}{n c:Nat}{b:List ByteArray}(h:BL w a n c b):BL w.drew a n c b:=⟨h.len,h.cap,h.small,h.sizes,h.cells⟩
theorem CQ (s:ByteArray):s.toList= []↔s.size=0:=by
 rw[zZ,← List.length_eq_zero_iff];have:s.data.toList.length=s.size:=by simp
 rw[this]
def ndV (op num:Int) (text:ByteArray) (an:Option Addr) (nn cn:Nat) (ak:Option Addr) (nk ck:Nat):Value:= .agg #[.int .i64 op,.int .i64 num,.string text,.slice an nn cn,.slice ak nk ck]
theorem Kh (x:Nd)(an:Option Addr)(nn r:Nat)(s:Option Addr)(j t:Nat)(w:World)(E:BL w an nn r x.names)(I:j=x.kids.length)(hs:x.text.size≤1048576)(hk:j≤1048576):
  Calls Tryz.prog 143 #[ndV x.op x.num x.text an nn r s j t,.bool false] w fun e w'=>e= .returned (.bool (Aw x))∧Below w.heap.size w w':=by
 have J:=E.len;obtain ⟨op,num,text,names,kids⟩:=x;simp only at E I hs J ⊢;have K:=Am.new w #[.int .i64 op,.int .i64 num,.string text,.slice an nn r,.slice s j t] 124;have F:=(Below.refl w.heap.size w).alloc NLN (.cells #[.int .i64 op,.int .i64 num,.string text,.slice an nn r,.slice s j t] 124);have T:(w.alloc (.cells #[.int .i64 op,.int .i64 num,.string text,.slice an nn r,.slice s j t] 124)).heap.size=w.heap.size+1:=by simp
 have W:=Ab J;have X:=Ab I;clear J I;have a:=Ab (show Aw ⟨op,num,text,names,kids⟩=(decide ((kids.length:Int)=Eg op) && (if op=1 then decide (0≤num) && decide (text.size=0) && decide (names.length=0) else if op=2 then Bk text && decide (num=0) && decide (names.length=0) else if op=3 then decide (num=0∨num=1) && decide (text.size=0) && decide (names.length=0) else if op=4 then EK names && decide (num=0) && decide (text.size=0) else if op=5 then Bh text && decide (num=0) && decide (names.length=0) else if op=6∨op=7 then false else decide (num=0) && decide (text.size=0) && decide (names.length=0))) from rfl);rw[← Aa X,← Aa W] at a;generalize Aw ⟨op,num,text,names,kids⟩=aa at a ⊢;unfold ndV;go_enter Tryz.func143,Tryz.ntmps143
 go_wp2_with fail
 obtain ⟨c,c1,c2,c3,c4,d⟩:=QQ K;generalize w.alloc (.cells #[.int .i64 op,.int .i64 num,.string text,.slice an nn r,.slice s j t] 124)=v at *;by_cases y:(j:Int)=Eg op
 case neg=>
  have ek:((j:Int) != Eg op)=true:=zw.2 y;go_region_held3 (fun w'=>w'.cell? ⟨w.heap.size,4,none⟩=some (.slice s j t)∧w'.cell? ⟨w.heap.size,0,none⟩=some (.int .i64 op)) (go_keep)
   ((go_at_call 158;refine (NF _ _).mono ?_;rintro e Y ⟨rfl,z⟩;rw[z];clear z))
  all_goals
   go_wp2
   go_ret
   exact ⟨Ah (by rw[Aa a,zK y];rfl),F.drew⟩
 have ek:((j:Int) != Eg op)=false:=by rw[y];simp
 have u:=Ab y;clear y;go_region_held3 (fun w'=>w'.cell? ⟨w.heap.size,4,none⟩=some (.slice s j t)∧w'.cell? ⟨w.heap.size,0,none⟩=some (.int .i64 op)) (go_keep)
  ((go_at_call 158;refine (NF _ _).mono ?_;rintro e Y ⟨rfl,z⟩;rw[z];clear z))
 have h:Am v.drew w.heap.size #[.int .i64 op,.int .i64 num,.string text,.slice an nn r,.slice s j t] 124:=⟨K.out⟩
 have b:Below w.heap.size w v.drew:=F.drew;have k:BL v.drew an nn r names:=(E.below F NLN).drew';have L:v.drew.heap.size=w.heap.size+1:=T;clear K F c c1 c2 c3 c4 d E T;generalize v.drew=H at h b k L ⊢;have l:=h.alloc (.cells #[.int .i64 op,.int .i64 0,.string ⟨#[]⟩,.slice none 0 0,.slice none 0 0] 124);have g:=b.alloc (by omega) (.cells #[.int .i64 op,.int .i64 0,.string ⟨#[]⟩,.slice none 0 0,.slice none 0 0] 124);have m:=k.below ((Below.refl H.heap.size H).alloc NLN (.cells #[.int .i64 op,.int .i64 0,.string ⟨#[]⟩,.slice none 0 0,.slice none 0 0] 124)) NLN;have i:=Am.new H #[.int .i64 op,.int .i64 0,.string ⟨#[]⟩,.slice none 0 0,.slice none 0 0] 124;rw[L] at i;have ab:(H.alloc (.cells #[.int .i64 op,.int .i64 0,.string ⟨#[]⟩,.slice none 0 0,.slice none 0 0] 124)).heap.size=w.heap.size+2:=by simp[L]
 obtain ⟨c,c1,c2,c3,c4,d⟩:=QQ h;have ac:=CQ text;by_cases M:op=1
 ·subst M;have a:=Ab ((Aa a).trans (by rw[zR (Aa u),if_pos rfl,z2]));go_wp2
  all_goals
   go_ret
   refine ⟨Ah ?_,b.alloc (by omega) _⟩;rw[Aa a];have o:((nn:Int)== 0)=decide (nn=0):=by rw[zO];simp
   clear a h l i b g k m c c1 c2 c3 c4 d
   simp_all
   try omega
 by_cases N:op=2
 ·subst N;have a:=Ab ((Aa a).trans (by rw[zR (Aa u),if_neg (by omega),if_pos rfl,z2]));cases hq:Bk text
  ·have f:=Ab hq;clear hq;go_wp2_with (go_at_call 159;refine (Kg _ _ hs).mono ?_;rintro e w' ⟨rfl,n⟩;rw[Aa f,n];clear n)
   all_goals
    go_ret
    refine ⟨Ah ?_,b.alloc (by omega) _⟩;rw[Aa a];have hq:=Aa f;have o:((nn:Int)== 0)=decide (nn=0):=by rw[zO];simp
    clear a h l i b g k m c c1 c2 c3 c4 d
    simp_all
    try omega
  ·have f:=Ab hq;clear hq;go_wp2_with (go_at_call 159;refine (Kg _ _ hs).mono ?_;rintro e w' ⟨rfl,n⟩;rw[Aa f,n];clear n)
   all_goals
    go_ret
    refine ⟨Ah ?_,b.alloc (by omega) _⟩;rw[Aa a];have hq:=Aa f;have o:((nn:Int)== 0)=decide (nn=0):=by rw[zO];simp
    clear a h l i b g k m c c1 c2 c3 c4 d
    simp_all
    try omega
 by_cases O:op=3
 ·subst O;have a:=Ab ((Aa a).trans (by rw[zR (Aa u),if_neg (by omega),if_neg (by omega),if_pos rfl,z2]));go_wp2
  all_goals
   go_ret
   refine ⟨Ah ?_,b.alloc (by omega) _⟩;rw[Aa a];have o:((nn:Int)== 0)=decide (nn=0):=by rw[zO];simp
   clear a h l i b g k m c c1 c2 c3 c4 d
   simp_all
   try omega
 by_cases P:op=4
 ·subst P;have a:=Ab ((Aa a).trans (by rw[zR (Aa u),if_neg (by omega),if_neg (by omega),if_neg (by omega),if_pos rfl,z2]));cases hq:EK names
  ·have f:=Ab hq;clear hq;go_wp2_with (go_at_call 160;refine (Nr _ _ _ _ _ m).mono ?_;rintro e w' ⟨rfl,n⟩;rw[Aa f,n];clear n)
   all_goals
    go_ret
    refine ⟨Ah ?_,b.alloc (by omega) _⟩;rw[Aa a];have hq:=Aa f;have o:((nn:Int)== 0)=decide (nn=0):=by rw[zO];simp
    clear a h l i b g k m c c1 c2 c3 c4 d
    simp_all
    try omega
  ·have f:=Ab hq;clear hq;go_wp2_with (go_at_call 160;refine (Nr _ _ _ _ _ m).mono ?_;rintro e w' ⟨rfl,n⟩;rw[Aa f,n];clear n)
   all_goals
    go_ret
    refine ⟨Ah ?_,b.alloc (by omega) _⟩;rw[Aa a];have hq:=Aa f;have o:((nn:Int)== 0)=decide (nn=0):=by rw[zO];simp
    clear a h l i b g k m c c1 c2 c3 c4 d
    simp_all
    try omega
 by_cases Q:op=5
 ·subst Q;have a:=Ab ((Aa a).trans (by rw[zR (Aa u),if_neg (by omega),if_neg (by omega),if_neg (by omega),if_neg (by omega),if_pos rfl,z2]));cases hq:Bh text
  ·have f:=Ab hq;clear hq;go_wp2_with fail
   refine (DL _ _ hs).mono ?_;rintro e Z ⟨rfl,q⟩;rw[Aa f];have A:=l.after q NLN;have B:=i.after q NLN;have C:=g.trans (q.mono g.size);clear h l i g k m c c1 c2 c3 c4 d q;obtain ⟨c,c1,c2,c3,c4,d⟩:=QQ A;obtain ⟨R,d1,d2,d3,d4,S⟩:=QQ B;go_wp2
   all_goals
    go_ret
    refine ⟨Ah ?_,C⟩;rw[Aa a];have hq:=Aa f;have o:((nn:Int)== 0)=decide (nn=0):=by rw[zO];simp
    clear a A B C b c c1 c2 c3 c4 d R d1 d2 d3 d4 S
    simp_all
    try omega
  ·have f:=Ab hq;clear hq;go_wp2_with fail
   refine (DL _ _ hs).mono ?_;rintro e Z ⟨rfl,q⟩;rw[Aa f];have A:=l.after q NLN;have B:=i.after q NLN;have C:=g.trans (q.mono g.size);clear h l i g k m c c1 c2 c3 c4 d q;obtain ⟨c,c1,c2,c3,c4,d⟩:=QQ A;obtain ⟨R,d1,d2,d3,d4,S⟩:=QQ B;go_wp2
   all_goals
    go_ret
    refine ⟨Ah ?_,C.setCell (p:=⟨w.heap.size+1,2,none⟩) (by show w.heap.size≤w.heap.size+1;omega) _⟩;rw[Aa a];have hq:=Aa f;have o:((nn:Int)== 0)=decide (nn=0):=by rw[zO];simp
    clear a A B C b c c1 c2 c3 c4 d R d1 d2 d3 d4 S
    simp_all
    try omega
 by_cases U:op=6
 ·subst U;have a:=Ab ((Aa a).trans (by rw[zR (Aa u),if_neg (by omega),if_neg (by omega),if_neg (by omega),if_neg (by omega),if_neg (by omega),if_pos (by omega),z2]));go_wp2
  all_goals
   go_ret
   refine ⟨Ah ?_,b.alloc (by omega) _⟩;rw[Aa a];have o:((nn:Int)== 0)=decide (nn=0):=by rw[zO];simp
   clear a h l i b g k m c c1 c2 c3 c4 d
   simp_all
   try omega
 by_cases V:op=7
 ·subst V;have a:=Ab ((Aa a).trans (by rw[zR (Aa u),if_neg (by omega),if_neg (by omega),if_neg (by omega),if_neg (by omega),if_neg (by omega),if_pos (by omega),z2]));go_wp2
  all_goals
   go_ret
   refine ⟨Ah ?_,b.alloc (by omega) _⟩;rw[Aa a];have o:((nn:Int)== 0)=decide (nn=0):=by rw[zO];simp
   clear a h l i b g k m c c1 c2 c3 c4 d
   simp_all
   try omega
 have a:=Ab ((Aa a).trans (by rw[zR (Aa u),if_neg M,if_neg N,if_neg O,if_neg P,if_neg Q,if_neg (by omega),z2]));have ad:=zA.2 M;have ae:=zA.2 N;have af:=zA.2 O;have ag:=zA.2 P;have ah:=zA.2 Q;have ai:=zA.2 U;have aj:=zA.2 V;go_wp2
 all_goals
  go_ret
  refine ⟨Ah ?_,b.alloc (by omega) _⟩;rw[Aa a];have o:((nn:Int)== 0)=decide (nn=0):=by rw[zO];simp
  clear a h l i b g k m c c1 c2 c3 c4 d
  simp_all
  try omega
def wfB (x:Nd):Bool:=
 if x.op=1 then decide (0≤x.num) && decide (x.text.size=0) && decide (x.names.length=0)
 else if x.op=2 then Bk x.text && decide (x.num=0) && decide (x.names.length=0)
 else if x.op=3 then decide (x.num=0∨x.num=1) && decide (x.text.size=0) && decide (x.names.length=0)
 else if x.op=4 then EK x.names && decide (x.num=0) && decide (x.text.size=0)
 else if x.op=5 then Bh x.text && decide (x.num=0) && decide (x.names.length=0)
 else if x.op=6∨x.op=7 then false
 else decide (x.num=0) && decide (x.text.size=0) && decide (x.names.length=0)
theorem NG (x:Nd):Aw x=(decide ((x.kids.length:Int)=Eg x.op) && wfB x):=rfl
theorem FT (x:Nd)(an:Option Addr)(nn l:Nat)(m:Option Addr)(n o:Nat)(w:World)(q:BL w an nn l x.names)(hs:x.text.size≤1048576):
  Calls Tryz.prog 23 #[ndV x.op x.num x.text an nn l m n o] w fun e w'=>e= .returned (.bool (wfB x))∧Below w.heap.size w w':=by
 have s:=q.len;obtain ⟨op,num,text,names,kids⟩:=x;simp only at q hs s ⊢;have t:=Am.new w #[.int .i64 op,.int .i64 num,.string text,.slice an nn l,.slice m n o] 124;have u:=(Below.refl w.heap.size w).alloc NLN (.cells #[.int .i64 op,.int .i64 num,.string text,.slice an nn l,.slice m n o] 124);have F:=q.below u NLN;have J:=Ab s;clear s;have a:=Ab (show wfB ⟨op,num,text,names,kids⟩=(if op=1 then decide (0≤num) && decide (text.size=0) && decide (names.length=0) else if op=2 then Bk text && decide (num=0) && decide (names.length=0) else if op=3 then decide (num=0∨num=1) && decide (text.size=0) && decide (names.length=0) else if op=4 then EK names && decide (num=0) && decide (text.size=0) else if op=5 then Bh text && decide (num=0) && decide (names.length=0) else if op=6∨op=7 then false else decide (num=0) && decide (text.size=0) && decide (names.length=0)) from rfl);rw[← Aa J] at a;generalize wfB ⟨op,num,text,names,kids⟩=K at a ⊢;unfold ndV;have L:=CQ text;obtain ⟨f,c1,c2,c3,c4,g⟩:=QQ t;go_enter Tryz.func23,Tryz.ntmps23
 go_wp2_with fail
 generalize w.alloc (.cells #[.int .i64 op,.int .i64 num,.string text,.slice an nn l,.slice m n o] 124)=r at *;go_region
 have h:Am r.drew w.heap.size #[.int .i64 op,.int .i64 num,.string text,.slice an nn l,.slice m n o] 124:=⟨t.out⟩
 have b:Below w.heap.size w r.drew:=u.drew;have d:BL r.drew an nn l names:=F.drew';clear t u F f c1 c2 c3 c4 g q;generalize r.drew=M at h b d ⊢;obtain ⟨f,c1,c2,c3,c4,g⟩:=QQ h;by_cases v:op=1
 ·subst v;have a:=Ab ((Aa a).trans (by rw[if_pos rfl]));go_wp2
  all_goals
   go_ret
   refine ⟨Ah ?_,b⟩;rw[Aa a];have j:text.toList.isEmpty=decide (text.size=0):=by rw[zO,zz,decide_eq_true_iff];exact CQ text
   have k:((nn:Int)== 0)=decide (nn=0):=by rw[zO];simp
   clear a h b d f c1 c2 c3 c4 g
   simp_all
   try omega
 by_cases y:op=2
 ·subst y;have a:=Ab ((Aa a).trans (by rw[if_neg (by omega),if_pos rfl]));cases hq:Bk text
  ·have c:=Ab hq;clear hq;go_wp2_with (go_at_call 56;refine (FY _ _ (by unfold maxLen;omega)).mono ?_;rintro e p ⟨rfl,i⟩;rw[← Ji,Aa c,i];clear i)
   all_goals
    go_ret
    refine ⟨Ah ?_,b⟩;rw[Aa a];have hq:=Aa c;have j:text.toList.isEmpty=decide (text.size=0):=by rw[zO,zz,decide_eq_true_iff];exact CQ text
    have k:((nn:Int)== 0)=decide (nn=0):=by rw[zO];simp
    clear a h b d f c1 c2 c3 c4 g
    simp_all
    try omega
  ·have c:=Ab hq;clear hq;go_wp2_with (go_at_call 56;refine (FY _ _ (by unfold maxLen;omega)).mono ?_;rintro e p ⟨rfl,i⟩;rw[← Ji,Aa c,i];clear i)
   all_goals
    go_ret
    refine ⟨Ah ?_,b⟩;rw[Aa a];have hq:=Aa c;have j:text.toList.isEmpty=decide (text.size=0):=by rw[zO,zz,decide_eq_true_iff];exact CQ text
    have k:((nn:Int)== 0)=decide (nn=0):=by rw[zO];simp
    clear a h b d f c1 c2 c3 c4 g
    simp_all
    try omega
 by_cases z:op=3
 ·subst z;have a:=Ab ((Aa a).trans (by rw[if_neg (by omega),if_neg (by omega),if_pos rfl]));go_wp2
  all_goals
   go_ret
   refine ⟨Ah ?_,b⟩;rw[Aa a];have j:text.toList.isEmpty=decide (text.size=0):=by rw[zO,zz,decide_eq_true_iff];exact CQ text
   have k:((nn:Int)== 0)=decide (nn=0):=by rw[zO];simp
   clear a h b d f c1 c2 c3 c4 g
   simp_all
   try omega
 by_cases A:op=4
 ·subst A;have a:=Ab ((Aa a).trans (by rw[if_neg (by omega),if_neg (by omega),if_neg (by omega),if_pos rfl]));cases hq:EK names
  ·have c:=Ab hq;clear hq;go_wp2_with (go_at_call 58;refine (Nq _ _ _ _ _ d).mono ?_;rintro e p ⟨rfl,B⟩;rw[Aa c];have C:=b.trans (B.mono b.size))
   all_goals
    go_ret
    refine ⟨Ah ?_,C⟩;rw[Aa a];have hq:=Aa c;have j:text.toList.isEmpty=decide (text.size=0):=by rw[zO,zz,decide_eq_true_iff];exact CQ text
    have k:((nn:Int)== 0)=decide (nn=0):=by rw[zO];simp
    clear a h b d f c1 c2 c3 c4 g
    simp_all
    try omega
  ·have c:=Ab hq;clear hq;go_wp2_with (go_at_call 58;refine (Nq _ _ _ _ _ d).mono ?_;rintro e p ⟨rfl,B⟩;rw[Aa c];have C:=b.trans (B.mono b.size))
   all_goals
    go_ret
    refine ⟨Ah ?_,C⟩;rw[Aa a];have hq:=Aa c;have j:text.toList.isEmpty=decide (text.size=0):=by rw[zO,zz,decide_eq_true_iff];exact CQ text
    have k:((nn:Int)== 0)=decide (nn=0):=by rw[zO];simp
    clear a h b d f c1 c2 c3 c4 g
    simp_all
    try omega
 by_cases E:op=5
 ·subst E;have a:=Ab ((Aa a).trans (by rw[if_neg (by omega),if_neg (by omega),if_neg (by omega),if_neg (by omega),if_pos rfl]));cases hq:Bh text
  ·have c:=Ab hq;clear hq;go_wp2_with (go_at_call 57;refine (Dx _ _ hs).mono ?_;rintro e p ⟨rfl,i⟩;rw[Aa c,i];clear i)
   all_goals
    go_ret
    refine ⟨Ah ?_,b⟩;rw[Aa a];have hq:=Aa c;have j:text.toList.isEmpty=decide (text.size=0):=by rw[zO,zz,decide_eq_true_iff];exact CQ text
    have k:((nn:Int)== 0)=decide (nn=0):=by rw[zO];simp
    clear a h b d f c1 c2 c3 c4 g
    simp_all
    try omega
  ·have c:=Ab hq;clear hq;go_wp2_with (go_at_call 57;refine (Dx _ _ hs).mono ?_;rintro e p ⟨rfl,i⟩;rw[Aa c,i];clear i)
   all_goals
    go_ret
    refine ⟨Ah ?_,b⟩;rw[Aa a];have hq:=Aa c;have j:text.toList.isEmpty=decide (text.size=0):=by rw[zO,zz,decide_eq_true_iff];exact CQ text
    have k:((nn:Int)== 0)=decide (nn=0):=by rw[zO];simp
    clear a h b d f c1 c2 c3 c4 g
    simp_all
    try omega
 by_cases H:op=6
 ·subst H;have a:=Ab ((Aa a).trans (by rw[if_neg (by omega),if_neg (by omega),if_neg (by omega),if_neg (by omega),if_neg (by omega),if_pos (by omega)]));go_wp2
  all_goals
   go_ret
   refine ⟨Ah ?_,b⟩;rw[Aa a];have j:text.toList.isEmpty=decide (text.size=0):=by rw[zO,zz,decide_eq_true_iff];exact CQ text
   have k:((nn:Int)== 0)=decide (nn=0):=by rw[zO];simp
   clear a h b d f c1 c2 c3 c4 g
   simp_all
   try omega
 by_cases I:op=7
 ·subst I;have a:=Ab ((Aa a).trans (by rw[if_neg (by omega),if_neg (by omega),if_neg (by omega),if_neg (by omega),if_neg (by omega),if_pos (by omega)]));go_wp2
  all_goals
   go_ret
   refine ⟨Ah ?_,b⟩;rw[Aa a];have j:text.toList.isEmpty=decide (text.size=0):=by rw[zO,zz,decide_eq_true_iff];exact CQ text
   have k:((nn:Int)== 0)=decide (nn=0):=by rw[zO];simp
   clear a h b d f c1 c2 c3 c4 g
   simp_all
   try omega
 have a:=Ab ((Aa a).trans (by rw[if_neg v,if_neg y,if_neg z,if_neg A,if_neg E,if_neg (by omega)]));have N:=zA.2 v;have O:=zA.2 y;have P:=zA.2 z;have Q:=zA.2 A;have R:=zA.2 E;have S:=zA.2 H;have T:=zA.2 I;go_wp2
 all_goals
  go_ret
  refine ⟨Ah ?_,b⟩;rw[Aa a];have j:text.toList.isEmpty=decide (text.size=0):=by rw[zO,zz,decide_eq_true_iff];exact CQ text
  have k:((nn:Int)== 0)=decide (nn=0):=by rw[zO];simp
  clear a h b d f c1 c2 c3 c4 g
  simp_all
  try omega
theorem DM {w:World}{b:Nat}{a c d f:Value}{t:TypeId}(R:Am w b #[a,c,d,f] t):w.cell? ⟨b,0,none⟩=some a∧w.cell? ⟨b,1,none⟩=some c∧w.cell? ⟨b,2,none⟩=some d∧w.cell? ⟨b,3,none⟩=some f∧∀ j,w.frozen? ⟨b,j,none⟩=false:=
 ⟨by simpa using R.cell 0,by simpa using R.cell 1,by simpa using R.cell 2,by simpa using R.cell 3,fun j=>R.frozen j⟩
def stV (s:St):Value:= .agg #[.int .i64 s.kind,.string s.name,.int .i64 s.cond,.int .i64 s.grant]
theorem OA (s:St)(w:World)(hs:s.name.size≤1048576):
  Calls Tryz.prog 101 #[stV s] w fun e w'=>e= .returned (.bool (CT s))∧Below w.heap.size w w':=by
 obtain ⟨kind,name,cond,grant⟩:=s;simp only at hs;have d:=(Below.refl w.heap.size w).alloc NLN (.cells #[.int .i64 kind,.string name,.int .i64 cond,.int .i64 grant] 51);have a:=Ab (show CT ⟨kind,name,cond,grant⟩=(if kind=1 then Bh name && decide (grant= -1) else if kind=2 then decide (name.size=0) else if kind=3 then decide (name.size=0) && decide (cond= -1) else false) from rfl);generalize CT ⟨kind,name,cond,grant⟩=k at a ⊢;unfold stV;have l:=CQ name;by_cases f:kind=1
 ·subst f;cases hq:Bh name
  ·have b:=Ab hq;clear hq;go_enter Tryz.func101,Tryz.ntmps101
   go_wp2_with (go_at_call 57;refine (Dx _ _ hs).mono ?_;rintro e i ⟨rfl,c⟩;rw[Aa b,c];clear c)
   all_goals
    go_ret
    refine ⟨Ah ?_,(Below.refl w.heap.size w).alloc NLN _⟩;rw[Aa a,Aa b];simp
  ·have b:=Ab hq;clear hq;go_enter Tryz.func101,Tryz.ntmps101
   go_wp2_with (go_at_call 57;refine (Dx _ _ hs).mono ?_;rintro e i ⟨rfl,c⟩;rw[Aa b,c];clear c)
   all_goals
    go_ret
    refine ⟨Ah ?_,(Below.refl w.heap.size w).alloc NLN _⟩;rw[Aa a,Aa b];simp
    try rfl
 by_cases g:kind=2
 ·subst g;go_enter Tryz.func101,Tryz.ntmps101
  go_wp2
  all_goals
   go_ret
   refine ⟨Ah ?_,(Below.refl w.heap.size w).alloc NLN _⟩;rw[Aa a];have j:name.toList.isEmpty=decide (name.size=0):=by rw[zO,zz,decide_eq_true_iff];exact CQ name
   clear a d
   simp_all
 by_cases h:kind=3
 ·subst h;go_enter Tryz.func101,Tryz.ntmps101
  go_wp2
  all_goals
   go_ret
   refine ⟨Ah ?_,(Below.refl w.heap.size w).alloc NLN _⟩;rw[Aa a];have j:name.toList.isEmpty=decide (name.size=0):=by rw[zO,zz,decide_eq_true_iff];exact CQ name
   have m:(cond== -1)=decide (cond= -1):=rfl;clear a d
   simp_all
 have e1:=zA.2 f;have e2:=zA.2 g;have e3:=zA.2 h;go_enter Tryz.func101,Tryz.ntmps101
 go_wp2
 go_ret
 exact ⟨Ah (by rw[Aa a,if_neg f,if_neg g,if_neg h]),d⟩
structure PO (w:World) (a:Option Addr) (n c:Nat) (L:List St):Prop where
 len:L.length=n
 small:n≤1048576
 sizes:∀ s∈L,s.name.size≤1048576
 cells:∀ j,(h:j < L.length)→∃ b off,a=some ⟨b,off,none⟩∧b < w.heap.size∧w.cell? ⟨b,off+j * 4,none⟩=some (.int .i64 L[j].kind)∧w.cell? ⟨b,off+j * 4+1,none⟩=some (.string L[j].name)∧w.cell? ⟨b,off+j * 4+2,none⟩=some (.int .i64 L[j].cond)∧w.cell? ⟨b,off+j * 4+3,none⟩=some (.int .i64 L[j].grant)
theorem PO.below {w w':World}{B:Nat}{a:Option Addr}{n c:Nat}{L:List St}(h:PO w a n c L)(d:Below B w w')(m:w.heap.size≤B):PO w' a n c L:=
 ⟨h.len,h.small,h.sizes,fun j i=>by
  obtain ⟨b,f,k,hl,l,c1,c2,c3⟩:=h.cells j i;have g:b < B:=by omega
  exact ⟨b,f,k,zY hl d.size,(d.cell (p:=⟨b,f+j * 4,none⟩) g).trans l,(d.cell (p:=⟨b,f+j * 4+1,none⟩) g).trans c1,(d.cell (p:=⟨b,f+j * 4+2,none⟩) g).trans c2,(d.cell (p:=⟨b,f+j * 4+3,none⟩) g).trans c3⟩⟩
def QU (L:List St) (j:Nat) (h:j < L.length):Bool:=CT L[j] && (decide (L[j].kind=3)== decide (j+1=L.length))
theorem Jj:∀ (L:List St),BK L=true↔∀ j,(h:j < L.length)→QU L j h=true
 | []=>by simp[BK]
 |s ::r=>by
  rw[BK,zE,Jj r];have e:r.isEmpty=decide (0+1=(s ::r).length):=by cases r <;> simp
  constructor
  ·rintro ⟨h1,h2⟩ j a;cases j with
   |zero=>rw[e] at h1;exact h1
   |succ j=>
    have:=h2 j (by simpa using a);rw[QU] at this ⊢;simp only[List.getElem_cons_succ,List.length_cons] at this ⊢;rw[show decide (j+1+1=r.length+1)=decide (j+1=r.length) by rw[decide_eq_decide];omega];exact this
  ·intro h;refine ⟨by rw[e];exact h 0 (by simp),fun j a=>?_⟩;have:=h (j+1) (by simpa using a);rw[QU] at this ⊢;simp only[List.getElem_cons_succ,List.length_cons] at this;rw[show decide (j+1+1=r.length+1)=decide (j+1=r.length) by rw[decide_eq_decide];omega] at this;exact this
theorem BW (s:St)(w:World)(hs:s.name.size≤1048576):
  Calls Tryz.prog 101 #[.agg #[.int .i64 s.kind,.string s.name,.int .i64 s.cond,.int .i64 s.grant]] w fun e w'=>e= .returned (.bool (CT s))∧Below w.heap.size w w':=OA s w hs
theorem DY (a:Option Addr)(n c:Nat)(L:List St)(w:World)(h:PO w a n c L):
  Calls Tryz.prog 51 #[.slice a n c] w fun e w'=>e= .returned (.bool (decide (1≤n∧n≤600) && BK L))∧Below w.heap.size w w':=by
 have Z:=h.small;by_cases h1:n < 1
 ·have S:(n:Int) < 1:=by omega
  go_enter Tryz.func51,Tryz.ntmps51
  go_wp2
  go_ret
  exact ⟨Ah (by simp;omega),BRN⟩
 have S: ¬ ((n:Int) < 1):=by omega
 by_cases h6: 600 < n
 ·have T:(600 :Int) < (n:Int):=by omega
  go_enter Tryz.func51,Tryz.ntmps51
  go_wp2
  go_ret
  exact ⟨Ah (by simp;omega),BRN⟩
 have T: ¬ ((600 :Int) < (n:Int)):=by omega
 have v:=Ab (show decide (1≤n∧n≤600)=true from zR ⟨by omega,by omega⟩);have hl:=h.len;have M:=Ab hl;clear hl;go_enter Tryz.func51,Tryz.ntmps51
 go_wp2_with fail
 go_loopw [16] (fun i wr=>∃ (k:Nat),k≤n∧i= .int .i64 k∧Below w.heap.size w wr∧∀ j,(t:j < L.length)→j < k→QU L j t=true) (fun i _=>n - (intOf i).toNat)
 case atStart=>exact ⟨0,zN _,rfl,BRN,fun j t hk=>by omega⟩
 case round=>
  obtain ⟨k,hk,rfl,I,P⟩:=hrel;have N:=Ab P;clear P;by_cases Q:k < n
  ·have aa:(k:Int) < (n:Int):=by omega
   have C:k < L.length:=by rw[Aa M];exact Q
   obtain ⟨b,ab,rfl,ac,U,c1,c2,c3⟩:=(h.below I NLN).cells k C;have q:=h.sizes L[k] (zP C);have r:=Ab (show QU L k C=(CT L[k] && (decide (L[k].kind=3)== decide (k+1=n))) by rw[QU,Aa M]);generalize L[k]=s at U c1 c2 c3 q r;have u:=Am.new wr #[.int .i64 s.kind,.string s.name,.int .i64 s.cond,.int .i64 s.grant] 51;have g:=I.alloc I.size (.cells #[.int .i64 s.kind,.string s.name,.int .i64 s.cond,.int .i64 s.grant] 51);have E:=Ab (show QU L k C=false→BK L=false from fun e=>by
    rw[← Bool.not_eq_true,Jj];intro V;rw[V k C] at e;cases e)
   have R:=Ab (show QU L k C=true→∀ j,(t:j < L.length)→j < k+1→QU L j t=true from fun e j t ad=>by
    by_cases W:j=k
    ·subst W;exact e
    ·exact Aa N j t (by omega))
   clear N;have J:=Ab Q;by_cases K:k+1=n
   ·have X:((k:Int)==(n:Int) - 1)=true:=zI.2 (by omega);have F:=zR K;have H:=Ab F;clear K F;by_cases o:s.kind=3
    ·have e3:(s.kind== 3)=true:=zI.2 o;have d3:=zR o;have x:=Ab d3;clear o d3;cases d:CT s
     ·have p:=Ab (Aa E (by rw[Aa r,d];rfl));have l:=Ab d;clear d;go_wp2_with (go_at_call 101;refine (BW s _ q).mono ?_;rintro e y ⟨rfl,f⟩;rw[Aa l];have m:=u.after f NLN;obtain ⟨z,A,q2,q3,B⟩:=DM m)
      go_ret
      exact ⟨Ah (by rw[Aa v,Aa p];rfl),g.trans (f.mono g.size)⟩
     ·have O:=Ab (Aa R (by rw[Aa r,d,Aa x,Aa H];rfl));have l:=Ab d;clear d;go_wp2_with (go_at_call 101;refine (BW s _ q).mono ?_;rintro e y ⟨rfl,f⟩;rw[Aa l];have m:=u.after f NLN;obtain ⟨z,A,q2,q3,B⟩:=DM m)
      go_roundw
      case rel=>exact ⟨k+1,Aa J,by go_num,g.trans (f.mono g.size),Aa O⟩
      case measure=>have:=Aa J;simp[intOf];omega
    ·have e3:(s.kind== 3)=false:=zA.2 o;have d3:=zK o;have x:=Ab d3;clear o d3;cases d:CT s
     ·have p:=Ab (Aa E (by rw[Aa r,d];rfl));have l:=Ab d;clear d;go_wp2_with (go_at_call 101;refine (BW s _ q).mono ?_;rintro e y ⟨rfl,f⟩;rw[Aa l];have m:=u.after f NLN;obtain ⟨z,A,q2,q3,B⟩:=DM m)
      go_ret
      exact ⟨Ah (by rw[Aa v,Aa p];rfl),g.trans (f.mono g.size)⟩
     ·have p:=Ab (Aa E (by rw[Aa r,d,Aa x,Aa H];rfl));have l:=Ab d;clear d;go_wp2_with (go_at_call 101;refine (BW s _ q).mono ?_;rintro e y ⟨rfl,f⟩;rw[Aa l];have m:=u.after f NLN;obtain ⟨z,A,q2,q3,B⟩:=DM m)
      go_ret
      exact ⟨Ah (by rw[Aa v,Aa p];rfl),g.trans (f.mono g.size)⟩
   ·have X:((k:Int)==(n:Int) - 1)=false:=zA.2 (by omega);have F:=zK K;have H:=Ab F;clear K F;by_cases o:s.kind=3
    ·have e3:(s.kind== 3)=true:=zI.2 o;have d3:=zR o;have x:=Ab d3;clear o d3;cases d:CT s
     ·have p:=Ab (Aa E (by rw[Aa r,d];rfl));have l:=Ab d;clear d;go_wp2_with (go_at_call 101;refine (BW s _ q).mono ?_;rintro e y ⟨rfl,f⟩;rw[Aa l];have m:=u.after f NLN;obtain ⟨z,A,q2,q3,B⟩:=DM m)
      go_ret
      exact ⟨Ah (by rw[Aa v,Aa p];rfl),g.trans (f.mono g.size)⟩
     ·have p:=Ab (Aa E (by rw[Aa r,d,Aa x,Aa H];rfl));have l:=Ab d;clear d;go_wp2_with (go_at_call 101;refine (BW s _ q).mono ?_;rintro e y ⟨rfl,f⟩;rw[Aa l];have m:=u.after f NLN;obtain ⟨z,A,q2,q3,B⟩:=DM m)
      go_ret
      exact ⟨Ah (by rw[Aa v,Aa p];rfl),g.trans (f.mono g.size)⟩
    ·have e3:(s.kind== 3)=false:=zA.2 o;have d3:=zK o;have x:=Ab d3;clear o d3;cases d:CT s
     ·have p:=Ab (Aa E (by rw[Aa r,d];rfl));have l:=Ab d;clear d;go_wp2_with (go_at_call 101;refine (BW s _ q).mono ?_;rintro e y ⟨rfl,f⟩;rw[Aa l];have m:=u.after f NLN;obtain ⟨z,A,q2,q3,B⟩:=DM m)
      go_ret
      exact ⟨Ah (by rw[Aa v,Aa p];rfl),g.trans (f.mono g.size)⟩
     ·have O:=Ab (Aa R (by rw[Aa r,d,Aa x,Aa H];rfl));have l:=Ab d;clear d;go_wp2_with (go_at_call 101;refine (BW s _ q).mono ?_;rintro e y ⟨rfl,f⟩;rw[Aa l];have m:=u.after f NLN;obtain ⟨z,A,q2,q3,B⟩:=DM m)
      go_roundw
      case rel=>exact ⟨k+1,Aa J,by go_num,g.trans (f.mono g.size),Aa O⟩
      case measure=>have:=Aa J;simp[intOf];omega
  ·have e:k=n:=by omega
   subst e;have Y:=Ab (show BK L=true from (Jj L).2 (fun j t=>Aa N j t (by have:=Aa M;omega)));go_wp2
   go_ret
   exact ⟨Ah (by rw[Aa v,Aa Y];rfl),I⟩
theorem Wi:(Tryz.prog.info? 3).map (fun i=>(i.zero,i.size,i.bytes))=some (some (.int .i64 0),1,8):=by kernel_rfl
def AF (L:List Int):List Value:=L.map (Value.int .i64)
theorem BD (w:World)(v:Value)(t:TypeId)(b:Nat)(a:b=w.heap.size):∀ j u,([v]:List Value)[j]? =some u→(w.alloc (.cells #[v] t)).cell? ((⟨b,0,none⟩:Addr).add j)=some u:=fun j u h=>by
 subst a;have c:j=0:=by
  have:=(zX.1 h).1;simp at this;exact this
 subst c;rw[← h];simp[Addr.add]
theorem U9 (L:List St)(k:Nat)(h:k < L.length):(L.take (k+1)).flatMap As=(L.take k).flatMap As ++As L[k]:=by
 rw[zx h,List.flatMap_append];simp
theorem Lb:∀ (L:List St),(L.flatMap As).length≤2 * L.length
 | []=>by simp
 |s ::r=>by
  have:=Lb r;have h1:(As s).length≤2:=by unfold As;split <;> split <;> simp
  rw[zi,zB,List.length_cons];omega
theorem Am.grown {w w':World}{b:Nat}{cs:Array Value}{t:TypeId}{row:Option Nat}(h:Am w b cs t)(a:w.grownBy w' row)(c:some b=row→False):Am w' b cs t:=⟨(a.block b h.lt c).trans h.out⟩
theorem OB (a:Option Addr)(n c:Nat)(L:List St)(w:World)(h:PO w a n c L):
  Calls Tryz.prog 55 #[.slice a n c] w fun e w'=>∃ v,e= .returned v∧w'.ownsRow w.heap.size 3 1 v (L.flatMap As).length (AF (L.flatMap As))∧Below w.heap.size w w':=by
 have Z:=h.small;have hl:=h.len;have J:=Ab hl;clear hl;obtain ⟨i,hi,z,A,B⟩:=info_parts Wi;go_enter Tryz.func55,Tryz.ntmps55
 go_wp2_with fail
 go_loopw [3,8] (fun v i wr=>∃ k:Nat,k≤n∧i= .int .i64 k∧wr.ownsRow w.heap.size 3 1 v ((L.take k).flatMap As).length (AF ((L.take k).flatMap As))∧Below w.heap.size w wr) (fun _ i _=>n - (intOf i).toNat)
 case atStart=>exact ⟨0,zN _,rfl,World.ownsRow_nil _ _ _ _,BRN⟩
 case round=>
  obtain ⟨k,hk,rfl,l,y⟩:=hrel;by_cases K:k < n
  ·have aa:(k:Int) < (n:Int):=by omega
   have M:k < L.length:=by rw[Aa J];exact K
   obtain ⟨b,ab,rfl,ac,P,c1,c2,c3⟩:=(h.below y NLN).cells k M;have t:=Ab (U9 L k M);have E:=Lb (L.take k);rw[zg] at E;have g:=Ab K;generalize L[k]=s at P c1 c2 c3 t;generalize (L.take k).flatMap As=Q at l E t;have ad:Q.length≤2 * 1048576:=by omega
   have N:=Am.new wr #[.int .i64 s.kind,.string s.name,.int .i64 s.cond,.int .i64 s.grant] 51;have C:=y.alloc y.size (.cells #[.int .i64 s.kind,.string s.name,.int .i64 s.cond,.int .i64 s.grant] 51);have m:=l.alloc (.cells #[.int .i64 s.kind,.string s.name,.int .i64 s.cond,.int .i64 s.grant] 51);have ae:(wr.alloc (.cells #[.int .i64 s.kind,.string s.name,.int .i64 s.cond,.int .i64 s.grant] 51)).heap.size=wr.heap.size+1:=by simp
   have af:=y.size;clear E;by_cases j:s.kind=3
   ·have e3:(s.kind != 3)=false:=by rw[j];rfl
    by_cases f:s.grant= -1
    ·have F:(s.grant != -1)=false:=by rw[f];rfl
     have o:=Ab (show As s= [] by rw[As,if_neg (by omega),if_neg (by omega)];rfl);clear j f;go_wp2_with fail
     go_roundw
     case rel=>exact ⟨k+1,Aa g,by go_num,by rw[Aa t,Aa o,zp];exact m,C⟩
     case measure=>have:=Aa g;simp[intOf];omega
    ·have F:(s.grant != -1)=true:=zw.2 f;have o:=Ab (show As s= [s.grant] by rw[As,if_neg (by omega),if_pos f];rfl);clear j f;go_wp2_with (at_builtin;refine wpList_append_own _ rfl _ _ 28 rfl w.heap.size 3 i (.int .i64 0) 1 8 Tryz.underlying28 hi z A B rfl (by decide) _ _ _ rfl (World.ownsRow.alloc m _) ⟨wr.heap.size+1,0,none⟩ 1 1 [.int .i64 s.grant] rfl rfl ?c1 ?c2 ?c3 ?c4 ?c5 ?_)
     case c1=>exact BD _ _ _ _ (by simp)
     case c2=>intro u hu;simp at hu;subst hu;rfl
     case c3=>skip;unfold maxLen;omega
     case c4=>skip;omega
     case c5=>simp;omega
     intro O H p d _;have r:=(C.alloc (by omega) (.cells #[.int .i64 s.grant] 3)).grown d (by simp;omega) (fun q hq=>(m.lt q hq).1);skip;clear d;go_wp2_with fail
     go_roundw
     case rel=>exact ⟨k+1,Aa g,by go_num,by rw[Aa t,Aa o,AF,zl,zB];exact p,r⟩
     case measure=>have:=Aa g;simp[intOf];omega
   ·have e3:(s.kind != 3)=true:=zw.2 j;by_cases f:s.grant= -1
    ·have F:(s.grant != -1)=false:=by rw[f];rfl
     have o:=Ab (show As s= [s.cond] by rw[As,if_pos j,if_neg (by omega)];rfl);clear j f;go_wp2_with (at_builtin;refine wpList_append_own _ rfl _ _ 28 rfl w.heap.size 3 i (.int .i64 0) 1 8 Tryz.underlying28 hi z A B rfl (by decide) _ _ _ rfl (World.ownsRow.alloc m _) ⟨wr.heap.size+1,0,none⟩ 1 1 [.int .i64 s.cond] rfl rfl ?c1 ?c2 ?c3 ?c4 ?c5 ?_)
     case c1=>exact BD _ _ _ _ (by simp)
     case c2=>intro u hu;simp at hu;subst hu;rfl
     case c3=>skip;unfold maxLen;omega
     case c4=>skip;omega
     case c5=>simp;omega
     intro O H p d _;have r:=(C.alloc (by omega) (.cells #[.int .i64 s.cond] 3)).grown d (by simp;omega) (fun q hq=>(m.lt q hq).1);have I:=(N.alloc (.cells #[.int .i64 s.cond] 3)).grown d (fun e=>by have:=(l.lt _ e.symm).2;omega);have R:=r.size;obtain ⟨S,T,q2,q3,U⟩:=DM I;clear d;go_wp2_with fail
     go_roundw
     case rel=>exact ⟨k+1,Aa g,by go_num,by rw[Aa t,Aa o,AF,zl,zB];exact p,r⟩
     case measure=>have:=Aa g;simp[intOf];omega
    ·have F:(s.grant != -1)=true:=zw.2 f;have o:=Ab (show As s= [s.cond,s.grant] by rw[As,if_pos j,if_pos f];rfl);clear j f;go_wp2_with (at_builtin;refine wpList_append_own _ rfl _ _ 28 rfl w.heap.size 3 i (.int .i64 0) 1 8 Tryz.underlying28 hi z A B rfl (by decide) _ _ _ rfl (World.ownsRow.alloc m _) ⟨wr.heap.size+1,0,none⟩ 1 1 [.int .i64 s.cond] rfl rfl ?c1 ?c2 ?c3 ?c4 ?c5 ?_)
     case c1=>exact BD _ _ _ _ (by simp)
     case c2=>intro u hu;simp at hu;subst hu;rfl
     case c3=>skip;unfold maxLen;omega
     case c4=>skip;omega
     case c5=>simp;omega
     intro O H p d _;have r:=(C.alloc (by omega) (.cells #[.int .i64 s.cond] 3)).grown d (by simp;omega) (fun q hq=>(m.lt q hq).1);have I:=(N.alloc (.cells #[.int .i64 s.cond] 3)).grown d (fun e=>by have:=(l.lt _ e.symm).2;omega);have R:=r.size;obtain ⟨S,T,q2,q3,U⟩:=DM I;obtain ⟨ag,ah,V⟩:=DH p;subst V;clear d;go_wp2_with (at_builtin;refine wpList_append_own _ rfl _ _ 28 rfl w.heap.size 3 i (.int .i64 0) 1 8 Tryz.underlying28 hi z A B rfl (by decide) _ _ _ rfl (World.ownsRow.alloc p _) ⟨H.heap.size,0,none⟩ 1 1 [.int .i64 s.grant] rfl rfl ?c1 ?c2 ?c3 ?c4 ?c5 ?_)
     case c1=>exact BD _ _ _ _ (by simp)
     case c2=>intro u hu;simp at hu;subst hu;rfl
     case c3=>skip;unfold maxLen;omega
     case c4=>skip;omega
     case c5=>simp;omega
     intro ai aj W d _;have X:=(r.alloc (by omega) (.cells #[.int .i64 s.grant] 3)).grown d (by simp;omega) (fun q hq=>(p.lt q hq).1);skip;clear d;go_wp2_with fail
     go_roundw
     case rel=>exact ⟨k+1,Aa g,by go_num,by rw[Aa t,Aa o,AF,zl,zB];simpa[AF] using W,X⟩
     case measure=>have:=Aa g;simp[intOf];omega
  ·have e:k=n:=by omega
   subst e;have e2:L.take k=L:=zk (by rw[Aa J];exact NLN);rw[e2] at l;obtain ⟨x,ak,Y⟩:=DH l;subst Y;go_wp2
   go_ret
   exact ⟨_,rfl,l,y⟩
end Go.Proofs.YtffkofkjpckmpaaGreatDoor
