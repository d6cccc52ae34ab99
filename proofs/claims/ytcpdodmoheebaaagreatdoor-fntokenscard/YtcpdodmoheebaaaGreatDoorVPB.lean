/-
  The walks over the fields of a node. Own work.
-/
import Derived.Test.YtcpdodmoheebaaaGreatDoorMXAG
import Derived.Test.YtcpdodmoheebaaaGreatDoorMXAC
import Derived.Deep.RegionHeld3
namespace Go.Proofs.YtcpdodmoheebaaaGreatDoor
set_option maxRecDepth 100000
set_option maxHeartbeats 3200000
open Go.RowKit
set_option linter.unusedVariables false
theorem J9 {w:World}{b:Nat}{c d f g h:Value}{t:TypeId}(a:Ao w b #[c,d,f,g,h] t):w.cell? ⟨b,0,none⟩=some c∧w.cell? ⟨b,1,none⟩=some d∧w.cell? ⟨b,2,none⟩=some f∧w.cell? ⟨b,3,none⟩=some g∧w.cell? ⟨b,4,none⟩=some h∧∀ j,w.frozen? ⟨b,j,none⟩=false:=
 ⟨by simpa using a.cell 0,by simpa using a.cell 1,by simpa using a.cell 2,by simpa using a.cell 3,by simpa using a.cell 4,fun j=>a.frozen j⟩
theorem Bd.drew' {w:World}{a:Option Addr}{n c:Nat}{b:List ByteArray}(h:Bd w a n c b):Bd w.drew a n c b:=⟨h.len,h.cap,h.small,h.sizes,h.cells⟩
theorem Ja (s:ByteArray):s.toList= []↔s.size=0:=by
 rw [ByteArray.toList_eq,← List.length_eq_zero_iff]
 have:s.data.toList.length=s.size:=by simp
 rw [this]
def MR (op num:Int) (text:ByteArray) (an:Option Addr) (nn cn:Nat) (ak:Option Addr) (nk ck:Nat):Value:= .agg #[.int .i64 op,.int .i64 num,.string text,.slice an nn cn,.slice ak nk ck]
theorem DW (x:Nd)(an:Option Addr)(nn s:Nat)(t:Option Addr)(k u:Nat)(w:World)(E:Bd w an nn s x.names)(H:k=x.kids.length)(hs:x.text.size≤1048576)(Z:k≤1048576):
  Calls Tryz.prog 69 #[MR x.op x.num x.text an nn s t k u,.bool false] w fun e w'=>e= .returned (.bool (AI x))∧Below w.heap.size w w':=by
 have I:=E.len
 obtain ⟨op,num,text,names,kids⟩:=x
 simp only at E H hs I ⊢
 have J:=Ao.new w #[.int .i64 op,.int .i64 num,.string text,.slice an nn s,.slice t k u] 99
 have F:=(Below.refl w.heap.size w).alloc (Nat.le_refl _) (.cells #[.int .i64 op,.int .i64 num,.string text,.slice an nn s,.slice t k u] 99)
 have S:(w.alloc (.cells #[.int .i64 op,.int .i64 num,.string text,.slice an nn s,.slice t k u] 99)).heap.size=w.heap.size+1:=by simp
 have V:=Ab I
 have W:=Ab H
 clear I H
 have a:=Ab (show AI ⟨op,num,text,names,kids⟩=(decide ((kids.length:Int)=Dl op) && (if op=1 then decide (0≤num) && decide (text.size=0) && decide (names.length=0) else if op=2 then BP text && decide (num=0) && decide (names.length=0) else if op=3 then decide (num=0∨num=1) && decide (text.size=0) && decide (names.length=0) else if op=4 then Ff names && decide (num=0) && decide (text.size=0) else if op=5 then BA text && decide (num=0) && decide (names.length=0) else if op=6∨op=7 then false else decide (num=0) && decide (text.size=0) && decide (names.length=0))) from rfl)
 rw [← Aa W,← Aa V] at a
 generalize AI ⟨op,num,text,names,kids⟩=aa at a ⊢
 unfold MR
 go_enter Tryz.func69,Tryz.ntmps69
 go_wp2_with fail
 obtain ⟨d,c1,c2,c3,c4,f⟩:=J9 J
 generalize w.alloc (.cells #[.int .i64 op,.int .i64 num,.string text,.slice an nn s,.slice t k u] 99)=y at *
 by_cases z:(k:Int)=Dl op
 case neg=>
  have ek:((k:Int) != Dl op)=true:=bne_iff_ne.2 z
  go_region_held3 (fun w'=>w'.cell? ⟨w.heap.size,4,none⟩=some (.slice t k u)∧w'.cell? ⟨w.heap.size,0,none⟩=some (.int .i64 op)) (go_keep)
   ((go_at_call 78;refine (FC _ _).mono ?_;rintro e X ⟨rfl,A⟩;rw [A];clear A))
  all_goals
   go_wp2
   go_ret
   exact ⟨Ak (by rw [Aa a,decide_eq_false z];rfl),F.drew⟩
 have ek:((k:Int) != Dl op)=false:=by rw [z];simp
 have v:=Ab z
 clear z
 go_region_held3 (fun w'=>w'.cell? ⟨w.heap.size,4,none⟩=some (.slice t k u)∧w'.cell? ⟨w.heap.size,0,none⟩=some (.int .i64 op)) (go_keep)
  ((go_at_call 78;refine (FC _ _).mono ?_;rintro e X ⟨rfl,A⟩;rw [A];clear A))
 have i:Ao y.drew w.heap.size #[.int .i64 op,.int .i64 num,.string text,.slice an nn s,.slice t k u] 99:=⟨J.out⟩
 have b:Below w.heap.size w y.drew:=F.drew
 have l:Bd y.drew an nn s names:=(E.below F (Nat.le_refl _)).drew'
 have K:y.drew.heap.size=w.heap.size+1:=S
 clear J F d c1 c2 c3 c4 f E S
 generalize y.drew=G at i b l K ⊢
 have m:=i.alloc (.cells #[.int .i64 op,.int .i64 0,.string ⟨#[]⟩,.slice none 0 0,.slice none 0 0] 99)
 have h:=b.alloc (by omega) (.cells #[.int .i64 op,.int .i64 0,.string ⟨#[]⟩,.slice none 0 0,.slice none 0 0] 99)
 have n:=l.below ((Below.refl G.heap.size G).alloc (Nat.le_refl _) (.cells #[.int .i64 op,.int .i64 0,.string ⟨#[]⟩,.slice none 0 0,.slice none 0 0] 99)) (Nat.le_refl _)
 have j:=Ao.new G #[.int .i64 op,.int .i64 0,.string ⟨#[]⟩,.slice none 0 0,.slice none 0 0] 99
 rw [K] at j
 have ab:(G.alloc (.cells #[.int .i64 op,.int .i64 0,.string ⟨#[]⟩,.slice none 0 0,.slice none 0 0] 99)).heap.size=w.heap.size+2:=by simp [K]
 obtain ⟨d,c1,c2,c3,c4,f⟩:=J9 i
 have ac:=Ja text
 by_cases L:op=1
 ·subst L
  have a:=Ab ((Aa a).trans (by rw [decide_eq_true (Aa v),if_pos rfl,Bool.true_and]))
  go_wp2
  all_goals
   go_ret
   refine ⟨Ak ?_,b.alloc (by omega) _⟩
   rw [Aa a]
   have q:((nn:Int)== 0)=decide (nn=0):=by rw [Bool.eq_iff_iff];simp
   clear a i m j b h l n d c1 c2 c3 c4 f
   simp_all
   try omega
 by_cases M:op=2
 ·subst M
  have a:=Ab ((Aa a).trans (by rw [decide_eq_true (Aa v),if_neg (by omega),if_pos rfl,Bool.true_and]))
  cases c:BP text
  ·have g:=Ab c
   clear c
   go_wp2_with (go_at_call 79;refine (DV _ _ hs).mono ?_;rintro e w' ⟨rfl,o⟩;rw [Aa g,o];clear o)
   all_goals
    go_ret
    refine ⟨Ak ?_,b.alloc (by omega) _⟩
    rw [Aa a]
    have c:=Aa g
    have q:((nn:Int)== 0)=decide (nn=0):=by rw [Bool.eq_iff_iff];simp
    clear a i m j b h l n d c1 c2 c3 c4 f
    simp_all
    try omega
  ·have g:=Ab c
   clear c
   go_wp2_with (go_at_call 79;refine (DV _ _ hs).mono ?_;rintro e w' ⟨rfl,o⟩;rw [Aa g,o];clear o)
   all_goals
    go_ret
    refine ⟨Ak ?_,b.alloc (by omega) _⟩
    rw [Aa a]
    have c:=Aa g
    have q:((nn:Int)== 0)=decide (nn=0):=by rw [Bool.eq_iff_iff];simp
    clear a i m j b h l n d c1 c2 c3 c4 f
    simp_all
    try omega
 by_cases N:op=3
 ·subst N
  have a:=Ab ((Aa a).trans (by rw [decide_eq_true (Aa v),if_neg (by omega),if_neg (by omega),if_pos rfl,Bool.true_and]))
  go_wp2
  all_goals
   go_ret
   refine ⟨Ak ?_,b.alloc (by omega) _⟩
   rw [Aa a]
   have q:((nn:Int)== 0)=decide (nn=0):=by rw [Bool.eq_iff_iff];simp
   clear a i m j b h l n d c1 c2 c3 c4 f
   simp_all
   try omega
 by_cases O:op=4
 ·subst O
  have a:=Ab ((Aa a).trans (by rw [decide_eq_true (Aa v),if_neg (by omega),if_neg (by omega),if_neg (by omega),if_pos rfl,Bool.true_and]))
  cases c:Ff names
  ·have g:=Ab c
   clear c
   go_wp2_with (go_at_call 80;refine (Fj _ _ _ _ _ n).mono ?_;rintro e w' ⟨rfl,o⟩;rw [Aa g,o];clear o)
   all_goals
    go_ret
    refine ⟨Ak ?_,b.alloc (by omega) _⟩
    rw [Aa a]
    have c:=Aa g
    have q:((nn:Int)== 0)=decide (nn=0):=by rw [Bool.eq_iff_iff];simp
    clear a i m j b h l n d c1 c2 c3 c4 f
    simp_all
    try omega
  ·have g:=Ab c
   clear c
   go_wp2_with (go_at_call 80;refine (Fj _ _ _ _ _ n).mono ?_;rintro e w' ⟨rfl,o⟩;rw [Aa g,o];clear o)
   all_goals
    go_ret
    refine ⟨Ak ?_,b.alloc (by omega) _⟩
    rw [Aa a]
    have c:=Aa g
    have q:((nn:Int)== 0)=decide (nn=0):=by rw [Bool.eq_iff_iff];simp
    clear a i m j b h l n d c1 c2 c3 c4 f
    simp_all
    try omega
 by_cases P:op=5
 ·subst P
  have a:=Ab ((Aa a).trans (by rw [decide_eq_true (Aa v),if_neg (by omega),if_neg (by omega),if_neg (by omega),if_neg (by omega),if_pos rfl,Bool.true_and]))
  cases c:BA text
  ·have g:=Ab c
   clear c
   go_wp2_with fail
   refine (Bw _ _ hs).mono ?_
   rintro e Y ⟨rfl,r⟩
   rw [Aa g]
   have B:=m.after r (Nat.le_refl _)
   have C:=j.after r (Nat.le_refl _)
   have D:=h.trans (r.mono h.size)
   clear i m j h l n d c1 c2 c3 c4 f r
   obtain ⟨d,c1,c2,c3,c4,f⟩:=J9 B
   obtain ⟨Q,d1,d2,d3,d4,R⟩:=J9 C
   go_wp2
   all_goals
    go_ret
    refine ⟨Ak ?_,D⟩
    rw [Aa a]
    have c:=Aa g
    have q:((nn:Int)== 0)=decide (nn=0):=by rw [Bool.eq_iff_iff];simp
    clear a B C D b d c1 c2 c3 c4 f Q d1 d2 d3 d4 R
    simp_all
    try omega
  ·have g:=Ab c
   clear c
   go_wp2_with fail
   refine (Bw _ _ hs).mono ?_
   rintro e Y ⟨rfl,r⟩
   rw [Aa g]
   have B:=m.after r (Nat.le_refl _)
   have C:=j.after r (Nat.le_refl _)
   have D:=h.trans (r.mono h.size)
   clear i m j h l n d c1 c2 c3 c4 f r
   obtain ⟨d,c1,c2,c3,c4,f⟩:=J9 B
   obtain ⟨Q,d1,d2,d3,d4,R⟩:=J9 C
   go_wp2
   all_goals
    go_ret
    refine ⟨Ak ?_,D.setCell (p:=⟨w.heap.size+1,2,none⟩) (by show w.heap.size≤w.heap.size+1;omega) _⟩
    rw [Aa a]
    have c:=Aa g
    have q:((nn:Int)== 0)=decide (nn=0):=by rw [Bool.eq_iff_iff];simp
    clear a B C D b d c1 c2 c3 c4 f Q d1 d2 d3 d4 R
    simp_all
    try omega
 by_cases T:op=6
 ·subst T
  have a:=Ab ((Aa a).trans (by rw [decide_eq_true (Aa v),if_neg (by omega),if_neg (by omega),if_neg (by omega),if_neg (by omega),if_neg (by omega),if_pos (by omega),Bool.true_and]))
  go_wp2
  all_goals
   go_ret
   refine ⟨Ak ?_,b.alloc (by omega) _⟩
   rw [Aa a]
   have q:((nn:Int)== 0)=decide (nn=0):=by rw [Bool.eq_iff_iff];simp
   clear a i m j b h l n d c1 c2 c3 c4 f
   simp_all
   try omega
 by_cases U:op=7
 ·subst U
  have a:=Ab ((Aa a).trans (by rw [decide_eq_true (Aa v),if_neg (by omega),if_neg (by omega),if_neg (by omega),if_neg (by omega),if_neg (by omega),if_pos (by omega),Bool.true_and]))
  go_wp2
  all_goals
   go_ret
   refine ⟨Ak ?_,b.alloc (by omega) _⟩
   rw [Aa a]
   have q:((nn:Int)== 0)=decide (nn=0):=by rw [Bool.eq_iff_iff];simp
   clear a i m j b h l n d c1 c2 c3 c4 f
   simp_all
   try omega
 have a:=Ab ((Aa a).trans (by rw [decide_eq_true (Aa v),if_neg L,if_neg M,if_neg N,if_neg O,if_neg P,if_neg (by omega),Bool.true_and]))
 have ad:=beq_eq_false_iff_ne.2 L
 have ae:=beq_eq_false_iff_ne.2 M
 have af:=beq_eq_false_iff_ne.2 N
 have ag:=beq_eq_false_iff_ne.2 O
 have ah:=beq_eq_false_iff_ne.2 P
 have ai:=beq_eq_false_iff_ne.2 T
 have aj:=beq_eq_false_iff_ne.2 U
 go_wp2
 all_goals
  go_ret
  refine ⟨Ak ?_,b.alloc (by omega) _⟩
  rw [Aa a]
  have q:((nn:Int)== 0)=decide (nn=0):=by rw [Bool.eq_iff_iff];simp
  clear a i m j b h l n d c1 c2 c3 c4 f
  simp_all
  try omega
end Go.Proofs.YtcpdodmoheebaaaGreatDoor
