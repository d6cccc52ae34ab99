/-
  MB, ZA. Own work.
-/
import Derived.Test.YtedlocniojlhfaaGreatDoorMXAB
import Derived.Test.YtedlocniojlhfaaGreatDoorMXAF
namespace Go.Proofs.YtedlocniojlhfaaGreatDoor
set_option maxRecDepth 100000
set_option maxHeartbeats 4000000
open Go.RowKit

theorem keep_KB (x:Int) (w:World) :
  Calls Tryz.prog 155 #[.int .i64 x] w fun e w'=>e=.returned (.bool (x == 2))∧w'=w:=by
 go_enter Tryz.func155,Tryz.ntmps155
 go_wp2
 go_ret
 exact ⟨rfl,rfl⟩

theorem owns_drewN_KB {w:World} {base e size n k:Nat} {v:Value} {xs:List Value} (h:w.ownsRow base e size v n xs):(w.drewN k).ownsRow base e size v n xs:=h

theorem merge_KB (a:Option Addr) (n c:Nat) (ss:List ByteArray) (a':Option Addr) (n' c':Nat) (tt:List ByteArray) (w:World) (h:Strs w a n c ss) (h':Strs w a' n' c' tt)
  (hs:risB ss=true) (ht:risB tt=true) (k1:n≤64) (k2:n'≤64) :
  Calls Tryz.prog 153 #[.slice a n c,.slice a' n' c',.func (Fn.func 155) #[] #[]] w fun e w'=>∃ x cx K,e=.returned (.slice x K.length cx)∧w'.ownsRow w.heap.size 9 1 (.slice x K.length cx) K.length (K.map Value.string)∧Below w.heap.size w w'∧KB ss tt ss.length tt.length K:=by
 obtain ⟨i,hi,hz0,hz1,hz2⟩:=info_parts infoS
 have hl:=h.len
 have hl':=h'.len
 subst hl hl'
 have Hs:=hide hs
 have Ht:=hide ht
 clear hs ht
 go_enter Tryz.func153,Tryz.ntmps153
 go_wp2
 go_loopw [7,8,9] (fun v i j wr=>∃ (p q:Nat) (K:List ByteArray),i=.int .i64 p∧j=.int .i64 q∧MInv ss tt p q∧KB ss tt p q K∧K.length≤p+q∧wr.ownsRow w.heap.size 9 1 v K.length (K.map Value.string)∧Below w.heap.size w wr) (fun _ i j _=>ss.length+tt.length - (intOf i).toNat - (intOf j).toNat)
 case atStart=>exact ⟨0,0,[],rfl,rfl,MInv.start _ _,KB.start,by simp,World.ownsRow_nil _ _ _ _,Below.refl _ _⟩
 case round =>
  obtain ⟨p,q,K,rfl,rfl,hm,kk,hK,hown,hb⟩:=hrel
  have hbs:=hb.size
  have hp:=hm.i_le
  have hq:=hm.j_le
  have hs:=uh Hs
  have ht:=uh Ht
  by_cases hpl:p<ss.length
  ·obtain ⟨b,off,ha,_,hcp⟩:=(h.below hb nl).cells p hpl
   subst ha
   have ip:(p:Int)<(ss.length:Int):=by omega
   by_cases hql:q<tt.length
   ·obtain ⟨b',off',ha',_,hcq⟩:=(h'.below hb nl).cells q hql
    subst ha'
    have iq:(q:Int)<(tt.length:Int):=by omega
    have eq:((q:Int) == (tt.length:Int))=false:=beq_eq_false_iff_ne.2 (by omega)
    have ep:((p:Int) == (ss.length:Int))=false:=beq_eq_false_iff_ne.2 (by omega)
    cases hv1:Op.bytesLess (nth ss p).toList (nth tt q).toList
    ·cases hv2:Op.bytesLess (nth tt q).toList (nth ss p).toList
     ·go_wp2
      go_quiet (fail)
      go_wp2
      go_quiet (fail)
      go_wp2_with (first
       | (go_at_call 155;refine (keep_KB _ _).mono ?_;rintro e w2 ⟨rfl,hw2⟩;rw [hw2];clear hw2)
       | (at_builtin;refine wpList_append_own _ rfl _ _ 27 rfl w.heap.size 9 i (.string ByteArray.empty) 1 16 Tryz.underlying27 hi hz0 hz1 hz2 rfl (by decide) _ _ _ rfl (World.ownsRow.alloc (owns_drewN_KB hown) _) ⟨wr.heap.size,0,none⟩ 1 1 [.string (nth ss p)] rfl rfl ?c1 ?c2 ?c3 ?c4 ?c5 ?_))
      case c1=>exact cell_one_new _ _ _
      case c2=>intro u hu;simp at hu;subst hu;rfl
      case c3=>unfold maxLen;omega
      case c4=>omega
      case c5=>simp;omega
      intro v' w1 hown' hgrow _
      have hb1:Below w.heap.size w w1:=((below_drewN hb _).alloc hbs _).grown hgrow (by simp;omega) (fun k hk=>(hown.lt k hk).1)
      clear hgrow
      go_wp2
      go_roundw
      case rel=>exact ⟨p+1,q+1,_,by go_num,by go_num,(hm.both hs ht hpl hql hv1 hv2).1,(kk.both hm hs ht hpl hql hv1 hv2),by rw [List.length_append];simp only [List.length_cons,List.length_nil];omega,by rw [List.map_append,List.length_append];exact hown',hb1⟩
      case measure=>simp [intOf];omega
     ·have HC:p<ss.length→sl (nth tt q) (nth ss p)=true:=fun _=>hv2
      go_wp2
      go_quiet (fail)
      go_wp2
      go_quiet (fail)
      go_wp2_with (go_at_call 155;refine (keep_KB _ _).mono ?_;rintro e w2 ⟨rfl,hw2⟩;rw [hw2];clear hw2)
      go_roundw
      case rel=>exact ⟨p,q+1,_,by go_num,by go_num,(hm.right hs hql (fun hp=>HC hp)).1,(kk.right),by omega,hown,below_drewN hb _⟩
      case measure=>simp [intOf];omega
    ·have HC:q<tt.length→sl (nth ss p) (nth tt q)=true:=fun _=>hv1
     go_wp2
     go_quiet (fail)
     go_wp2_with (go_at_call 155;refine (keep_KB _ _).mono ?_;rintro e w2 ⟨rfl,hw2⟩;rw [hw2];clear hw2)
     go_roundw
     case rel=>exact ⟨p+1,q,_,by go_num,by go_num,(hm.left ht hpl (fun hq=>HC hq)).1,(kk.left hm ht hpl (fun hq=>HC hq)),by omega,hown,below_drewN hb _⟩
     case measure=>simp [intOf];omega
   ·have eq:((q:Int) == (tt.length:Int))=true:=beq_iff_eq.2 (by omega)
    have HC:q<tt.length→sl (nth ss p) (nth tt q)=true:=fun hq'=>absurd hq' hql
    go_wp2
    go_quiet (fail)
    go_wp2_with (go_at_call 155;refine (keep_KB _ _).mono ?_;rintro e w2 ⟨rfl,hw2⟩;rw [hw2];clear hw2)
    go_roundw
    case rel=>exact ⟨p+1,q,_,by go_num,by go_num,(hm.left ht hpl (fun hq=>HC hq)).1,(kk.left hm ht hpl (fun hq=>HC hq)),by omega,hown,below_drewN hb _⟩
    case measure=>simp [intOf];omega
  ·by_cases hql:q<tt.length
   ·obtain ⟨b',off',ha',_,hcq⟩:=(h'.below hb nl).cells q hql
    subst ha'
    have iq:(q:Int)<(tt.length:Int):=by omega
    have eq:((q:Int) == (tt.length:Int))=false:=beq_eq_false_iff_ne.2 (by omega)
    have ep:((p:Int) == (ss.length:Int))=true:=beq_iff_eq.2 (by omega)
    have ip:decide ((p:Int)<(ss.length:Int))=false:=by simp;omega
    have HC:p<ss.length→sl (nth tt q) (nth ss p)=true:=fun hp'=>absurd hp' hpl
    go_wp2
    go_quiet (fail)
    go_wp2
    go_quiet (fail)
    go_wp2_with (go_at_call 155;refine (keep_KB _ _).mono ?_;rintro e w2 ⟨rfl,hw2⟩;rw [hw2];clear hw2)
    go_roundw
    case rel=>exact ⟨p,q+1,_,by go_num,by go_num,(hm.right hs hql (fun hp=>HC hp)).1,(kk.right),by omega,hown,below_drewN hb _⟩
    case measure=>simp [intOf];omega
   ·have e1:p=ss.length:=by omega
    have e2:q=tt.length:=by omega
    subst e1
    subst e2
    go_wp2
    go_ret
    obtain ⟨x,cx,hf⟩:=owns_form hown
    subst hf
    exact ⟨x,cx,K,rfl,hown,hb,kk⟩

end Go.Proofs.YtedlocniojlhfaaGreatDoor

namespace Go.Proofs.YtedlocniojlhfaaGreatDoor
set_option maxRecDepth 100000
set_option maxHeartbeats 800000
open Go.RowKit
set_option linter.unusedVariables false

def rowL (op:Int):List Int × Int :=
 if op=1 then ([],2)
 else if op=2 then ([],3)
 else if op=3 then ([],1)
 else if op=4 then ([],4)
 else if op=8 then ([2],2)
 else if op=9 then ([1],1)
 else if op=10 then ([4],2)
 else if op=11 then ([2,2],2)
 else if op=12 then ([2,2],2)
 else if op=13 then ([2,2],2)
 else if op=14 then ([2,2],2)
 else if op=15 then ([2,2],2)
 else if op=16 then ([4,4],4)
 else if op=17 then ([4,4],4)
 else if op=18 then ([4,4],4)
 else if op=19 then ([0,0],1)
 else if op=20 then ([0,0],1)
 else if op=21 then ([2,2],1)
 else if op=22 then ([2,2],1)
 else if op=23 then ([3,4],1)
 else if op=24 then ([4,4],1)
 else if op=25 then ([1,1],1)
 else if op=26 then ([1,1],1)
 else if op=27 then ([1,0,0],0)
 else ([1,0,0],0)

theorem ints_new (w:World) (t:TypeId) (L:List Int) (hL:L.length≤1048576):Ints (w.alloc (.cells (L.map (Value.int .i64)).toArray t)) (some ⟨w.heap.size,0,none⟩) L.length L.length L:=by
 refine ⟨rfl,hL,fun j hj=>⟨w.heap.size,0,rfl,by simp,?_⟩⟩
 rw [Nat.zero_add,(Row.new w (L.map (Value.int .i64)).toArray t).cell j]
 simp [hj]

theorem ints_none (w:World):Ints w none 0 0 []:=⟨rfl,by omega,fun j h=>absurd h (by simp)⟩

def opOK (op:Int):Prop:=(1≤op∧op≤4)∨(8≤op∧op≤27)

def RwAns (op:Int) (w:World) (r:Ending) (w':World):Prop:=(∃ x n c,r=.returned (.tuple #[.slice x n c,.int .i64 (rowL op).2])∧Ints w' x n c (rowL op).1)∧Below w.heap.size w w'

theorem l3row_1 (w:World):Calls Tryz.prog 137 #[.int .i64 1] w (RwAns 1 w):=by
 go_enter Tryz.func137,Tryz.ntmps137
 go_wp2_with fail
 exact bodyPost_ret (v:=.tuple #[.slice none 0 0,.int .i64 2]) (by simp [results,Tryz.results137,go_sem]) rfl ⟨⟨_,_,_,rfl,ints_none w⟩,Below.refl _ _⟩

theorem l3row_2 (w:World):Calls Tryz.prog 137 #[.int .i64 2] w (RwAns 2 w):=by
 go_enter Tryz.func137,Tryz.ntmps137
 go_wp2_with fail
 exact bodyPost_ret (v:=.tuple #[.slice none 0 0,.int .i64 3]) (by simp [results,Tryz.results137,go_sem]) rfl ⟨⟨_,_,_,rfl,ints_none w⟩,Below.refl _ _⟩

theorem l3row_3 (w:World):Calls Tryz.prog 137 #[.int .i64 3] w (RwAns 3 w):=by
 go_enter Tryz.func137,Tryz.ntmps137
 go_wp2_with fail
 exact bodyPost_ret (v:=.tuple #[.slice none 0 0,.int .i64 1]) (by simp [results,Tryz.results137,go_sem]) rfl ⟨⟨_,_,_,rfl,ints_none w⟩,Below.refl _ _⟩

theorem l3row_4 (w:World):Calls Tryz.prog 137 #[.int .i64 4] w (RwAns 4 w):=by
 go_enter Tryz.func137,Tryz.ntmps137
 go_wp2_with fail
 exact bodyPost_ret (v:=.tuple #[.slice none 0 0,.int .i64 4]) (by simp [results,Tryz.results137,go_sem]) rfl ⟨⟨_,_,_,rfl,ints_none w⟩,Below.refl _ _⟩

theorem l3row_8 (w:World):Calls Tryz.prog 137 #[.int .i64 8] w (RwAns 8 w):=by
 have I:=ints_new w 3 [2] (by decide)
 have B0:=(Below.refl w.heap.size w).alloc nl (.cells #[.int .i64 2] 3)
 go_enter Tryz.func137,Tryz.ntmps137
 go_wp2_with fail
 exact bodyPost_ret (v:=.tuple #[.slice (some ⟨w.heap.size,0,none⟩) 1 1,.int .i64 2]) (by simp [results,Tryz.results137,go_sem]) rfl ⟨⟨_,_,_,rfl,I⟩,B0⟩

theorem l3row_9 (w:World):Calls Tryz.prog 137 #[.int .i64 9] w (RwAns 9 w):=by
 have I:=ints_new w 3 [1] (by decide)
 have B0:=(Below.refl w.heap.size w).alloc nl (.cells #[.int .i64 1] 3)
 go_enter Tryz.func137,Tryz.ntmps137
 go_wp2_with fail
 exact bodyPost_ret (v:=.tuple #[.slice (some ⟨w.heap.size,0,none⟩) 1 1,.int .i64 1]) (by simp [results,Tryz.results137,go_sem]) rfl ⟨⟨_,_,_,rfl,I⟩,B0⟩

theorem l3row_10 (w:World):Calls Tryz.prog 137 #[.int .i64 10] w (RwAns 10 w):=by
 have I:=ints_new w 3 [4] (by decide)
 have B0:=(Below.refl w.heap.size w).alloc nl (.cells #[.int .i64 4] 3)
 go_enter Tryz.func137,Tryz.ntmps137
 go_wp2_with fail
 exact bodyPost_ret (v:=.tuple #[.slice (some ⟨w.heap.size,0,none⟩) 1 1,.int .i64 2]) (by simp [results,Tryz.results137,go_sem]) rfl ⟨⟨_,_,_,rfl,I⟩,B0⟩

theorem l3row_11 (w:World):Calls Tryz.prog 137 #[.int .i64 11] w (RwAns 11 w):=by
 have I:=ints_new w 3 [2,2] (by decide)
 have B0:=(Below.refl w.heap.size w).alloc nl (.cells #[.int .i64 2,.int .i64 2] 3)
 go_enter Tryz.func137,Tryz.ntmps137
 go_wp2_with fail
 exact bodyPost_ret (v:=.tuple #[.slice (some ⟨w.heap.size,0,none⟩) 2 2,.int .i64 2]) (by simp [results,Tryz.results137,go_sem]) rfl ⟨⟨_,_,_,rfl,I⟩,B0⟩

theorem l3row_12 (w:World):Calls Tryz.prog 137 #[.int .i64 12] w (RwAns 12 w):=by
 have I:=ints_new w 3 [2,2] (by decide)
 have B0:=(Below.refl w.heap.size w).alloc nl (.cells #[.int .i64 2,.int .i64 2] 3)
 go_enter Tryz.func137,Tryz.ntmps137
 go_wp2_with fail
 exact bodyPost_ret (v:=.tuple #[.slice (some ⟨w.heap.size,0,none⟩) 2 2,.int .i64 2]) (by simp [results,Tryz.results137,go_sem]) rfl ⟨⟨_,_,_,rfl,I⟩,B0⟩

theorem l3row_13 (w:World):Calls Tryz.prog 137 #[.int .i64 13] w (RwAns 13 w):=by
 have I:=ints_new w 3 [2,2] (by decide)
 have B0:=(Below.refl w.heap.size w).alloc nl (.cells #[.int .i64 2,.int .i64 2] 3)
 go_enter Tryz.func137,Tryz.ntmps137
 go_wp2_with fail
 exact bodyPost_ret (v:=.tuple #[.slice (some ⟨w.heap.size,0,none⟩) 2 2,.int .i64 2]) (by simp [results,Tryz.results137,go_sem]) rfl ⟨⟨_,_,_,rfl,I⟩,B0⟩

theorem l3row_14 (w:World):Calls Tryz.prog 137 #[.int .i64 14] w (RwAns 14 w):=by
 have I:=ints_new w 3 [2,2] (by decide)
 have B0:=(Below.refl w.heap.size w).alloc nl (.cells #[.int .i64 2,.int .i64 2] 3)
 go_enter Tryz.func137,Tryz.ntmps137
 go_wp2_with fail
 exact bodyPost_ret (v:=.tuple #[.slice (some ⟨w.heap.size,0,none⟩) 2 2,.int .i64 2]) (by simp [results,Tryz.results137,go_sem]) rfl ⟨⟨_,_,_,rfl,I⟩,B0⟩

theorem l3row_15 (w:World):Calls Tryz.prog 137 #[.int .i64 15] w (RwAns 15 w):=by
 have I:=ints_new w 3 [2,2] (by decide)
 have B0:=(Below.refl w.heap.size w).alloc nl (.cells #[.int .i64 2,.int .i64 2] 3)
 go_enter Tryz.func137,Tryz.ntmps137
 go_wp2_with fail
 exact bodyPost_ret (v:=.tuple #[.slice (some ⟨w.heap.size,0,none⟩) 2 2,.int .i64 2]) (by simp [results,Tryz.results137,go_sem]) rfl ⟨⟨_,_,_,rfl,I⟩,B0⟩

theorem l3row_16 (w:World):Calls Tryz.prog 137 #[.int .i64 16] w (RwAns 16 w):=by
 have I:=ints_new w 3 [4,4] (by decide)
 have B0:=(Below.refl w.heap.size w).alloc nl (.cells #[.int .i64 4,.int .i64 4] 3)
 go_enter Tryz.func137,Tryz.ntmps137
 go_wp2_with fail
 exact bodyPost_ret (v:=.tuple #[.slice (some ⟨w.heap.size,0,none⟩) 2 2,.int .i64 4]) (by simp [results,Tryz.results137,go_sem]) rfl ⟨⟨_,_,_,rfl,I⟩,B0⟩

theorem l3row_17 (w:World):Calls Tryz.prog 137 #[.int .i64 17] w (RwAns 17 w):=by
 have I:=ints_new w 3 [4,4] (by decide)
 have B0:=(Below.refl w.heap.size w).alloc nl (.cells #[.int .i64 4,.int .i64 4] 3)
 go_enter Tryz.func137,Tryz.ntmps137
 go_wp2_with fail
 exact bodyPost_ret (v:=.tuple #[.slice (some ⟨w.heap.size,0,none⟩) 2 2,.int .i64 4]) (by simp [results,Tryz.results137,go_sem]) rfl ⟨⟨_,_,_,rfl,I⟩,B0⟩

theorem l3row_18 (w:World):Calls Tryz.prog 137 #[.int .i64 18] w (RwAns 18 w):=by
 have I:=ints_new w 3 [4,4] (by decide)
 have B0:=(Below.refl w.heap.size w).alloc nl (.cells #[.int .i64 4,.int .i64 4] 3)
 go_enter Tryz.func137,Tryz.ntmps137
 go_wp2_with fail
 exact bodyPost_ret (v:=.tuple #[.slice (some ⟨w.heap.size,0,none⟩) 2 2,.int .i64 4]) (by simp [results,Tryz.results137,go_sem]) rfl ⟨⟨_,_,_,rfl,I⟩,B0⟩

theorem l3row_19 (w:World):Calls Tryz.prog 137 #[.int .i64 19] w (RwAns 19 w):=by
 have I:=ints_new w 3 [0,0] (by decide)
 have B0:=(Below.refl w.heap.size w).alloc nl (.cells #[.int .i64 0,.int .i64 0] 3)
 go_enter Tryz.func137,Tryz.ntmps137
 go_wp2_with fail
 exact bodyPost_ret (v:=.tuple #[.slice (some ⟨w.heap.size,0,none⟩) 2 2,.int .i64 1]) (by simp [results,Tryz.results137,go_sem]) rfl ⟨⟨_,_,_,rfl,I⟩,B0⟩

theorem l3row_20 (w:World):Calls Tryz.prog 137 #[.int .i64 20] w (RwAns 20 w):=by
 have I:=ints_new w 3 [0,0] (by decide)
 have B0:=(Below.refl w.heap.size w).alloc nl (.cells #[.int .i64 0,.int .i64 0] 3)
 go_enter Tryz.func137,Tryz.ntmps137
 go_wp2_with fail
 exact bodyPost_ret (v:=.tuple #[.slice (some ⟨w.heap.size,0,none⟩) 2 2,.int .i64 1]) (by simp [results,Tryz.results137,go_sem]) rfl ⟨⟨_,_,_,rfl,I⟩,B0⟩

theorem l3row_21 (w:World):Calls Tryz.prog 137 #[.int .i64 21] w (RwAns 21 w):=by
 have I:=ints_new w 3 [2,2] (by decide)
 have B0:=(Below.refl w.heap.size w).alloc nl (.cells #[.int .i64 2,.int .i64 2] 3)
 go_enter Tryz.func137,Tryz.ntmps137
 go_wp2_with fail
 exact bodyPost_ret (v:=.tuple #[.slice (some ⟨w.heap.size,0,none⟩) 2 2,.int .i64 1]) (by simp [results,Tryz.results137,go_sem]) rfl ⟨⟨_,_,_,rfl,I⟩,B0⟩

theorem l3row_22 (w:World):Calls Tryz.prog 137 #[.int .i64 22] w (RwAns 22 w):=by
 have I:=ints_new w 3 [2,2] (by decide)
 have B0:=(Below.refl w.heap.size w).alloc nl (.cells #[.int .i64 2,.int .i64 2] 3)
 go_enter Tryz.func137,Tryz.ntmps137
 go_wp2_with fail
 exact bodyPost_ret (v:=.tuple #[.slice (some ⟨w.heap.size,0,none⟩) 2 2,.int .i64 1]) (by simp [results,Tryz.results137,go_sem]) rfl ⟨⟨_,_,_,rfl,I⟩,B0⟩

theorem l3row_23 (w:World):Calls Tryz.prog 137 #[.int .i64 23] w (RwAns 23 w):=by
 have I:=ints_new w 3 [3,4] (by decide)
 have B0:=(Below.refl w.heap.size w).alloc nl (.cells #[.int .i64 3,.int .i64 4] 3)
 go_enter Tryz.func137,Tryz.ntmps137
 go_wp2_with fail
 exact bodyPost_ret (v:=.tuple #[.slice (some ⟨w.heap.size,0,none⟩) 2 2,.int .i64 1]) (by simp [results,Tryz.results137,go_sem]) rfl ⟨⟨_,_,_,rfl,I⟩,B0⟩

theorem l3row_24 (w:World):Calls Tryz.prog 137 #[.int .i64 24] w (RwAns 24 w):=by
 have I:=ints_new w 3 [4,4] (by decide)
 have B0:=(Below.refl w.heap.size w).alloc nl (.cells #[.int .i64 4,.int .i64 4] 3)
 go_enter Tryz.func137,Tryz.ntmps137
 go_wp2_with fail
 exact bodyPost_ret (v:=.tuple #[.slice (some ⟨w.heap.size,0,none⟩) 2 2,.int .i64 1]) (by simp [results,Tryz.results137,go_sem]) rfl ⟨⟨_,_,_,rfl,I⟩,B0⟩

theorem l3row_25 (w:World):Calls Tryz.prog 137 #[.int .i64 25] w (RwAns 25 w):=by
 have I:=ints_new w 3 [1,1] (by decide)
 have B0:=(Below.refl w.heap.size w).alloc nl (.cells #[.int .i64 1,.int .i64 1] 3)
 go_enter Tryz.func137,Tryz.ntmps137
 go_wp2_with fail
 exact bodyPost_ret (v:=.tuple #[.slice (some ⟨w.heap.size,0,none⟩) 2 2,.int .i64 1]) (by simp [results,Tryz.results137,go_sem]) rfl ⟨⟨_,_,_,rfl,I⟩,B0⟩

theorem l3row_26 (w:World):Calls Tryz.prog 137 #[.int .i64 26] w (RwAns 26 w):=by
 have I:=ints_new w 3 [1,1] (by decide)
 have B0:=(Below.refl w.heap.size w).alloc nl (.cells #[.int .i64 1,.int .i64 1] 3)
 go_enter Tryz.func137,Tryz.ntmps137
 go_wp2_with fail
 exact bodyPost_ret (v:=.tuple #[.slice (some ⟨w.heap.size,0,none⟩) 2 2,.int .i64 1]) (by simp [results,Tryz.results137,go_sem]) rfl ⟨⟨_,_,_,rfl,I⟩,B0⟩

theorem l3row_27 (w:World):Calls Tryz.prog 137 #[.int .i64 27] w (RwAns 27 w):=by
 have I:=ints_new w 3 [1,0,0] (by decide)
 have B0:=(Below.refl w.heap.size w).alloc nl (.cells #[.int .i64 1,.int .i64 0,.int .i64 0] 3)
 go_enter Tryz.func137,Tryz.ntmps137
 go_wp2_with fail
 exact bodyPost_ret (v:=.tuple #[.slice (some ⟨w.heap.size,0,none⟩) 3 3,.int .i64 0]) (by simp [results,Tryz.results137,go_sem]) rfl ⟨⟨_,_,_,rfl,I⟩,B0⟩

theorem l3row_any (op:Int) (h:opOK op) (w:World):Calls Tryz.prog 137 #[.int .i64 op] w (RwAns op w):=by
 by_cases h1:op=1
 ·subst h1;exact l3row_1 w
 by_cases h2:op=2
 ·subst h2;exact l3row_2 w
 by_cases h3:op=3
 ·subst h3;exact l3row_3 w
 by_cases h4:op=4
 ·subst h4;exact l3row_4 w
 by_cases h8:op=8
 ·subst h8;exact l3row_8 w
 by_cases h9:op=9
 ·subst h9;exact l3row_9 w
 by_cases h10:op=10
 ·subst h10;exact l3row_10 w
 by_cases h11:op=11
 ·subst h11;exact l3row_11 w
 by_cases h12:op=12
 ·subst h12;exact l3row_12 w
 by_cases h13:op=13
 ·subst h13;exact l3row_13 w
 by_cases h14:op=14
 ·subst h14;exact l3row_14 w
 by_cases h15:op=15
 ·subst h15;exact l3row_15 w
 by_cases h16:op=16
 ·subst h16;exact l3row_16 w
 by_cases h17:op=17
 ·subst h17;exact l3row_17 w
 by_cases h18:op=18
 ·subst h18;exact l3row_18 w
 by_cases h19:op=19
 ·subst h19;exact l3row_19 w
 by_cases h20:op=20
 ·subst h20;exact l3row_20 w
 by_cases h21:op=21
 ·subst h21;exact l3row_21 w
 by_cases h22:op=22
 ·subst h22;exact l3row_22 w
 by_cases h23:op=23
 ·subst h23;exact l3row_23 w
 by_cases h24:op=24
 ·subst h24;exact l3row_24 w
 by_cases h25:op=25
 ·subst h25;exact l3row_25 w
 by_cases h26:op=26
 ·subst h26;exact l3row_26 w
 by_cases h27:op=27
 ·subst h27;exact l3row_27 w
 exfalso
 unfold opOK at h
 omega

end Go.Proofs.YtedlocniojlhfaaGreatDoor
