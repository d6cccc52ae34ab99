/-
  The walk over the model's l2one: signs. Own work.
-/
import Derived.Test.YtcpdodmoheebaaaGreatDoorMXAM
import Derived.Lib.SmallJoins
namespace Go.Proofs.YtcpdodmoheebaaaGreatDoor
set_option maxRecDepth 100000
set_option maxHeartbeats 6400000
open Go.RowKit
set_option linter.unusedVariables false
def Ej (L:List UInt8):Array Value:=(L.map fun c=>Value.int .u8 (c.toNat:Int)).toArray
theorem F7 {L:List UInt8}{k:Nat}{x:UInt8}(h:L[k]? =some x):(Ej L)[k]? =some (.int .u8 (x.toNat:Int)):=by
 simp [Ej,h]
def CH (L:List UInt8) (k:Nat) (c:UInt8):Prop:=∀ i,i < k→L[i]? ≠some c
theorem CH.next {L:List UInt8}{k:Nat}{c x:UInt8}(h:CH L k c)(hx:L[k]? =some x)(a:((c.toNat:Int)==(x.toNat:Int))=false):CH L (k+1) c:=fun b f e=>by
 by_cases d:b=k
 ·subst d;rw [hx] at e
  rw [beq_eq_false_iff_ne] at a
  exact a (by rw [Option.some.inj e])
 ·exact h b (by omega) e
theorem CH.all {L:List UInt8}{c:UInt8}(h:CH L L.length c):L.contains c=false:=by
 rw [← Bool.not_eq_true,List.contains_iff_mem]
 intro hm
 obtain ⟨b,a,e⟩:=List.getElem_of_mem hm
 exact h b a (by rw [List.getElem?_eq_getElem a,e])
theorem Ii {L:List UInt8}{k:Nat}{c x:UInt8}(hx:L[k]? =some x)(a:((c.toNat:Int)==(x.toNat:Int))=true):L.contains c=true:=by
 rw [beq_iff_eq] at a
 have e:c=x:=UInt8.toNat_inj.1 (by omega)
 rw [e,List.contains_iff_mem];exact List.mem_of_getElem? hx
theorem J0 {s:ByteArray}{j:Nat}(h: ¬ j+1 < s.size):AV.contains (((Ad s).drop j).take 2)=false:=by
 rw [← Bool.not_eq_true,List.contains_iff_mem]
 intro hm
 have hl:(((Ad s).drop j).take 2).length≤1:=by rw [List.length_take,List.length_drop,Ag];omega
 have:∀ x∈AV,x.length=2:=by decide
 have:=this _ hm
 omega
theorem Ij {s:ByteArray}{j:Nat}(h:j < s.size):s.extract j (j+1)=Bo [s[j]]:=by
 rw [GF,AD s j h,show j+1 - j=1 by omega];rfl
theorem IZ (s:ByteArray)(j:Nat)(w:World)(hs:s.size≤1048576)(Q:j < s.size)(hl:DO (s[j].toNat:Int)=false)(R:dgI (s[j].toNat:Int)=false)(ad: ¬ (s[j].toNat:Int)=34):
  Calls Tryz.prog 11 #[.string s,.int .i64 j] w fun e w'=>BQ j (AA s[j] ((Ad s).drop j)) e∧Below w.heap.size w w':=by
 have ai:(j:Int) < (s.size:Int):=by omega
 have aj:=beq_eq_false_iff_ne.2 ad
 obtain ⟨m,S,T,G,U,V⟩:=CZ w j
 have W:=Ab hl
 have Y:=Ab R
 clear hl R
 obtain ⟨r,c1,c2,c3,t⟩:=An G
 have H:=G.set 0 (.int .i64 5)
 have J:=T.setFar (p:=⟨w.heap.size+1,0,none⟩) (by show w.heap.size≠w.heap.size+1;omega) (.int .i64 5)
 have K:=U.setCell (p:=⟨w.heap.size+1,0,none⟩) (by show w.heap.size≤w.heap.size+1;omega) (.int .i64 5)
 have z:(m.setCell ⟨w.heap.size+1,0,none⟩ (.int .i64 5)).heap.size=w.heap.size+2:=by simp [V]
 simp only [List.setIfInBounds_toArray,List.set_cons_zero] at H
 by_cases h2:j+1 < s.size
 ·have ae:(j:Int)+1 < (s.size:Int):=by omega
  have ak:(j:Int)+2≤(s.size:Int):=by omega
  have I:=J.alloc (.cells #[.string ⟨#[61,62]⟩,.string ⟨#[61,61]⟩,.string ⟨#[33,61]⟩,.string ⟨#[60,61]⟩] 9)
  have L:=H.alloc (.cells #[.string ⟨#[61,62]⟩,.string ⟨#[61,61]⟩,.string ⟨#[33,61]⟩,.string ⟨#[60,61]⟩] 9)
  have M:=K.alloc (by omega) (.cells #[.string ⟨#[61,62]⟩,.string ⟨#[61,61]⟩,.string ⟨#[33,61]⟩,.string ⟨#[60,61]⟩] 9)
  have N:Ao ((m.setCell ⟨w.heap.size+1,0,none⟩ (.int .i64 5)).alloc (.cells #[.string ⟨#[61,62]⟩,.string ⟨#[61,61]⟩,.string ⟨#[33,61]⟩,.string ⟨#[60,61]⟩] 9)) (m.setCell ⟨w.heap.size+1,0,none⟩ (.int .i64 5)).heap.size (Ek AV) 9:=Ao.new (m.setCell ⟨w.heap.size+1,0,none⟩ (.int .i64 5)) (Ek AV) 9
  rw [z] at N
  have O:((m.setCell ⟨w.heap.size+1,0,none⟩ (.int .i64 5)).alloc (.cells #[.string ⟨#[61,62]⟩,.string ⟨#[61,61]⟩,.string ⟨#[33,61]⟩,.string ⟨#[60,61]⟩] 9)).heap.size=w.heap.size+3:=by rw [World.size_alloc,z]
  go_enter Tryz.func11,Tryz.ntmps11
  go_wp2_with (first | (go_at_call 21;refine (Am _ _).mono ?_;rintro e w' ⟨rfl,n⟩;rw [Aa W,n];clear n) | (go_at_call 24;refine (Au _ _).mono ?_;rintro e w' ⟨rfl,n⟩;rw [Aa Y,n];clear n))
  clear S
  generalize (m.setCell ⟨w.heap.size+1,0,none⟩ (.int .i64 5)).alloc (.cells #[.string ⟨#[61,62]⟩,.string ⟨#[61,61]⟩,.string ⟨#[33,61]⟩,.string ⟨#[60,61]⟩] 9)=y at I L M N O ⊢
  clear J H K z T G U V r c1 c2 c3 t
  obtain ⟨r,c1,c2,c3,t⟩:=An L
  obtain ⟨A,d1,d2,d3,B⟩:=An I
  have Z:=Ab (show Ad (s.extract j (j+2))=((Ad s).drop j).take 2 by rw [AC,show j+2 - j=2 by omega])
  go_loop [173] (fun d=>∃ k:Nat,k≤4∧d= .int .i64 k∧CI AV k (Ad (s.extract j (j+2)))) (fun d=>4 - (intOf d).toNat)
  case atStart=>exact ⟨0,by omega,rfl,fun d aa=>by omega⟩
  case round=>
   obtain ⟨k,ab,rfl,a⟩:=hrel
   by_cases u:k < 4
   ·have ac:(k:Int) < 4:=by omega
    obtain ⟨x,hx⟩:∃ x,AV[k]? =some x:=⟨AV[k]'u,List.getElem?_eq_getElem u⟩
    have hc:=(N.cell k).trans (F8 hx)
    rcases Bool.eq_false_or_eq_true ((s.extract j (j+2)).toList==(Bo x).toList) with h | h
    ·have af:=Ab (show ((Ad s).drop j).take 2=x by rw [← Aa Z];exact DP h)
     have c:=Ab (F9 hx)
     clear a hx
     go_wp2_with fail
     have o:=Ac (b:=w.heap.size) (M.setCell (p:=⟨w.heap.size+1,2,none⟩) (by show w.heap.size≤w.heap.size+1;omega) (.string (Bo x))) (Nat.le_refl _) (.int .i64 5) (.int .i64 0) (.string (Bo x)) (.int .i64 j)
     obtain ⟨f,g,i,l,_⟩:=An (Aj (I.setFar (p:=⟨w.heap.size+1,2,none⟩) (by show w.heap.size≠w.heap.size+1;omega) (.string (Bo x))) (.int .i64 5) (.int .i64 0) (.string (Bo x)) (.int .i64 j))
     simp only [AY] at f g i l
     refine bodyPost_ret (Ah Tryz.results11 rfl f g i l) rfl ⟨?_,o⟩
     rw [AA,Aa af,if_pos (Aa c)]
     simp only [BQ]
     rw [Int.natCast_add];rfl
    ·have c:=Ab (a.next hx (Df h))
     clear a hx
     go_wp2
     go_round
     case rel=>exact ⟨k+1,by omega,by go_num,Aa c⟩
     case measure=>simp [intOf];omega
   ·have ek:k=4:=by omega
    subst ek
    have C:=Ab (show AV.contains (((Ad s).drop j).take 2)=false by rw [← Aa Z];exact CI.all a)
    clear a r c1 c2 c3 t A d1 d2 d3 B
    have q:=Ao.alloc I (.cells #[.int .u8 60,.int .u8 43,.int .u8 45,.int .u8 42,.int .u8 47,.int .u8 37,.int .u8 124,.int .u8 38,.int .u8 92,.int .u8 40,.int .u8 41,.int .u8 123,.int .u8 125,.int .u8 44,.int .u8 59,.int .u8 61] 5 (16,17))
    have D:=Ao.alloc L (.cells #[.int .u8 60,.int .u8 43,.int .u8 45,.int .u8 42,.int .u8 47,.int .u8 37,.int .u8 124,.int .u8 38,.int .u8 92,.int .u8 40,.int .u8 41,.int .u8 123,.int .u8 125,.int .u8 44,.int .u8 59,.int .u8 61] 5 (16,17))
    have v:=Below.alloc M (by omega) (.cells #[.int .u8 60,.int .u8 43,.int .u8 45,.int .u8 42,.int .u8 47,.int .u8 37,.int .u8 124,.int .u8 38,.int .u8 92,.int .u8 40,.int .u8 41,.int .u8 123,.int .u8 125,.int .u8 44,.int .u8 59,.int .u8 61] 5 (16,17))
    have E:∀ k,(y.alloc (.cells #[.int .u8 60,.int .u8 43,.int .u8 45,.int .u8 42,.int .u8 47,.int .u8 37,.int .u8 124,.int .u8 38,.int .u8 92,.int .u8 40,.int .u8 41,.int .u8 123,.int .u8 125,.int .u8 44,.int .u8 59,.int .u8 61] 5 (16,17))).cell? ⟨w.heap.size+3,k,none⟩=(Ej BL)[k]? :=fun k=>by
     rw [← O];exact World.cell?_alloc_mark (y) (Ej BL) 5 (16,17) k
    have P:(convert 22 22 (.slice (some ⟨w.heap.size+3,0,none⟩) 16 16)).run Tryz.prog (y.alloc (.cells #[.int .u8 60,.int .u8 43,.int .u8 45,.int .u8 42,.int .u8 47,.int .u8 37,.int .u8 124,.int .u8 38,.int .u8 92,.int .u8 40,.int .u8 41,.int .u8 123,.int .u8 125,.int .u8 44,.int .u8 59,.int .u8 61] 5))= .ok (.slice (some ⟨w.heap.size+3,0,none⟩) 16 16) (y.alloc (.cells #[.int .u8 60,.int .u8 43,.int .u8 45,.int .u8 42,.int .u8 47,.int .u8 37,.int .u8 124,.int .u8 38,.int .u8 92,.int .u8 40,.int .u8 41,.int .u8 123,.int .u8 125,.int .u8 44,.int .u8 59,.int .u8 61] 5 (16,17))):=
     Go.Joins.run_convert_bytes_const_at (y) 22 5 #[.int .u8 60,.int .u8 43,.int .u8 45,.int .u8 42,.int .u8 47,.int .u8 37,.int .u8 124,.int .u8 38,.int .u8 92,.int .u8 40,.int .u8 41,.int .u8 123,.int .u8 125,.int .u8 44,.int .u8 59,.int .u8 61] 16 16 (w.heap.size+3) O.symm Tryz.underlying22 Tryz.underlying5
    obtain ⟨A,d1,d2,d3,B⟩:=An q
    obtain ⟨r,c1,c2,c3,t⟩:=An D
    go_wp2_with fail
    clear P
    have F:=Ab E
    clear E
    generalize y.alloc (.cells #[.int .u8 60,.int .u8 43,.int .u8 45,.int .u8 42,.int .u8 47,.int .u8 37,.int .u8 124,.int .u8 38,.int .u8 92,.int .u8 40,.int .u8 41,.int .u8 123,.int .u8 125,.int .u8 44,.int .u8 59,.int .u8 61] 5 (16,17))=X at q D v F A d1 d2 d3 B r c1 c2 c3 t ⊢
    go_loop [193] (fun d=>∃ k:Nat,k≤16∧d= .int .i64 k∧CH BL k s[j]) (fun d=>16 - (intOf d).toNat)
    case atStart=>exact ⟨0,by omega,rfl,fun d aa=>by omega⟩
    case round=>
     obtain ⟨k,ab,rfl,a⟩:=hrel
     by_cases u:k < 16
     ·have ac:(k:Int) < 16:=by omega
      obtain ⟨x,hx⟩:∃ x,BL[k]? =some x:=⟨BL[k]'u,List.getElem?_eq_getElem u⟩
      have hc:=(Aa F k).trans (F7 hx)
      rcases Bool.eq_false_or_eq_true ((s[j].toNat:Int)==(x.toNat:Int)) with h | h
      ·have c:=Ab (Ii hx h)
       have ag:(x.toNat:Int)=(s[j].toNat:Int):=(beq_iff_eq.1 h).symm
       have ah:(j:Int)+1≤(s.size:Int):=by omega
       clear a hx
       go_wp2_with fail
       have o:=Ac (b:=w.heap.size) (v.setCell (p:=⟨w.heap.size+1,2,none⟩) (by show w.heap.size≤w.heap.size+1;omega) (.string (s.extract j (j+1)))) (Nat.le_refl _) (.int .i64 5) (.int .i64 0) (.string (s.extract j (j+1))) (.int .i64 j)
       obtain ⟨f,g,i,l,_⟩:=An (Aj (q.setFar (p:=⟨w.heap.size+1,2,none⟩) (by show w.heap.size≠w.heap.size+1;omega) (.string (s.extract j (j+1)))) (.int .i64 5) (.int .i64 0) (.string (s.extract j (j+1))) (.int .i64 j))
       simp only [AY] at f g i l
       refine bodyPost_ret (Ah Tryz.results11 rfl f g i l) rfl ⟨?_,o⟩
       rw [AA,if_neg (by rw [Aa C];decide),if_pos (Aa c),Ij Q]
       simp only [BQ]
       rw [Int.natCast_add];rfl
      ·have c:=Ab (a.next hx h)
       clear a hx
       go_wp2
       go_round
       case rel=>exact ⟨k+1,by omega,by go_num,Aa c⟩
       case measure=>simp [intOf];omega
     ·have ek:k=16:=by omega
      subst ek
      have c:=Ab (CH.all a)
      clear a
      go_wp2_with fail
      have o:=Ac (b:=w.heap.size) v (Nat.le_refl _) (.int .i64 5) (.int .i64 0) (.string ⟨#[]⟩) (.int .i64 j)
      obtain ⟨f,g,i,l,_⟩:=An (Aj q (.int .i64 5) (.int .i64 0) (.string ⟨#[]⟩) (.int .i64 j))
      simp only [AY] at f g i l
      refine bodyPost_ret (Ah Tryz.results11 rfl f g i l) rfl ⟨?_,o⟩
      rw [AA,if_neg (by rw [Aa C];decide),if_neg (by rw [Aa c];decide)]
      exact ⟨_,_,_,_,rfl⟩
 ·have ae: ¬ ((j:Int)+1 < (s.size:Int)):=by omega
  have C:=Ab (J0 h2)
  clear r c1 c2 c3 t
  obtain ⟨al,e1,e2,e3,ao⟩:=An G
  have q:=Ao.alloc J (.cells #[.int .u8 60,.int .u8 43,.int .u8 45,.int .u8 42,.int .u8 47,.int .u8 37,.int .u8 124,.int .u8 38,.int .u8 92,.int .u8 40,.int .u8 41,.int .u8 123,.int .u8 125,.int .u8 44,.int .u8 59,.int .u8 61] 5 (16,17))
  have D:=Ao.alloc H (.cells #[.int .u8 60,.int .u8 43,.int .u8 45,.int .u8 42,.int .u8 47,.int .u8 37,.int .u8 124,.int .u8 38,.int .u8 92,.int .u8 40,.int .u8 41,.int .u8 123,.int .u8 125,.int .u8 44,.int .u8 59,.int .u8 61] 5 (16,17))
  have v:=Below.alloc K (by omega) (.cells #[.int .u8 60,.int .u8 43,.int .u8 45,.int .u8 42,.int .u8 47,.int .u8 37,.int .u8 124,.int .u8 38,.int .u8 92,.int .u8 40,.int .u8 41,.int .u8 123,.int .u8 125,.int .u8 44,.int .u8 59,.int .u8 61] 5 (16,17))
  have E:∀ k,((m.setCell ⟨w.heap.size+1,0,none⟩ (.int .i64 5)).alloc (.cells #[.int .u8 60,.int .u8 43,.int .u8 45,.int .u8 42,.int .u8 47,.int .u8 37,.int .u8 124,.int .u8 38,.int .u8 92,.int .u8 40,.int .u8 41,.int .u8 123,.int .u8 125,.int .u8 44,.int .u8 59,.int .u8 61] 5 (16,17))).cell? ⟨w.heap.size+2,k,none⟩=(Ej BL)[k]? :=fun k=>by
   rw [← z];exact World.cell?_alloc_mark (m.setCell ⟨w.heap.size+1,0,none⟩ (.int .i64 5)) (Ej BL) 5 (16,17) k
  have P:(convert 22 22 (.slice (some ⟨w.heap.size+2,0,none⟩) 16 16)).run Tryz.prog ((m.setCell ⟨w.heap.size+1,0,none⟩ (.int .i64 5)).alloc (.cells #[.int .u8 60,.int .u8 43,.int .u8 45,.int .u8 42,.int .u8 47,.int .u8 37,.int .u8 124,.int .u8 38,.int .u8 92,.int .u8 40,.int .u8 41,.int .u8 123,.int .u8 125,.int .u8 44,.int .u8 59,.int .u8 61] 5))= .ok (.slice (some ⟨w.heap.size+2,0,none⟩) 16 16) ((m.setCell ⟨w.heap.size+1,0,none⟩ (.int .i64 5)).alloc (.cells #[.int .u8 60,.int .u8 43,.int .u8 45,.int .u8 42,.int .u8 47,.int .u8 37,.int .u8 124,.int .u8 38,.int .u8 92,.int .u8 40,.int .u8 41,.int .u8 123,.int .u8 125,.int .u8 44,.int .u8 59,.int .u8 61] 5 (16,17))):=
   Go.Joins.run_convert_bytes_const_at (m.setCell ⟨w.heap.size+1,0,none⟩ (.int .i64 5)) 22 5 #[.int .u8 60,.int .u8 43,.int .u8 45,.int .u8 42,.int .u8 47,.int .u8 37,.int .u8 124,.int .u8 38,.int .u8 92,.int .u8 40,.int .u8 41,.int .u8 123,.int .u8 125,.int .u8 44,.int .u8 59,.int .u8 61] 16 16 (w.heap.size+2) z.symm Tryz.underlying22 Tryz.underlying5
  obtain ⟨A,d1,d2,d3,B⟩:=An q
  obtain ⟨r,c1,c2,c3,t⟩:=An D
  go_enter Tryz.func11,Tryz.ntmps11
  go_wp2_with (first | (go_at_call 21;refine (Am _ _).mono ?_;rintro e w' ⟨rfl,n⟩;rw [Aa W,n];clear n) | (go_at_call 24;refine (Au _ _).mono ?_;rintro e w' ⟨rfl,n⟩;rw [Aa Y,n];clear n))
  clear S
  clear P
  have F:=Ab E
  clear E
  generalize (m.setCell ⟨w.heap.size+1,0,none⟩ (.int .i64 5)).alloc (.cells #[.int .u8 60,.int .u8 43,.int .u8 45,.int .u8 42,.int .u8 47,.int .u8 37,.int .u8 124,.int .u8 38,.int .u8 92,.int .u8 40,.int .u8 41,.int .u8 123,.int .u8 125,.int .u8 44,.int .u8 59,.int .u8 61] 5 (16,17))=X at q D v F A d1 d2 d3 B r c1 c2 c3 t ⊢
  go_loop [193] (fun d=>∃ k:Nat,k≤16∧d= .int .i64 k∧CH BL k s[j]) (fun d=>16 - (intOf d).toNat)
  case atStart=>exact ⟨0,by omega,rfl,fun d aa=>by omega⟩
  case round=>
   obtain ⟨k,ab,rfl,a⟩:=hrel
   by_cases u:k < 16
   ·have ac:(k:Int) < 16:=by omega
    obtain ⟨x,hx⟩:∃ x,BL[k]? =some x:=⟨BL[k]'u,List.getElem?_eq_getElem u⟩
    have hc:=(Aa F k).trans (F7 hx)
    rcases Bool.eq_false_or_eq_true ((s[j].toNat:Int)==(x.toNat:Int)) with h | h
    ·have c:=Ab (Ii hx h)
     have ag:(x.toNat:Int)=(s[j].toNat:Int):=(beq_iff_eq.1 h).symm
     have ah:(j:Int)+1≤(s.size:Int):=by omega
     clear a hx
     go_wp2_with fail
     have o:=Ac (b:=w.heap.size) (v.setCell (p:=⟨w.heap.size+1,2,none⟩) (by show w.heap.size≤w.heap.size+1;omega) (.string (s.extract j (j+1)))) (Nat.le_refl _) (.int .i64 5) (.int .i64 0) (.string (s.extract j (j+1))) (.int .i64 j)
     obtain ⟨f,g,i,l,_⟩:=An (Aj (q.setFar (p:=⟨w.heap.size+1,2,none⟩) (by show w.heap.size≠w.heap.size+1;omega) (.string (s.extract j (j+1)))) (.int .i64 5) (.int .i64 0) (.string (s.extract j (j+1))) (.int .i64 j))
     simp only [AY] at f g i l
     refine bodyPost_ret (Ah Tryz.results11 rfl f g i l) rfl ⟨?_,o⟩
     rw [AA,if_neg (by rw [Aa C];decide),if_pos (Aa c),Ij Q]
     simp only [BQ]
     rw [Int.natCast_add];rfl
    ·have c:=Ab (a.next hx h)
     clear a hx
     go_wp2
     go_round
     case rel=>exact ⟨k+1,by omega,by go_num,Aa c⟩
     case measure=>simp [intOf];omega
   ·have ek:k=16:=by omega
    subst ek
    have c:=Ab (CH.all a)
    clear a
    go_wp2_with fail
    have o:=Ac (b:=w.heap.size) v (Nat.le_refl _) (.int .i64 5) (.int .i64 0) (.string ⟨#[]⟩) (.int .i64 j)
    obtain ⟨f,g,i,l,_⟩:=An (Aj q (.int .i64 5) (.int .i64 0) (.string ⟨#[]⟩) (.int .i64 j))
    simp only [AY] at f g i l
    refine bodyPost_ret (Ah Tryz.results11 rfl f g i l) rfl ⟨?_,o⟩
    rw [AA,if_neg (by rw [Aa C];decide),if_neg (by rw [Aa c];decide)]
    exact ⟨_,_,_,_,rfl⟩
end Go.Proofs.YtcpdodmoheebaaaGreatDoor
