/-
  The walk over the model's l2one: texts and signs. Own work.
-/
import Derived.Test.YtcpdodmoheebaaaGreatDoorMXAM
namespace Go.Proofs.YtcpdodmoheebaaaGreatDoor
set_option maxRecDepth 100000
set_option maxHeartbeats 6400000
open Go.RowKit
set_option linter.unusedVariables false
theorem KT {s:ByteArray}{j k:Nat}(h:s.size≤k)(a:j+1≤k):((Ad s).drop (j+1))[k - (j+1)]? ≠some 34:=by
 rw [List.getElem?_eq_none (by rw [List.length_drop,Ag];omega)]
 simp
theorem LI {s:ByteArray}{j k:Nat}(h:k < s.size)(b:j+1≤k):((Ad s).drop (j+1))[k - (j+1)]? =some s[k]:=by
 have a:k < (Ad s).length:=by rw [Ag];exact h
 rw [List.getElem?_drop,show j+1+(k - (j+1))=k by omega,List.getElem?_eq_getElem a]
 rfl
theorem I0 (s:ByteArray)(j:Nat)(w:World)(hs:s.size≤1048576)(B:j < s.size)(r:(s[j].toNat:Int)=34):
  Calls Tryz.prog 11 #[.string s,.int .i64 j] w fun e w'=>BQ j (AR ((Ad s).drop (j+1))) e∧Below w.heap.size w w':=by
 have J:(j:Int) < (s.size:Int):=by omega
 obtain ⟨K,C,m,D,o,L⟩:=CZ w j
 go_enter Tryz.func11,Tryz.ntmps11
 go_wp2_with (first | (go_at_call 21;refine (Am _ _).mono ?_;rintro e w' ⟨rfl,a⟩;rw [show DO 34=false from by decide,a];clear a) | (go_at_call 24;refine (Au _ _).mono ?_;rintro e w' ⟨rfl,a⟩;rw [show dgI 34=false from by decide,a];clear a))
 clear C
 obtain ⟨M,c1,c2,c3,N⟩:=An D
 obtain ⟨O,d1,d2,d3,P⟩:=An m
 go_loop [13] (fun t=>∃ k:Nat,j+1≤k∧k≤s.size∧t= .int .i64 k∧Bl Dw s (j+1)=Bl Dw s k) (fun t=>s.size - (intOf t).toNat)
 case atStart=>exact ⟨j+1,Nat.le_refl _,B,by go_num,rfl⟩
 case round=>
  obtain ⟨k,y,Q,rfl,he⟩:=hrel
  have z:=Ab he
  clear he
  have u:∀ (r:Bl Dw s k=k),Bl Dw s (j+1)=k:=fun r=>by rw [Aa z,r]
  by_cases v:k < s.size
  ·have E:(k:Int) < (s.size:Int):=by omega
   cases l:Dw s[k]
   ·have n:=Ab (show Ap Dw ((Ad s).drop (j+1))=k - (j+1) by have:=u (BH v l);have:=Bu Dw s (j+1);omega)
    have x:=Ab (show IP (s[k].toNat:Int)=false from l)
    have q:=Ab (LI v y)
    clear l u
    by_cases A:(s[k].toNat:Int)=34
    ·have F:=Ab (show s[k]=34 from UInt8.toNat_inj.1 (by have:(34 :UInt8).toNat=34:=rfl;omega))
     by_cases G: 32 < k - (j+1)
     ·have H:(32 :Int) < (k:Int) - (j:Int) - 1:=by omega
      go_wp2_with (go_at_call 25;refine (A5 _ _).mono ?_;rintro e w' ⟨rfl,a⟩;rw [show IP 34=false from by decide,a];clear a)
      have i:=Ac (b:=w.heap.size) (o.setCell (p:=⟨w.heap.size+1,0,none⟩) (by show w.heap.size≤w.heap.size+1;omega) (.int .i64 2)) (Nat.le_refl _) (.int .i64 2) (.int .i64 0) (.string ⟨#[]⟩) (.int .i64 j)
      obtain ⟨c,d,f,g,_⟩:=An (Aj (m.setFar (p:=⟨w.heap.size+1,0,none⟩) (by show w.heap.size≠w.heap.size+1;omega) (.int .i64 2)) (.int .i64 2) (.int .i64 0) (.string ⟨#[]⟩) (.int .i64 j))
      simp only [AY] at c d f g
      refine bodyPost_ret (Ah Tryz.results11 rfl c d f g) rfl ⟨?_,i⟩
      rw [AR,if_pos (.inl (by rw [Aa n];exact G))]
      exact ⟨_,_,_,_,rfl⟩
     ·have H: ¬ ((32 :Int) < (k:Int) - (j:Int) - 1):=by omega
      go_wp2_with (go_at_call 25;refine (A5 _ _).mono ?_;rintro e w' ⟨rfl,a⟩;rw [show IP 34=false from by decide,a];clear a)
      have i:=Ac (b:=w.heap.size) ((o.setCell (p:=⟨w.heap.size+1,0,none⟩) (by show w.heap.size≤w.heap.size+1;omega) (.int .i64 2)).setCell (p:=⟨w.heap.size+1,2,none⟩) (by show w.heap.size≤w.heap.size+1;omega) (.string (s.extract (j+1) k))) (Nat.le_refl _) (.int .i64 2) (.int .i64 0) (.string (s.extract (j+1) k)) (.int .i64 j)
      obtain ⟨c,d,f,g,_⟩:=An (Aj ((m.setFar (p:=⟨w.heap.size+1,0,none⟩) (by show w.heap.size≠w.heap.size+1;omega) (.int .i64 2)).setFar (p:=⟨w.heap.size+1,2,none⟩) (by show w.heap.size≠w.heap.size+1;omega) (.string (s.extract (j+1) k))) (.int .i64 2) (.int .i64 0) (.string (s.extract (j+1) k)) (.int .i64 j))
      simp only [AY] at c d f g
      refine bodyPost_ret (Ah Tryz.results11 rfl c d f g) rfl ⟨?_,i⟩
      rw [AR,Aa n,Aa q,if_neg (by rintro (h | h);omega;exact h (by rw [Aa F])),GF]
      simp only [BQ]
      rw [show ((j+(k - (j+1)+2):Nat):Int)=(k:Int)+1 by omega];rfl
    ·have R:=beq_eq_false_iff_ne.2 A
     go_wp2_with (go_at_call 25;refine (A5 _ _).mono ?_;rintro e w' ⟨rfl,a⟩;rw [Aa x,a];clear a)
     have i:=Ac (b:=w.heap.size) (o.setCell (p:=⟨w.heap.size+1,0,none⟩) (by show w.heap.size≤w.heap.size+1;omega) (.int .i64 2)) (Nat.le_refl _) (.int .i64 2) (.int .i64 0) (.string ⟨#[]⟩) (.int .i64 j)
     obtain ⟨c,d,f,g,_⟩:=An (Aj (m.setFar (p:=⟨w.heap.size+1,0,none⟩) (by show w.heap.size≠w.heap.size+1;omega) (.int .i64 2)) (.int .i64 2) (.int .i64 0) (.string ⟨#[]⟩) (.int .i64 j))
     simp only [AY] at c d f g
     refine bodyPost_ret (Ah Tryz.results11 rfl c d f g) rfl ⟨?_,i⟩
     rw [AR,if_pos (.inr (by rw [Aa n,Aa q];exact fun e=>A (by rw [Option.some.inj e];rfl)))]
     exact ⟨_,_,_,_,rfl⟩
   ·have I:=Ab (BG v l)
    have x:=Ab (show IP (s[k].toNat:Int)=true from l)
    clear l
    go_wp2_with (go_at_call 25;refine (A5 _ _).mono ?_;rintro e w' ⟨rfl,a⟩;rw [Aa x,a];clear a)
    go_round
    case rel=>exact ⟨k+1,by omega,by omega,by go_num,by rw [Aa z,Aa I]⟩
    case measure=>simp [intOf];omega
  ·have n:=Ab (show Ap Dw ((Ad s).drop (j+1))=k - (j+1) by have:=u (Cf (by omega));have:=Bu Dw s (j+1);omega)
   have q:=Ab (KT (s:=s) (j:=j) (k:=k) (by omega) y)
   have E: ¬ ((k:Int) < (s.size:Int)):=by omega
   have S:(s.size:Int)≤(k:Int):=by omega
   go_wp2_with fail
   have i:=Ac (b:=w.heap.size) (o.setCell (p:=⟨w.heap.size+1,0,none⟩) (by show w.heap.size≤w.heap.size+1;omega) (.int .i64 2)) (Nat.le_refl _) (.int .i64 2) (.int .i64 0) (.string ⟨#[]⟩) (.int .i64 j)
   obtain ⟨c,d,f,g,_⟩:=An (Aj (m.setFar (p:=⟨w.heap.size+1,0,none⟩) (by show w.heap.size≠w.heap.size+1;omega) (.int .i64 2)) (.int .i64 2) (.int .i64 0) (.string ⟨#[]⟩) (.int .i64 j))
   simp only [AY] at c d f g
   refine bodyPost_ret (Ah Tryz.results11 rfl c d f g) rfl ⟨?_,i⟩
   rw [AR,if_pos (.inr (by rw [Aa n];exact Aa q))]
   exact ⟨_,_,_,_,rfl⟩
end Go.Proofs.YtcpdodmoheebaaaGreatDoor
