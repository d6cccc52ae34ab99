/-
  TQ, TG. Own work.
-/
import Derived.Test.YtdldimphcpojoaaGreatDoorMXAL
import Derived.Lib.SmallJoins
namespace Go.Proofs.YtdldimphcpojoaaGreatDoor
set_option maxRecDepth 100000
set_option maxHeartbeats 6400000
open Go.RowKit
set_option linter.unusedVariables false
theorem VZ {s:ByteArray}{j k:Nat}(h:s.size≤k)(a:j+1≤k):((Ak s).drop (j+1))[k - (j+1)]? ≠some 34:=by
 rw[List.getElem?_eq_none (by rw[List.length_drop,As];omega)];simp
theorem Xo {s:ByteArray}{j k:Nat}(h:k < s.size)(b:j+1≤k):((Ak s).drop (j+1))[k - (j+1)]? =some s[k]:=by
 have a:k < (Ak s).length:=by rw[As];exact h
 rw[List.getElem?_drop,show j+1+(k - (j+1))=k by omega,List.getElem?_eq_getElem a];rfl
theorem Rn (s:ByteArray)(j:Nat)(w:World)(hs:s.size≤1048576)(x:j < s.size)(hq:(s[j].toNat:Int)=34):
  Calls Tryz.prog 26 #[.string s,.int .i64 j] w fun e w'=>D0 j (BH ((Ak s).drop (j+1))) e∧Below w.heap.size w w':=by
 have H:(j:Int) < (s.size:Int):=by omega
 obtain ⟨I,y,g,z,m,J⟩:=Gw w j;go_enter Tryz.func26,Tryz.ntmps26
 go_wp2_with (first | (go_at_call 48;refine (AG _ _).mono ?_;rintro e w' ⟨rfl,a⟩;rw[show IG 34=false from by decide,a];clear a) | (go_at_call 51;refine (AY _ _).mono ?_;rintro e w' ⟨rfl,a⟩;rw[show dgI 34=false from by decide,a];clear a))
 clear y;obtain ⟨K,c1,c2,c3,L⟩:=AE z;obtain ⟨M,d1,d2,d3,N⟩:=AE g;go_loop [13] (fun i=>∃ k:Nat,j+1≤k∧k≤s.size∧i= .int .i64 k∧Dj GE s (j+1)=Dj GE s k) (fun i=>s.size - (intOf i).toNat)
 case atStart=>exact ⟨j+1,NLN,x,by go_num,rfl⟩
 case round=>
  obtain ⟨k,t,hk,rfl,he⟩:=hrel;have u:=Ab he;clear he;have o:∀ (hq:Dj GE s k=k),Dj GE s (j+1)=k:=fun hq=>by rw[Aa u,hq]
  by_cases q:k < s.size
  ·have A:(k:Int) < (s.size:Int):=by omega
   cases f:GE s[k]
   ·have l:=Ab (show AK GE ((Ak s).drop (j+1))=k - (j+1) by have:=o (Ew q f);have:=DM GE s (j+1);omega);have r:=Ab (show Ra (s[k].toNat:Int)=false from f);have n:=Ab (Xo q t);clear f o;by_cases v:(s[k].toNat:Int)=34
    ·have B:=Ab (show s[k]=34 from UInt8.toNat_inj.1 (by have:(34 :UInt8).toNat=34:=rfl;omega));by_cases C: 32 < k - (j+1)
     ·have E:(32 :Int) < (k:Int) - (j:Int) - 1:=by omega
      go_wp2_with (go_at_call 52;refine (Co _ _).mono ?_;rintro e w' ⟨rfl,a⟩;rw[show Ra 34=false from by decide,a];clear a)
      have d:=Aj (b:=w.heap.size) (m.setCell (p:=⟨w.heap.size+1,0,none⟩) (by show w.heap.size≤w.heap.size+1;omega) (.int .i64 2)) NLN (.int .i64 2) (.int .i64 0) (.string ⟨#[]⟩) (.int .i64 j);obtain ⟨c,g1,g2,g3,_⟩:=AE (Aw (g.setFar (p:=⟨w.heap.size+1,0,none⟩) (by show w.heap.size≠w.heap.size+1;omega) (.int .i64 2)) (.int .i64 2) (.int .i64 0) (.string ⟨#[]⟩) (.int .i64 j));simp only[BN] at c g1 g2 g3;refine bodyPost_ret (Au Tryz.results26 rfl c g1 g2 g3) rfl ⟨?_,d⟩;rw[BH,if_pos (.inl (by rw[Aa l];exact C))];exact ⟨_,_,_,_,rfl⟩
     ·have E: ¬ ((32 :Int) < (k:Int) - (j:Int) - 1):=by omega
      go_wp2_with (go_at_call 52;refine (Co _ _).mono ?_;rintro e w' ⟨rfl,a⟩;rw[show Ra 34=false from by decide,a];clear a)
      have d:=Aj (b:=w.heap.size) ((m.setCell (p:=⟨w.heap.size+1,0,none⟩) (by show w.heap.size≤w.heap.size+1;omega) (.int .i64 2)).setCell (p:=⟨w.heap.size+1,2,none⟩) (by show w.heap.size≤w.heap.size+1;omega) (.string (s.extract (j+1) k))) NLN (.int .i64 2) (.int .i64 0) (.string (s.extract (j+1) k)) (.int .i64 j);obtain ⟨c,g1,g2,g3,_⟩:=AE (Aw ((g.setFar (p:=⟨w.heap.size+1,0,none⟩) (by show w.heap.size≠w.heap.size+1;omega) (.int .i64 2)).setFar (p:=⟨w.heap.size+1,2,none⟩) (by show w.heap.size≠w.heap.size+1;omega) (.string (s.extract (j+1) k))) (.int .i64 2) (.int .i64 0) (.string (s.extract (j+1) k)) (.int .i64 j));simp only[BN] at c g1 g2 g3;refine bodyPost_ret (Au Tryz.results26 rfl c g1 g2 g3) rfl ⟨?_,d⟩;rw[BH,Aa l,Aa n,if_neg (by rintro (h | h);omega;exact h (by rw[Aa B])),Nv];simp only[D0];rw[show ((j+(k - (j+1)+2):Nat):Int)=(k:Int)+1 by omega];rfl
    ·have O:=beq_eq_false_iff_ne.2 v;go_wp2_with (go_at_call 52;refine (Co _ _).mono ?_;rintro e w' ⟨rfl,a⟩;rw[Aa r,a];clear a)
     have d:=Aj (b:=w.heap.size) (m.setCell (p:=⟨w.heap.size+1,0,none⟩) (by show w.heap.size≤w.heap.size+1;omega) (.int .i64 2)) NLN (.int .i64 2) (.int .i64 0) (.string ⟨#[]⟩) (.int .i64 j);obtain ⟨c,g1,g2,g3,_⟩:=AE (Aw (g.setFar (p:=⟨w.heap.size+1,0,none⟩) (by show w.heap.size≠w.heap.size+1;omega) (.int .i64 2)) (.int .i64 2) (.int .i64 0) (.string ⟨#[]⟩) (.int .i64 j));simp only[BN] at c g1 g2 g3;refine bodyPost_ret (Au Tryz.results26 rfl c g1 g2 g3) rfl ⟨?_,d⟩;rw[BH,if_pos (.inr (by rw[Aa l,Aa n];exact fun e=>v (by rw[Option.some.inj e];rfl)))];exact ⟨_,_,_,_,rfl⟩
   ·have F:=Ab (Ey q f);have r:=Ab (show Ra (s[k].toNat:Int)=true from f);clear f;go_wp2_with (go_at_call 52;refine (Co _ _).mono ?_;rintro e w' ⟨rfl,a⟩;rw[Aa r,a];clear a)
    go_round
    case rel=>exact ⟨k+1,by omega,by omega,by go_num,by rw[Aa u,Aa F]⟩
    case measure=>simp[intOf];omega
  ·have l:=Ab (show AK GE ((Ak s).drop (j+1))=k - (j+1) by have:=o (Fw (by omega));have:=DM GE s (j+1);omega);have n:=Ab (VZ (s:=s) (j:=j) (k:=k) (by omega) t);have A: ¬ ((k:Int) < (s.size:Int)):=by omega
   have P:(s.size:Int)≤(k:Int):=by omega
   go_wp2_with fail
   have d:=Aj (b:=w.heap.size) (m.setCell (p:=⟨w.heap.size+1,0,none⟩) (by show w.heap.size≤w.heap.size+1;omega) (.int .i64 2)) NLN (.int .i64 2) (.int .i64 0) (.string ⟨#[]⟩) (.int .i64 j);obtain ⟨c,g1,g2,g3,_⟩:=AE (Aw (g.setFar (p:=⟨w.heap.size+1,0,none⟩) (by show w.heap.size≠w.heap.size+1;omega) (.int .i64 2)) (.int .i64 2) (.int .i64 0) (.string ⟨#[]⟩) (.int .i64 j));simp only[BN] at c g1 g2 g3;refine bodyPost_ret (Au Tryz.results26 rfl c g1 g2 g3) rfl ⟨?_,d⟩;rw[BH,if_pos (.inr (by rw[Aa l];exact Aa n))];exact ⟨_,_,_,_,rfl⟩
def Jo (L:List UInt8):Array Value:=(L.map fun c=>Value.int .u8 (c.toNat:Int)).toArray
theorem Mt {L:List UInt8}{k:Nat}{x:UInt8}(h:L[k]? =some x):(Jo L)[k]? =some (.int .u8 (x.toNat:Int)):=by
 simp[Jo,h]
def FH (L:List UInt8) (k:Nat) (c:UInt8):Prop:=∀ i,i < k→L[i]? ≠some c
theorem FH.next {L:List UInt8}{k:Nat}{c x:UInt8}(h:FH L k c)(hx:L[k]? =some x)(a:((c.toNat:Int)==(x.toNat:Int))=false):FH L (k+1) c:=fun i hi e=>by
 by_cases hk:i=k
 ·subst hk;rw[hx] at e;rw[beq_eq_false_iff_ne] at a;exact a (by rw[Option.some.inj e])
 ·exact h i (by omega) e
theorem FH.all {L:List UInt8}{c:UInt8}(h:FH L L.length c):L.contains c=false:=by
 rw[← Bool.not_eq_true,List.contains_iff_mem];intro hm;obtain ⟨i,hi,e⟩:=List.getElem_of_mem hm;exact h i hi (by rw[List.getElem?_eq_getElem hi,e])
theorem PA {L:List UInt8}{k:Nat}{c x:UInt8}(hx:L[k]? =some x)(a:((c.toNat:Int)==(x.toNat:Int))=true):L.contains c=true:=by
 rw[beq_iff_eq] at a;have e:c=x:=UInt8.toNat_inj.1 (by omega);rw[e,List.contains_iff_mem];exact List.mem_of_getElem? hx
theorem Ui {s:ByteArray}{j:Nat}(h: ¬ j+1 < s.size):Cj.contains (((Ak s).drop j).take 2)=false:=by
 rw[← Bool.not_eq_true,List.contains_iff_mem];intro hm;have hl:(((Ak s).drop j).take 2).length≤1:=by rw[List.length_take,List.length_drop,As];omega
 have:∀ x∈Cj,x.length=2:=by decide
 have:=this _ hm;omega
theorem PD {s:ByteArray}{j:Nat}(h:j < s.size):s.extract j (j+1)=Ax [s[j]]:=by
 rw[Nv,BJ s j h,show j+1 - j=1 by omega];rfl
theorem Rm (s:ByteArray)(j:Nat)(w:World)(hs:s.size≤1048576)(P:j < s.size)(hl:IG (s[j].toNat:Int)=false)(Q:dgI (s[j].toNat:Int)=false)(hq: ¬ (s[j].toNat:Int)=34):
  Calls Tryz.prog 26 #[.string s,.int .i64 j] w fun e w'=>D0 j (A8 s[j] ((Ak s).drop j)) e∧Below w.heap.size w w':=by
 have ae:(j:Int) < (s.size:Int):=by omega
 have af:=beq_eq_false_iff_ne.2 hq;obtain ⟨f,R,S,E,T,U⟩:=Gw w j;have V:=Ab hl;have W:=Ab Q;clear hl Q;obtain ⟨n,c1,c2,c3,o⟩:=AE E;have F:=E.set 0 (.int .i64 5);have I:=S.setFar (p:=⟨w.heap.size+1,0,none⟩) (by show w.heap.size≠w.heap.size+1;omega) (.int .i64 5);have J:=T.setCell (p:=⟨w.heap.size+1,0,none⟩) (by show w.heap.size≤w.heap.size+1;omega) (.int .i64 5);have u:(f.setCell ⟨w.heap.size+1,0,none⟩ (.int .i64 5)).heap.size=w.heap.size+2:=by simp[U]
 simp only[List.setIfInBounds_toArray,List.set_cons_zero] at F;by_cases h2:j+1 < s.size
 ·have aa:(j:Int)+1 < (s.size:Int):=by omega
  have ag:(j:Int)+2≤(s.size:Int):=by omega
  have H:=I.alloc (.cells #[.string ⟨#[61,62]⟩,.string ⟨#[61,61]⟩,.string ⟨#[33,61]⟩,.string ⟨#[60,61]⟩] 9);have K:=F.alloc (.cells #[.string ⟨#[61,62]⟩,.string ⟨#[61,61]⟩,.string ⟨#[33,61]⟩,.string ⟨#[60,61]⟩] 9);have L:=J.alloc (by omega) (.cells #[.string ⟨#[61,62]⟩,.string ⟨#[61,61]⟩,.string ⟨#[33,61]⟩,.string ⟨#[60,61]⟩] 9);have M:An ((f.setCell ⟨w.heap.size+1,0,none⟩ (.int .i64 5)).alloc (.cells #[.string ⟨#[61,62]⟩,.string ⟨#[61,61]⟩,.string ⟨#[33,61]⟩,.string ⟨#[60,61]⟩] 9)) (f.setCell ⟨w.heap.size+1,0,none⟩ (.int .i64 5)).heap.size (Jp Cj) 9:=An.new (f.setCell ⟨w.heap.size+1,0,none⟩ (.int .i64 5)) (Jp Cj) 9;rw[u] at M;have N:((f.setCell ⟨w.heap.size+1,0,none⟩ (.int .i64 5)).alloc (.cells #[.string ⟨#[61,62]⟩,.string ⟨#[61,61]⟩,.string ⟨#[33,61]⟩,.string ⟨#[60,61]⟩] 9)).heap.size=w.heap.size+3:=by rw[World.size_alloc,u]
  go_enter Tryz.func26,Tryz.ntmps26
  go_wp2_with (first | (go_at_call 48;refine (AG _ _).mono ?_;rintro e w' ⟨rfl,g⟩;rw[Aa V,g];clear g) | (go_at_call 51;refine (AY _ _).mono ?_;rintro e w' ⟨rfl,g⟩;rw[Aa W,g];clear g))
  clear R;generalize (f.setCell ⟨w.heap.size+1,0,none⟩ (.int .i64 5)).alloc (.cells #[.string ⟨#[61,62]⟩,.string ⟨#[61,61]⟩,.string ⟨#[33,61]⟩,.string ⟨#[60,61]⟩] 9)=t at H K L M N ⊢;clear I F J u S E T U n c1 c2 c3 o;obtain ⟨n,c1,c2,c3,o⟩:=AE K;obtain ⟨v,d1,d2,d3,y⟩:=AE H;have Y:=Ab (show Ak (s.extract j (j+2))=((Ak s).drop j).take 2 by rw[Bk,show j+2 - j=2 by omega]);go_loop [173] (fun i=>∃ k:Nat,k≤4∧i= .int .i64 k∧FI Cj k (Ak (s.extract j (j+2)))) (fun i=>4 - (intOf i).toNat)
  case atStart=>exact ⟨0,by omega,rfl,fun i hi=>by omega⟩
  case round=>
   obtain ⟨k,hk,rfl,a⟩:=hrel;by_cases q:k < 4
   ·have Z:(k:Int) < 4:=by omega
    obtain ⟨x,hx⟩:∃ x,Cj[k]? =some x:=⟨Cj[k]'q,List.getElem?_eq_getElem q⟩
    have hc:=(M.cell k).trans (Mu hx);rcases Bool.eq_false_or_eq_true ((s.extract j (j+2)).toList==(Ax x).toList) with h | h
    ·have ab:=Ab (show ((Ak s).drop j).take 2=x by rw[← Aa Y];exact II h);have c:=Ab (Mv hx);clear a hx;go_wp2_with fail
     have l:=Aj (b:=w.heap.size) (L.setCell (p:=⟨w.heap.size+1,2,none⟩) (by show w.heap.size≤w.heap.size+1;omega) (.string (Ax x))) NLN (.int .i64 5) (.int .i64 0) (.string (Ax x)) (.int .i64 j);obtain ⟨d,g1,g2,g3,_⟩:=AE (Aw (H.setFar (p:=⟨w.heap.size+1,2,none⟩) (by show w.heap.size≠w.heap.size+1;omega) (.string (Ax x))) (.int .i64 5) (.int .i64 0) (.string (Ax x)) (.int .i64 j));simp only[BN] at d g1 g2 g3;refine bodyPost_ret (Au Tryz.results26 rfl d g1 g2 g3) rfl ⟨?_,l⟩;rw[A8,Aa ab,if_pos (Aa c)];simp only[D0];rw[Int.natCast_add];rfl
    ·have c:=Ab (a.next hx (GJ h));clear a hx;go_wp2
     go_round
     case rel=>exact ⟨k+1,by omega,by go_num,Aa c⟩
     case measure=>simp[intOf];omega
   ·have ek:k=4:=by omega
    subst ek;have z:=Ab (show Cj.contains (((Ak s).drop j).take 2)=false by rw[← Aa Y];exact FI.all a);clear a n c1 c2 c3 o v d1 d2 d3 y;have m:=An.alloc H (.cells #[.int .u8 60,.int .u8 43,.int .u8 45,.int .u8 42,.int .u8 47,.int .u8 37,.int .u8 124,.int .u8 38,.int .u8 92,.int .u8 40,.int .u8 41,.int .u8 123,.int .u8 125,.int .u8 44,.int .u8 59,.int .u8 61] 5 (16,17));have A:=An.alloc K (.cells #[.int .u8 60,.int .u8 43,.int .u8 45,.int .u8 42,.int .u8 47,.int .u8 37,.int .u8 124,.int .u8 38,.int .u8 92,.int .u8 40,.int .u8 41,.int .u8 123,.int .u8 125,.int .u8 44,.int .u8 59,.int .u8 61] 5 (16,17));have r:=Below.alloc L (by omega) (.cells #[.int .u8 60,.int .u8 43,.int .u8 45,.int .u8 42,.int .u8 47,.int .u8 37,.int .u8 124,.int .u8 38,.int .u8 92,.int .u8 40,.int .u8 41,.int .u8 123,.int .u8 125,.int .u8 44,.int .u8 59,.int .u8 61] 5 (16,17));have B:∀ k,(t.alloc (.cells #[.int .u8 60,.int .u8 43,.int .u8 45,.int .u8 42,.int .u8 47,.int .u8 37,.int .u8 124,.int .u8 38,.int .u8 92,.int .u8 40,.int .u8 41,.int .u8 123,.int .u8 125,.int .u8 44,.int .u8 59,.int .u8 61] 5 (16,17))).cell? ⟨w.heap.size+3,k,none⟩=(Jo Dq)[k]? :=fun k=>by
     rw[← N];exact World.cell?_alloc_mark (t) (Jo Dq) 5 (16,17) k
    have O:(convert 22 22 (.slice (some ⟨w.heap.size+3,0,none⟩) 16 16)).run Tryz.prog (t.alloc (.cells #[.int .u8 60,.int .u8 43,.int .u8 45,.int .u8 42,.int .u8 47,.int .u8 37,.int .u8 124,.int .u8 38,.int .u8 92,.int .u8 40,.int .u8 41,.int .u8 123,.int .u8 125,.int .u8 44,.int .u8 59,.int .u8 61] 5))= .ok (.slice (some ⟨w.heap.size+3,0,none⟩) 16 16) (t.alloc (.cells #[.int .u8 60,.int .u8 43,.int .u8 45,.int .u8 42,.int .u8 47,.int .u8 37,.int .u8 124,.int .u8 38,.int .u8 92,.int .u8 40,.int .u8 41,.int .u8 123,.int .u8 125,.int .u8 44,.int .u8 59,.int .u8 61] 5 (16,17))):=
     Go.Joins.run_convert_bytes_const_at (t) 22 5 #[.int .u8 60,.int .u8 43,.int .u8 45,.int .u8 42,.int .u8 47,.int .u8 37,.int .u8 124,.int .u8 38,.int .u8 92,.int .u8 40,.int .u8 41,.int .u8 123,.int .u8 125,.int .u8 44,.int .u8 59,.int .u8 61] 16 16 (w.heap.size+3) N.symm Tryz.underlying22 Tryz.underlying5
    obtain ⟨v,d1,d2,d3,y⟩:=AE m;obtain ⟨n,c1,c2,c3,o⟩:=AE A;go_wp2_with fail
    clear O;have C:=Ab B;clear B;generalize t.alloc (.cells #[.int .u8 60,.int .u8 43,.int .u8 45,.int .u8 42,.int .u8 47,.int .u8 37,.int .u8 124,.int .u8 38,.int .u8 92,.int .u8 40,.int .u8 41,.int .u8 123,.int .u8 125,.int .u8 44,.int .u8 59,.int .u8 61] 5 (16,17))=X at m A r C v d1 d2 d3 y n c1 c2 c3 o ⊢;go_loop [193] (fun i=>∃ k:Nat,k≤16∧i= .int .i64 k∧FH Dq k s[j]) (fun i=>16 - (intOf i).toNat)
    case atStart=>exact ⟨0,by omega,rfl,fun i hi=>by omega⟩
    case round=>
     obtain ⟨k,hk,rfl,a⟩:=hrel;by_cases q:k < 16
     ·have Z:(k:Int) < 16:=by omega
      obtain ⟨x,hx⟩:∃ x,Dq[k]? =some x:=⟨Dq[k]'q,List.getElem?_eq_getElem q⟩
      have hc:=(Aa C k).trans (Mt hx);rcases Bool.eq_false_or_eq_true ((s[j].toNat:Int)==(x.toNat:Int)) with h | h
      ·have c:=Ab (PA hx h);have ac:(x.toNat:Int)=(s[j].toNat:Int):=(beq_iff_eq.1 h).symm;have ad:(j:Int)+1≤(s.size:Int):=by omega
       clear a hx;go_wp2_with fail
       have l:=Aj (b:=w.heap.size) (r.setCell (p:=⟨w.heap.size+1,2,none⟩) (by show w.heap.size≤w.heap.size+1;omega) (.string (s.extract j (j+1)))) NLN (.int .i64 5) (.int .i64 0) (.string (s.extract j (j+1))) (.int .i64 j);obtain ⟨d,g1,g2,g3,_⟩:=AE (Aw (m.setFar (p:=⟨w.heap.size+1,2,none⟩) (by show w.heap.size≠w.heap.size+1;omega) (.string (s.extract j (j+1)))) (.int .i64 5) (.int .i64 0) (.string (s.extract j (j+1))) (.int .i64 j));simp only[BN] at d g1 g2 g3;refine bodyPost_ret (Au Tryz.results26 rfl d g1 g2 g3) rfl ⟨?_,l⟩;rw[A8,if_neg (by rw[Aa z];decide),if_pos (Aa c),PD P];simp only[D0];rw[Int.natCast_add];rfl
      ·have c:=Ab (a.next hx h);clear a hx;go_wp2
       go_round
       case rel=>exact ⟨k+1,by omega,by go_num,Aa c⟩
       case measure=>simp[intOf];omega
     ·have ek:k=16:=by omega
      subst ek;have c:=Ab (FH.all a);clear a;go_wp2_with fail
      have l:=Aj (b:=w.heap.size) r NLN (.int .i64 5) (.int .i64 0) (.string ⟨#[]⟩) (.int .i64 j);obtain ⟨d,g1,g2,g3,_⟩:=AE (Aw m (.int .i64 5) (.int .i64 0) (.string ⟨#[]⟩) (.int .i64 j));simp only[BN] at d g1 g2 g3;refine bodyPost_ret (Au Tryz.results26 rfl d g1 g2 g3) rfl ⟨?_,l⟩;rw[A8,if_neg (by rw[Aa z];decide),if_neg (by rw[Aa c];decide)];exact ⟨_,_,_,_,rfl⟩
 ·have aa: ¬ ((j:Int)+1 < (s.size:Int)):=by omega
  have z:=Ab (Ui h2);clear n c1 c2 c3 o;obtain ⟨ah,e1,e2,e3,ai⟩:=AE E;have m:=An.alloc I (.cells #[.int .u8 60,.int .u8 43,.int .u8 45,.int .u8 42,.int .u8 47,.int .u8 37,.int .u8 124,.int .u8 38,.int .u8 92,.int .u8 40,.int .u8 41,.int .u8 123,.int .u8 125,.int .u8 44,.int .u8 59,.int .u8 61] 5 (16,17));have A:=An.alloc F (.cells #[.int .u8 60,.int .u8 43,.int .u8 45,.int .u8 42,.int .u8 47,.int .u8 37,.int .u8 124,.int .u8 38,.int .u8 92,.int .u8 40,.int .u8 41,.int .u8 123,.int .u8 125,.int .u8 44,.int .u8 59,.int .u8 61] 5 (16,17));have r:=Below.alloc J (by omega) (.cells #[.int .u8 60,.int .u8 43,.int .u8 45,.int .u8 42,.int .u8 47,.int .u8 37,.int .u8 124,.int .u8 38,.int .u8 92,.int .u8 40,.int .u8 41,.int .u8 123,.int .u8 125,.int .u8 44,.int .u8 59,.int .u8 61] 5 (16,17));have B:∀ k,((f.setCell ⟨w.heap.size+1,0,none⟩ (.int .i64 5)).alloc (.cells #[.int .u8 60,.int .u8 43,.int .u8 45,.int .u8 42,.int .u8 47,.int .u8 37,.int .u8 124,.int .u8 38,.int .u8 92,.int .u8 40,.int .u8 41,.int .u8 123,.int .u8 125,.int .u8 44,.int .u8 59,.int .u8 61] 5 (16,17))).cell? ⟨w.heap.size+2,k,none⟩=(Jo Dq)[k]? :=fun k=>by
   rw[← u];exact World.cell?_alloc_mark (f.setCell ⟨w.heap.size+1,0,none⟩ (.int .i64 5)) (Jo Dq) 5 (16,17) k
  have O:(convert 22 22 (.slice (some ⟨w.heap.size+2,0,none⟩) 16 16)).run Tryz.prog ((f.setCell ⟨w.heap.size+1,0,none⟩ (.int .i64 5)).alloc (.cells #[.int .u8 60,.int .u8 43,.int .u8 45,.int .u8 42,.int .u8 47,.int .u8 37,.int .u8 124,.int .u8 38,.int .u8 92,.int .u8 40,.int .u8 41,.int .u8 123,.int .u8 125,.int .u8 44,.int .u8 59,.int .u8 61] 5))= .ok (.slice (some ⟨w.heap.size+2,0,none⟩) 16 16) ((f.setCell ⟨w.heap.size+1,0,none⟩ (.int .i64 5)).alloc (.cells #[.int .u8 60,.int .u8 43,.int .u8 45,.int .u8 42,.int .u8 47,.int .u8 37,.int .u8 124,.int .u8 38,.int .u8 92,.int .u8 40,.int .u8 41,.int .u8 123,.int .u8 125,.int .u8 44,.int .u8 59,.int .u8 61] 5 (16,17))):=
   Go.Joins.run_convert_bytes_const_at (f.setCell ⟨w.heap.size+1,0,none⟩ (.int .i64 5)) 22 5 #[.int .u8 60,.int .u8 43,.int .u8 45,.int .u8 42,.int .u8 47,.int .u8 37,.int .u8 124,.int .u8 38,.int .u8 92,.int .u8 40,.int .u8 41,.int .u8 123,.int .u8 125,.int .u8 44,.int .u8 59,.int .u8 61] 16 16 (w.heap.size+2) u.symm Tryz.underlying22 Tryz.underlying5
  obtain ⟨v,d1,d2,d3,y⟩:=AE m;obtain ⟨n,c1,c2,c3,o⟩:=AE A;go_enter Tryz.func26,Tryz.ntmps26
  go_wp2_with (first | (go_at_call 48;refine (AG _ _).mono ?_;rintro e w' ⟨rfl,g⟩;rw[Aa V,g];clear g) | (go_at_call 51;refine (AY _ _).mono ?_;rintro e w' ⟨rfl,g⟩;rw[Aa W,g];clear g))
  clear R;clear O;have C:=Ab B;clear B;generalize (f.setCell ⟨w.heap.size+1,0,none⟩ (.int .i64 5)).alloc (.cells #[.int .u8 60,.int .u8 43,.int .u8 45,.int .u8 42,.int .u8 47,.int .u8 37,.int .u8 124,.int .u8 38,.int .u8 92,.int .u8 40,.int .u8 41,.int .u8 123,.int .u8 125,.int .u8 44,.int .u8 59,.int .u8 61] 5 (16,17))=X at m A r C v d1 d2 d3 y n c1 c2 c3 o ⊢;go_loop [193] (fun i=>∃ k:Nat,k≤16∧i= .int .i64 k∧FH Dq k s[j]) (fun i=>16 - (intOf i).toNat)
  case atStart=>exact ⟨0,by omega,rfl,fun i hi=>by omega⟩
  case round=>
   obtain ⟨k,hk,rfl,a⟩:=hrel;by_cases q:k < 16
   ·have Z:(k:Int) < 16:=by omega
    obtain ⟨x,hx⟩:∃ x,Dq[k]? =some x:=⟨Dq[k]'q,List.getElem?_eq_getElem q⟩
    have hc:=(Aa C k).trans (Mt hx);rcases Bool.eq_false_or_eq_true ((s[j].toNat:Int)==(x.toNat:Int)) with h | h
    ·have c:=Ab (PA hx h);have ac:(x.toNat:Int)=(s[j].toNat:Int):=(beq_iff_eq.1 h).symm;have ad:(j:Int)+1≤(s.size:Int):=by omega
     clear a hx;go_wp2_with fail
     have l:=Aj (b:=w.heap.size) (r.setCell (p:=⟨w.heap.size+1,2,none⟩) (by show w.heap.size≤w.heap.size+1;omega) (.string (s.extract j (j+1)))) NLN (.int .i64 5) (.int .i64 0) (.string (s.extract j (j+1))) (.int .i64 j);obtain ⟨d,g1,g2,g3,_⟩:=AE (Aw (m.setFar (p:=⟨w.heap.size+1,2,none⟩) (by show w.heap.size≠w.heap.size+1;omega) (.string (s.extract j (j+1)))) (.int .i64 5) (.int .i64 0) (.string (s.extract j (j+1))) (.int .i64 j));simp only[BN] at d g1 g2 g3;refine bodyPost_ret (Au Tryz.results26 rfl d g1 g2 g3) rfl ⟨?_,l⟩;rw[A8,if_neg (by rw[Aa z];decide),if_pos (Aa c),PD P];simp only[D0];rw[Int.natCast_add];rfl
    ·have c:=Ab (a.next hx h);clear a hx;go_wp2
     go_round
     case rel=>exact ⟨k+1,by omega,by go_num,Aa c⟩
     case measure=>simp[intOf];omega
   ·have ek:k=16:=by omega
    subst ek;have c:=Ab (FH.all a);clear a;go_wp2_with fail
    have l:=Aj (b:=w.heap.size) r NLN (.int .i64 5) (.int .i64 0) (.string ⟨#[]⟩) (.int .i64 j);obtain ⟨d,g1,g2,g3,_⟩:=AE (Aw m (.int .i64 5) (.int .i64 0) (.string ⟨#[]⟩) (.int .i64 j));simp only[BN] at d g1 g2 g3;refine bodyPost_ret (Au Tryz.results26 rfl d g1 g2 g3) rfl ⟨?_,l⟩;rw[A8,if_neg (by rw[Aa z];decide),if_neg (by rw[Aa c];decide)];exact ⟨_,_,_,_,rfl⟩
end Go.Proofs.YtdldimphcpojoaaGreatDoor
