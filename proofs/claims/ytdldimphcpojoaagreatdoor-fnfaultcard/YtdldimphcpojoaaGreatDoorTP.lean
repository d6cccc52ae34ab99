/-
  The walk over the model's l2one: numbers. Own work.
-/
import Derived.Test.YtdldimphcpojoaaGreatDoorMXAL
namespace Go.Proofs.YtdldimphcpojoaaGreatDoor
set_option maxRecDepth 100000
set_option maxHeartbeats 6400000
open Go.RowKit
set_option linter.unusedVariables false
theorem GB {x:ByteArray}{q:Nat}(h:q < x.size):x[q]∈Ak x:=by
 have a:q < (Ak x).length:=by rw[As];exact h
 exact List.getElem_mem (l:=Ak x) a
theorem Lp {s:ByteArray}{j k:Nat}(h:k < s.size)(b:j≤k):BG ((Ak s).drop j) (k - j)=(NI s[k] || decide (s[k]=95)):=by
 have e:((Ak s).drop j)[k - j]? =some s[k]:=by
  have a:k < (Ak s).length:=by rw[As];exact h
  rw[List.getElem?_drop,show j+(k - j)=k by omega,List.getElem?_eq_getElem a];rfl
 rw[BG,e]
theorem JS {s:ByteArray}{j k:Nat}(h:s.size≤k):BG ((Ak s).drop j) (k - j)=false:=by
 have e:((Ak s).drop j)[k - j]? =none:=by
  rw[List.getElem?_eq_none];rw[List.length_drop,As];omega
 rw[BG,e]
theorem VX {c:UInt8}(h:(c.toNat:Int)=95):c=95:=UInt8.toNat_inj.1 (by have:(95 :UInt8).toNat=95:=rfl;omega)
theorem SF {c:UInt8}(h: ¬ (c.toNat:Int)=95): ¬ c=95:=fun e=>h (by rw[e];rfl)
theorem SG {r:List UInt8}{n:Nat}(b:AK Ci r=n)(c:n=19):(r.take n < Ln↔CC (r.take n) < 9223372036854775807)∧(Ln < r.take n↔9223372036854775807 < CC (r.take n)):=by
 have h:=FJ Ci r;have hl:(r.take n).length=Ln.length:=by
  rw[List.length_take];show _=19;omega
 have a:(r.take n).all Ci=true:=by rw[← b];exact Dg Ci r
 have hm:Ln.all Ci=true:=by decide
 have h1:=Rp _ _ hl a hm;have h2:=Rp _ _ hl.symm hm a;rw[VW] at h1 h2;exact ⟨h1,h2⟩
theorem VY {x:ByteArray}{l:List UInt8}(hx:Ak x=l):Op.bytesLess x.toList [57,50,50,51,51,55,50,48,51,54,56,53,52,55,55,53,56,48,55]=true↔l < Ln:=by
 have h0:Op.bytesLess x.toList [57,50,50,51,51,55,50,48,51,54,56,53,52,55,55,53,56,48,55]=sl x (Ax Ln):=by
  unfold sl;rw[ByteArray.toList_eq (Ax Ln)];rfl
 rw[h0,Kd,← hx];exact Iff.rfl
theorem PI {r:List UInt8}{n:Nat}(a:AK Ci r=n)(b:n=19){x:ByteArray}(hx:Ak x=r.take n)(h:Op.bytesLess x.toList [57,50,50,51,51,55,50,48,51,54,56,53,52,55,55,53,56,48,55]=true):CC (r.take n)≤9223372036854775807:=by
 have:=(SG a b).1.1 ((VY hx).1 h);omega
theorem PJ {r:List UInt8}{n:Nat}{x:ByteArray}(hx:Ak x=r.take n)(h:(x.toList== [57,50,50,51,51,55,50,48,51,54,56,53,52,55,55,53,56,48,55])=true):CC (r.take n)≤9223372036854775807:=by
 rw[beq_iff_eq,ByteArray.toList_eq] at h;have e:Ak x=Ln:=h;rw[← hx,e,VW];omega
theorem Mx {r:List UInt8}{n:Nat}(b:AK Ci r=n)(c:n=19){x:ByteArray}(hx:Ak x=r.take n)(h:Op.bytesLess x.toList [57,50,50,51,51,55,50,48,51,54,56,53,52,55,55,53,56,48,55]=false)
  (a:(x.toList== [57,50,50,51,51,55,50,48,51,54,56,53,52,55,55,53,56,48,55])=false): 9223372036854775807 < CC (r.take n):=by
 refine (SG b c).2.1 ?_;have h1: ¬ r.take n < Ln:=fun k=>by rw[(VY hx).2 k] at h;cases h
 rw[beq_eq_false_iff_ne,ByteArray.toList_eq] at a;have h2:r.take n≠Ln:=fun k=>a (hx.trans k);rcases List.le_iff_lt_or_eq.1 (List.not_lt.1 h1) with k | k
 ·exact k
 ·exact absurd k.symm h2
theorem My {r:List UInt8}{n:Nat}(a:AK Ci r=n)(b:n≤18):CC (r.take n)≤9223372036854775807:=by
 have:=FJ Ci r;have c:=Ez n (r.take n) (by rw[List.length_take];omega) (by rw[← a];exact Dg Ci r);have h1: 10 ^ n≤10 ^ 18:=Nat.pow_le_pow_right (n:=10) (by decide) b;have e1: 10 ^ 18=1000000000000000000:=rfl;have h2:(10 :Int) ^ n≤1000000000000000000:=by
  show ((10 :Nat):Int) ^ n≤_;rw[← Int.natCast_pow];omega
 omega
theorem Uj (s:ByteArray)(j:Nat)(w:World)(hs:s.size≤1048576)(ah:j < s.size)(hl:IG (s[j].toNat:Int)=false)(ai:dgI (s[j].toNat:Int)=true):
  Calls Tryz.prog 26 #[.string s,.int .i64 j] w fun e w'=>D0 j (Bm ((Ak s).drop j)) e∧Below w.heap.size w w':=by
 have av:(j:Int) < (s.size:Int):=by omega
 obtain ⟨aw,ax⟩:=SE (p:=Ci) (s:=s) (Nat.le_of_lt ah);have ay:=Ab (DM Ci s j);obtain ⟨az,ak,r,E,t,aA⟩:=Gw w j;have al:=Ab hl;have ao:=Ab ai;clear hl ai;go_enter Tryz.func26,Tryz.ntmps26
 go_wp2_with (first | (go_at_call 48;refine (AG _ _).mono ?_;rintro e w' ⟨rfl,a⟩;rw[Aa al,a];clear a) | (go_at_call 51;refine (AY _ _).mono ?_;rintro e w' ⟨rfl,a⟩;rw[Aa ao,a];clear a))
 clear ak;go_loop [10] (fun i=>∃ k:Nat,j≤k∧k≤s.size∧i= .int .i64 k∧Dj Ci s j=Dj Ci s k) (fun i=>s.size - (intOf i).toNat)
 case atStart=>exact ⟨j,NLN,Nat.le_of_lt ah,rfl,rfl⟩
 case round=>
  obtain ⟨k,ap,hk,rfl,he⟩:=hrel;have aj:=Ab he;clear he;have aa:∀ (hq:Dj Ci s k=k),Dj Ci s j=k:=fun hq=>by rw[Aa aj,hq]
  obtain ⟨F,c1,c2,c3,H⟩:=AE E;obtain ⟨I,d1,d2,d3,J⟩:=AE r;by_cases ab:k < s.size
  ·have aq:(k:Int) < (s.size:Int):=by omega
   cases T:Ci s[k]
   ·have f:=Ab (show AK Ci ((Ak s).drop j)=k - j by have:=aa (Ew ab T);have:=DM Ci s j;omega);have R:=Ab (show dgI (s[k].toNat:Int)=false from T);have ac:=Ab (Lp ab ap);clear T aa;by_cases K: 19 < k - j
    ·have ad:(19 :Int) < (k:Int) - (j:Int):=by omega
     go_wp2_with (first | (go_at_call 51;refine (AY _ _).mono ?_;rintro e w' ⟨rfl,a⟩;rw[Aa R,a];clear a) | (go_at_call 48;refine (AG _ _).mono ?_;rintro e w' ⟨rfl,a⟩;rw[Aa R,a];clear a))
     have l:=Aj (b:=w.heap.size) (t.setCell (p:=⟨w.heap.size+1,0,none⟩) (by show w.heap.size≤w.heap.size+1;omega) (.int .i64 1)) NLN (.int .i64 1) (.int .i64 0) (.string ⟨#[]⟩) (.int .i64 j);obtain ⟨c,g1,g2,g3,_⟩:=AE (Aw (r.setFar (p:=⟨w.heap.size+1,0,none⟩) (by show w.heap.size≠w.heap.size+1;omega) (.int .i64 1)) (.int .i64 1) (.int .i64 0) (.string ⟨#[]⟩) (.int .i64 j));simp only[BN] at c g1 g2 g3;refine bodyPost_ret (Au Tryz.results26 rfl c g1 g2 g3) rfl ⟨?_,l⟩;rw[Bm,if_pos (.inl (by rw[Aa f];exact K))];exact ⟨_,_,_,_,rfl⟩
    have ad: ¬ ((19 :Int) < (k:Int) - (j:Int)):=by omega
    cases S:IG (s[k].toNat:Int)
    ·have U:=Ab S;by_cases ae:(s[k].toNat:Int)=95
     ·have L:=Ab (show BG ((Ak s).drop j) (k - j)=true by rw[Aa ac];simp[NI,VX ae]);clear S;go_wp2_with (first | (go_at_call 51;refine (AY _ _).mono ?_;rintro e w' ⟨rfl,a⟩;rw[show dgI 95=false from by decide,a];clear a) | (go_at_call 48;refine (AG _ _).mono ?_;rintro e w' ⟨rfl,a⟩;rw[show IG 95=false from by decide,a];clear a))
      have l:=Aj (b:=w.heap.size) (t.setCell (p:=⟨w.heap.size+1,0,none⟩) (by show w.heap.size≤w.heap.size+1;omega) (.int .i64 1)) NLN (.int .i64 1) (.int .i64 0) (.string ⟨#[]⟩) (.int .i64 j);obtain ⟨c,g1,g2,g3,_⟩:=AE (Aw (r.setFar (p:=⟨w.heap.size+1,0,none⟩) (by show w.heap.size≠w.heap.size+1;omega) (.int .i64 1)) (.int .i64 1) (.int .i64 0) (.string ⟨#[]⟩) (.int .i64 j));simp only[BN] at c g1 g2 g3;refine bodyPost_ret (Au Tryz.results26 rfl c g1 g2 g3) rfl ⟨?_,l⟩;rw[Bm,if_pos (.inr (.inl (by rw[Aa f];exact Aa L)))];exact ⟨_,_,_,_,rfl⟩
     ·have L:=Ab (show BG ((Ak s).drop j) (k - j)=false by rw[Aa ac];simp[NI,S,SF ae]);have aB:=beq_eq_false_iff_ne.2 ae;clear S;have ar:(s.extract j k).size=k - j:=by rw[ByteArray.size_extract];omega
      have g:=Ab (Bk s j k);by_cases K:k - j=19
      ·have af:(((k - j:Nat):Int)== 19)=true:=by rw[K];rfl
       cases V:Op.bytesLess (s.extract j k).toList [57,50,50,51,51,55,50,48,51,54,56,53,52,55,55,53,56,48,55]
       ·cases W:((s.extract j k).toList== [57,50,50,51,51,55,50,48,51,54,56,53,52,55,55,53,56,48,55])
        ·have ag:=Ab (show 9223372036854775807 < CC (((Ak s).drop j).take (k - j)) from Mx (Aa f) K (Aa g) V W);go_wp2_with (first | (go_at_call 51;refine (AY _ _).mono ?_;rintro e w' ⟨rfl,a⟩;rw[Aa R,a];clear a) | (go_at_call 48;refine (AG _ _).mono ?_;rintro e w' ⟨rfl,a⟩;rw[Aa U,a];clear a))
         have l:=Aj (b:=w.heap.size) (t.setCell (p:=⟨w.heap.size+1,0,none⟩) (by show w.heap.size≤w.heap.size+1;omega) (.int .i64 1)) NLN (.int .i64 1) (.int .i64 0) (.string ⟨#[]⟩) (.int .i64 j);obtain ⟨c,g1,g2,g3,_⟩:=AE (Aw (r.setFar (p:=⟨w.heap.size+1,0,none⟩) (by show w.heap.size≠w.heap.size+1;omega) (.int .i64 1)) (.int .i64 1) (.int .i64 0) (.string ⟨#[]⟩) (.int .i64 j));simp only[BN] at c g1 g2 g3;refine bodyPost_ret (Au Tryz.results26 rfl c g1 g2 g3) rfl ⟨?_,l⟩;rw[Bm,if_pos (.inr (.inr (by rw[Aa f];exact Aa ag)))];exact ⟨_,_,_,_,rfl⟩
        ·have u:=Ab (show CC (((Ak s).drop j).take (k - j))≤9223372036854775807 from PJ (Aa g) W);go_wp2_with (first | (go_at_call 51;refine (AY _ _).mono ?_;rintro e w' ⟨rfl,a⟩;rw[Aa R,a];clear a) | (go_at_call 48;refine (AG _ _).mono ?_;rintro e w' ⟨rfl,a⟩;rw[Aa U,a];clear a))
         generalize s.extract j k=x at *;have m:=Ab (show (Ak x).all Ci=true by rw[Aa g,← Aa f];exact Dg Ci _);have M:=Ab (show CC (Ak x)≤9223372036854775807 by rw[Aa g];exact Aa u);go_loopw [12] (fun i wr=>∃ (q:Nat) (v:Int),q≤k - j∧i= .int .i64 q∧v=CC ((Ak x).take q)∧An wr w.heap.size #[.int .i64 0,.int .i64 0,.string ⟨#[]⟩,.int .i64 0] 41∧An wr (w.heap.size+1) #[.int .i64 1,.int .i64 v,.string ⟨#[]⟩,.int .i64 j] 41∧Below w.heap.size w wr) (fun i _=>(k - j) - (intOf i).toNat)
         case atStart=>exact ⟨0,0,Nat.zero_le _,rfl,rfl,r.setFar (p:=⟨w.heap.size+1,0,none⟩) (by show w.heap.size≠w.heap.size+1;omega) (.int .i64 1),E.set 0 (.int .i64 1),t.setCell (p:=⟨w.heap.size+1,0,none⟩) (by show w.heap.size≤w.heap.size+1;omega) (.int .i64 1)⟩
         case round=>
          obtain ⟨q,v,hq,rfl,d,n,y,z⟩:=hrel;clear F c1 c2 c3 H I d1 d2 d3 J r E t;obtain ⟨F,c1,c2,c3,H⟩:=AE y;obtain ⟨I,d1,d2,d3,J⟩:=AE n;by_cases X:q < k - j
          ·have A:q < x.size:=by omega
           have N:(q:Int) < ((k - j:Nat):Int):=by omega
           have B:Ci x[q]=true:=List.all_eq_true.1 (Aa m) _ (GB A);obtain ⟨b1,b2⟩:=(E8 _).1 B;have C:v * 10+((x[q].toNat:Int) - 48)=CC ((Ak x).take (q+1)):=by rw[Ak,Dm x q A,EM,← Ak,← d]
           have O:=Bl (q+1) (Ak x) (Aa m);have P:=(Bl q (Ak x) (Aa m)).1;have Q:=Aa M;have Y: 0≤v:=by omega
           have Z:v * 10+((x[q].toNat:Int) - 48)≤9223372036854775807:=by omega
           have o:=Ab C;clear C O P Q d B;go_wp2
           go_region
           go_wp2
           go_roundw
           case rel=>exact ⟨q+1,v * 10+((x[q].toNat:Int) - 48),by omega,by go_num,Aa o,⟨(n.setFar (p:=⟨w.heap.size+1,1,none⟩) (by show w.heap.size≠w.heap.size+1;omega) (.int .i64 (v * 10+((x[q].toNat:Int) - 48)))).out⟩,⟨(y.set 1 (.int .i64 (v * 10+((x[q].toNat:Int) - 48)))).out⟩,(z.setCell (p:=⟨w.heap.size+1,1,none⟩) (by show w.heap.size≤w.heap.size+1;omega) (.int .i64 (v * 10+((x[q].toNat:Int) - 48)))).drew⟩
           case measure=>simp[intOf];omega
          ·have N: ¬ ((q:Int) < ((k - j:Nat):Int)):=by omega
           have o:=Ab (show v=CC (((Ak s).drop j).take (k - j)) by rw[d,← Aa g,List.take_of_length_le (by rw[As];omega)]);clear d;go_wp2_with fail
           have l:=Aj (b:=w.heap.size) z NLN (.int .i64 1) (.int .i64 v) (.string ⟨#[]⟩) (.int .i64 j);obtain ⟨c,g1,g2,g3,_⟩:=AE (Aw n (.int .i64 1) (.int .i64 v) (.string ⟨#[]⟩) (.int .i64 j));simp only[BN] at c g1 g2 g3;refine bodyPost_ret (Au Tryz.results26 rfl c g1 g2 g3) rfl ⟨?_,l⟩;rw[Bm,Aa f,if_neg (by rintro (h | h | h);omega;rw[Aa L] at h;cases h;have:=Aa u;omega),← Aa o];simp only[D0];rw[show j+(k - j)=k by omega];rfl
       ·have u:=Ab (show CC (((Ak s).drop j).take (k - j))≤9223372036854775807 from PI (Aa f) K (Aa g) V);go_wp2_with (first | (go_at_call 51;refine (AY _ _).mono ?_;rintro e w' ⟨rfl,a⟩;rw[Aa R,a];clear a) | (go_at_call 48;refine (AG _ _).mono ?_;rintro e w' ⟨rfl,a⟩;rw[Aa U,a];clear a))
        generalize s.extract j k=x at *;have m:=Ab (show (Ak x).all Ci=true by rw[Aa g,← Aa f];exact Dg Ci _);have M:=Ab (show CC (Ak x)≤9223372036854775807 by rw[Aa g];exact Aa u);go_loopw [12] (fun i wr=>∃ (q:Nat) (v:Int),q≤k - j∧i= .int .i64 q∧v=CC ((Ak x).take q)∧An wr w.heap.size #[.int .i64 0,.int .i64 0,.string ⟨#[]⟩,.int .i64 0] 41∧An wr (w.heap.size+1) #[.int .i64 1,.int .i64 v,.string ⟨#[]⟩,.int .i64 j] 41∧Below w.heap.size w wr) (fun i _=>(k - j) - (intOf i).toNat)
        case atStart=>exact ⟨0,0,Nat.zero_le _,rfl,rfl,r.setFar (p:=⟨w.heap.size+1,0,none⟩) (by show w.heap.size≠w.heap.size+1;omega) (.int .i64 1),E.set 0 (.int .i64 1),t.setCell (p:=⟨w.heap.size+1,0,none⟩) (by show w.heap.size≤w.heap.size+1;omega) (.int .i64 1)⟩
        case round=>
         obtain ⟨q,v,hq,rfl,d,n,y,z⟩:=hrel;clear F c1 c2 c3 H I d1 d2 d3 J r E t;obtain ⟨F,c1,c2,c3,H⟩:=AE y;obtain ⟨I,d1,d2,d3,J⟩:=AE n;by_cases X:q < k - j
         ·have A:q < x.size:=by omega
          have N:(q:Int) < ((k - j:Nat):Int):=by omega
          have B:Ci x[q]=true:=List.all_eq_true.1 (Aa m) _ (GB A);obtain ⟨b1,b2⟩:=(E8 _).1 B;have C:v * 10+((x[q].toNat:Int) - 48)=CC ((Ak x).take (q+1)):=by rw[Ak,Dm x q A,EM,← Ak,← d]
          have O:=Bl (q+1) (Ak x) (Aa m);have P:=(Bl q (Ak x) (Aa m)).1;have Q:=Aa M;have Y: 0≤v:=by omega
          have Z:v * 10+((x[q].toNat:Int) - 48)≤9223372036854775807:=by omega
          have o:=Ab C;clear C O P Q d B;go_wp2
          go_region
          go_wp2
          go_roundw
          case rel=>exact ⟨q+1,v * 10+((x[q].toNat:Int) - 48),by omega,by go_num,Aa o,⟨(n.setFar (p:=⟨w.heap.size+1,1,none⟩) (by show w.heap.size≠w.heap.size+1;omega) (.int .i64 (v * 10+((x[q].toNat:Int) - 48)))).out⟩,⟨(y.set 1 (.int .i64 (v * 10+((x[q].toNat:Int) - 48)))).out⟩,(z.setCell (p:=⟨w.heap.size+1,1,none⟩) (by show w.heap.size≤w.heap.size+1;omega) (.int .i64 (v * 10+((x[q].toNat:Int) - 48)))).drew⟩
          case measure=>simp[intOf];omega
         ·have N: ¬ ((q:Int) < ((k - j:Nat):Int)):=by omega
          have o:=Ab (show v=CC (((Ak s).drop j).take (k - j)) by rw[d,← Aa g,List.take_of_length_le (by rw[As];omega)]);clear d;go_wp2_with fail
          have l:=Aj (b:=w.heap.size) z NLN (.int .i64 1) (.int .i64 v) (.string ⟨#[]⟩) (.int .i64 j);obtain ⟨c,g1,g2,g3,_⟩:=AE (Aw n (.int .i64 1) (.int .i64 v) (.string ⟨#[]⟩) (.int .i64 j));simp only[BN] at c g1 g2 g3;refine bodyPost_ret (Au Tryz.results26 rfl c g1 g2 g3) rfl ⟨?_,l⟩;rw[Bm,Aa f,if_neg (by rintro (h | h | h);omega;rw[Aa L] at h;cases h;have:=Aa u;omega),← Aa o];simp only[D0];rw[show j+(k - j)=k by omega];rfl
      ·have af:(((k - j:Nat):Int)== 19)=false:=beq_eq_false_iff_ne.2 (by omega);have u:=Ab (show CC (((Ak s).drop j).take (k - j))≤9223372036854775807 from My (Aa f) (by omega));go_wp2_with (first | (go_at_call 51;refine (AY _ _).mono ?_;rintro e w' ⟨rfl,a⟩;rw[Aa R,a];clear a) | (go_at_call 48;refine (AG _ _).mono ?_;rintro e w' ⟨rfl,a⟩;rw[Aa U,a];clear a))
       generalize s.extract j k=x at *;have m:=Ab (show (Ak x).all Ci=true by rw[Aa g,← Aa f];exact Dg Ci _);have M:=Ab (show CC (Ak x)≤9223372036854775807 by rw[Aa g];exact Aa u);go_loopw [12] (fun i wr=>∃ (q:Nat) (v:Int),q≤k - j∧i= .int .i64 q∧v=CC ((Ak x).take q)∧An wr w.heap.size #[.int .i64 0,.int .i64 0,.string ⟨#[]⟩,.int .i64 0] 41∧An wr (w.heap.size+1) #[.int .i64 1,.int .i64 v,.string ⟨#[]⟩,.int .i64 j] 41∧Below w.heap.size w wr) (fun i _=>(k - j) - (intOf i).toNat)
       case atStart=>exact ⟨0,0,Nat.zero_le _,rfl,rfl,r.setFar (p:=⟨w.heap.size+1,0,none⟩) (by show w.heap.size≠w.heap.size+1;omega) (.int .i64 1),E.set 0 (.int .i64 1),t.setCell (p:=⟨w.heap.size+1,0,none⟩) (by show w.heap.size≤w.heap.size+1;omega) (.int .i64 1)⟩
       case round=>
        obtain ⟨q,v,hq,rfl,d,n,y,z⟩:=hrel;clear F c1 c2 c3 H I d1 d2 d3 J r E t;obtain ⟨F,c1,c2,c3,H⟩:=AE y;obtain ⟨I,d1,d2,d3,J⟩:=AE n;by_cases X:q < k - j
        ·have A:q < x.size:=by omega
         have N:(q:Int) < ((k - j:Nat):Int):=by omega
         have B:Ci x[q]=true:=List.all_eq_true.1 (Aa m) _ (GB A);obtain ⟨b1,b2⟩:=(E8 _).1 B;have C:v * 10+((x[q].toNat:Int) - 48)=CC ((Ak x).take (q+1)):=by rw[Ak,Dm x q A,EM,← Ak,← d]
         have O:=Bl (q+1) (Ak x) (Aa m);have P:=(Bl q (Ak x) (Aa m)).1;have Q:=Aa M;have Y: 0≤v:=by omega
         have Z:v * 10+((x[q].toNat:Int) - 48)≤9223372036854775807:=by omega
         have o:=Ab C;clear C O P Q d B;go_wp2
         go_region
         go_wp2
         go_roundw
         case rel=>exact ⟨q+1,v * 10+((x[q].toNat:Int) - 48),by omega,by go_num,Aa o,⟨(n.setFar (p:=⟨w.heap.size+1,1,none⟩) (by show w.heap.size≠w.heap.size+1;omega) (.int .i64 (v * 10+((x[q].toNat:Int) - 48)))).out⟩,⟨(y.set 1 (.int .i64 (v * 10+((x[q].toNat:Int) - 48)))).out⟩,(z.setCell (p:=⟨w.heap.size+1,1,none⟩) (by show w.heap.size≤w.heap.size+1;omega) (.int .i64 (v * 10+((x[q].toNat:Int) - 48)))).drew⟩
         case measure=>simp[intOf];omega
        ·have N: ¬ ((q:Int) < ((k - j:Nat):Int)):=by omega
         have o:=Ab (show v=CC (((Ak s).drop j).take (k - j)) by rw[d,← Aa g,List.take_of_length_le (by rw[As];omega)]);clear d;go_wp2_with fail
         have l:=Aj (b:=w.heap.size) z NLN (.int .i64 1) (.int .i64 v) (.string ⟨#[]⟩) (.int .i64 j);obtain ⟨c,g1,g2,g3,_⟩:=AE (Aw n (.int .i64 1) (.int .i64 v) (.string ⟨#[]⟩) (.int .i64 j));simp only[BN] at c g1 g2 g3;refine bodyPost_ret (Au Tryz.results26 rfl c g1 g2 g3) rfl ⟨?_,l⟩;rw[Bm,Aa f,if_neg (by rintro (h | h | h);omega;rw[Aa L] at h;cases h;have:=Aa u;omega),← Aa o];simp only[D0];rw[show j+(k - j)=k by omega];rfl
    ·have U:=Ab S;have L:=Ab (show BG ((Ak s).drop j) (k - j)=true by rw[Aa ac];simp[NI,S]);clear S;go_wp2_with (first | (go_at_call 51;refine (AY _ _).mono ?_;rintro e w' ⟨rfl,a⟩;rw[Aa R,a];clear a) | (go_at_call 48;refine (AG _ _).mono ?_;rintro e w' ⟨rfl,a⟩;rw[Aa U,a];clear a))
     have l:=Aj (b:=w.heap.size) (t.setCell (p:=⟨w.heap.size+1,0,none⟩) (by show w.heap.size≤w.heap.size+1;omega) (.int .i64 1)) NLN (.int .i64 1) (.int .i64 0) (.string ⟨#[]⟩) (.int .i64 j);obtain ⟨c,g1,g2,g3,_⟩:=AE (Aw (r.setFar (p:=⟨w.heap.size+1,0,none⟩) (by show w.heap.size≠w.heap.size+1;omega) (.int .i64 1)) (.int .i64 1) (.int .i64 0) (.string ⟨#[]⟩) (.int .i64 j));simp only[BN] at c g1 g2 g3;refine bodyPost_ret (Au Tryz.results26 rfl c g1 g2 g3) rfl ⟨?_,l⟩;rw[Bm,if_pos (.inr (.inl (by rw[Aa f];exact Aa L)))];exact ⟨_,_,_,_,rfl⟩
   ·have au:=Ab (Ey ab T);have R:=Ab (show dgI (s[k].toNat:Int)=true from T);clear T;go_wp2_with (go_at_call 51;refine (AY _ _).mono ?_;rintro e w' ⟨rfl,a⟩;rw[Aa R,a];clear a)
    go_round
    case rel=>exact ⟨k+1,by omega,by omega,by go_num,by rw[Aa aj,Aa au]⟩
    case measure=>simp[intOf];omega
  ·have f:=Ab (show AK Ci ((Ak s).drop j)=k - j by have:=aa (Fw (by omega));have:=DM Ci s j;omega);have L:=Ab (show BG ((Ak s).drop j) (k - j)=false from JS (by omega));have aq: ¬ ((k:Int) < (s.size:Int)):=by omega
   clear aa;by_cases K: 19 < k - j
   ·have ad:(19 :Int) < (k:Int) - (j:Int):=by omega
    go_wp2_with fail
    have l:=Aj (b:=w.heap.size) (t.setCell (p:=⟨w.heap.size+1,0,none⟩) (by show w.heap.size≤w.heap.size+1;omega) (.int .i64 1)) NLN (.int .i64 1) (.int .i64 0) (.string ⟨#[]⟩) (.int .i64 j);obtain ⟨c,g1,g2,g3,_⟩:=AE (Aw (r.setFar (p:=⟨w.heap.size+1,0,none⟩) (by show w.heap.size≠w.heap.size+1;omega) (.int .i64 1)) (.int .i64 1) (.int .i64 0) (.string ⟨#[]⟩) (.int .i64 j));simp only[BN] at c g1 g2 g3;refine bodyPost_ret (Au Tryz.results26 rfl c g1 g2 g3) rfl ⟨?_,l⟩;rw[Bm,if_pos (.inl (by rw[Aa f];exact K))];exact ⟨_,_,_,_,rfl⟩
   have ad: ¬ ((19 :Int) < (k:Int) - (j:Int)):=by omega
   have ar:(s.extract j k).size=k - j:=by rw[ByteArray.size_extract];omega
   have g:=Ab (Bk s j k);by_cases K:k - j=19
   ·have af:(((k - j:Nat):Int)== 19)=true:=by rw[K];rfl
    cases V:Op.bytesLess (s.extract j k).toList [57,50,50,51,51,55,50,48,51,54,56,53,52,55,55,53,56,48,55]
    ·cases W:((s.extract j k).toList== [57,50,50,51,51,55,50,48,51,54,56,53,52,55,55,53,56,48,55])
     ·have ag:=Ab (show 9223372036854775807 < CC (((Ak s).drop j).take (k - j)) from Mx (Aa f) K (Aa g) V W);go_wp2_with fail
      have l:=Aj (b:=w.heap.size) (t.setCell (p:=⟨w.heap.size+1,0,none⟩) (by show w.heap.size≤w.heap.size+1;omega) (.int .i64 1)) NLN (.int .i64 1) (.int .i64 0) (.string ⟨#[]⟩) (.int .i64 j);obtain ⟨c,g1,g2,g3,_⟩:=AE (Aw (r.setFar (p:=⟨w.heap.size+1,0,none⟩) (by show w.heap.size≠w.heap.size+1;omega) (.int .i64 1)) (.int .i64 1) (.int .i64 0) (.string ⟨#[]⟩) (.int .i64 j));simp only[BN] at c g1 g2 g3;refine bodyPost_ret (Au Tryz.results26 rfl c g1 g2 g3) rfl ⟨?_,l⟩;rw[Bm,if_pos (.inr (.inr (by rw[Aa f];exact Aa ag)))];exact ⟨_,_,_,_,rfl⟩
     ·have u:=Ab (show CC (((Ak s).drop j).take (k - j))≤9223372036854775807 from PJ (Aa g) W);go_wp2_with fail
      generalize s.extract j k=x at *;have m:=Ab (show (Ak x).all Ci=true by rw[Aa g,← Aa f];exact Dg Ci _);have M:=Ab (show CC (Ak x)≤9223372036854775807 by rw[Aa g];exact Aa u);go_loopw [12] (fun i wr=>∃ (q:Nat) (v:Int),q≤k - j∧i= .int .i64 q∧v=CC ((Ak x).take q)∧An wr w.heap.size #[.int .i64 0,.int .i64 0,.string ⟨#[]⟩,.int .i64 0] 41∧An wr (w.heap.size+1) #[.int .i64 1,.int .i64 v,.string ⟨#[]⟩,.int .i64 j] 41∧Below w.heap.size w wr) (fun i _=>(k - j) - (intOf i).toNat)
      case atStart=>exact ⟨0,0,Nat.zero_le _,rfl,rfl,r.setFar (p:=⟨w.heap.size+1,0,none⟩) (by show w.heap.size≠w.heap.size+1;omega) (.int .i64 1),E.set 0 (.int .i64 1),t.setCell (p:=⟨w.heap.size+1,0,none⟩) (by show w.heap.size≤w.heap.size+1;omega) (.int .i64 1)⟩
      case round=>
       obtain ⟨q,v,hq,rfl,d,n,y,z⟩:=hrel;clear F c1 c2 c3 H I d1 d2 d3 J r E t;obtain ⟨F,c1,c2,c3,H⟩:=AE y;obtain ⟨I,d1,d2,d3,J⟩:=AE n;by_cases X:q < k - j
       ·have A:q < x.size:=by omega
        have N:(q:Int) < ((k - j:Nat):Int):=by omega
        have B:Ci x[q]=true:=List.all_eq_true.1 (Aa m) _ (GB A);obtain ⟨b1,b2⟩:=(E8 _).1 B;have C:v * 10+((x[q].toNat:Int) - 48)=CC ((Ak x).take (q+1)):=by rw[Ak,Dm x q A,EM,← Ak,← d]
        have O:=Bl (q+1) (Ak x) (Aa m);have P:=(Bl q (Ak x) (Aa m)).1;have Q:=Aa M;have Y: 0≤v:=by omega
        have Z:v * 10+((x[q].toNat:Int) - 48)≤9223372036854775807:=by omega
        have o:=Ab C;clear C O P Q d B;go_wp2
        go_region
        go_wp2
        go_roundw
        case rel=>exact ⟨q+1,v * 10+((x[q].toNat:Int) - 48),by omega,by go_num,Aa o,⟨(n.setFar (p:=⟨w.heap.size+1,1,none⟩) (by show w.heap.size≠w.heap.size+1;omega) (.int .i64 (v * 10+((x[q].toNat:Int) - 48)))).out⟩,⟨(y.set 1 (.int .i64 (v * 10+((x[q].toNat:Int) - 48)))).out⟩,(z.setCell (p:=⟨w.heap.size+1,1,none⟩) (by show w.heap.size≤w.heap.size+1;omega) (.int .i64 (v * 10+((x[q].toNat:Int) - 48)))).drew⟩
        case measure=>simp[intOf];omega
       ·have N: ¬ ((q:Int) < ((k - j:Nat):Int)):=by omega
        have o:=Ab (show v=CC (((Ak s).drop j).take (k - j)) by rw[d,← Aa g,List.take_of_length_le (by rw[As];omega)]);clear d;go_wp2_with fail
        have l:=Aj (b:=w.heap.size) z NLN (.int .i64 1) (.int .i64 v) (.string ⟨#[]⟩) (.int .i64 j);obtain ⟨c,g1,g2,g3,_⟩:=AE (Aw n (.int .i64 1) (.int .i64 v) (.string ⟨#[]⟩) (.int .i64 j));simp only[BN] at c g1 g2 g3;refine bodyPost_ret (Au Tryz.results26 rfl c g1 g2 g3) rfl ⟨?_,l⟩;rw[Bm,Aa f,if_neg (by rintro (h | h | h);omega;rw[Aa L] at h;cases h;have:=Aa u;omega),← Aa o];simp only[D0];rw[show j+(k - j)=k by omega];rfl
    ·have u:=Ab (show CC (((Ak s).drop j).take (k - j))≤9223372036854775807 from PI (Aa f) K (Aa g) V);go_wp2_with fail
     generalize s.extract j k=x at *;have m:=Ab (show (Ak x).all Ci=true by rw[Aa g,← Aa f];exact Dg Ci _);have M:=Ab (show CC (Ak x)≤9223372036854775807 by rw[Aa g];exact Aa u);go_loopw [12] (fun i wr=>∃ (q:Nat) (v:Int),q≤k - j∧i= .int .i64 q∧v=CC ((Ak x).take q)∧An wr w.heap.size #[.int .i64 0,.int .i64 0,.string ⟨#[]⟩,.int .i64 0] 41∧An wr (w.heap.size+1) #[.int .i64 1,.int .i64 v,.string ⟨#[]⟩,.int .i64 j] 41∧Below w.heap.size w wr) (fun i _=>(k - j) - (intOf i).toNat)
     case atStart=>exact ⟨0,0,Nat.zero_le _,rfl,rfl,r.setFar (p:=⟨w.heap.size+1,0,none⟩) (by show w.heap.size≠w.heap.size+1;omega) (.int .i64 1),E.set 0 (.int .i64 1),t.setCell (p:=⟨w.heap.size+1,0,none⟩) (by show w.heap.size≤w.heap.size+1;omega) (.int .i64 1)⟩
     case round=>
      obtain ⟨q,v,hq,rfl,d,n,y,z⟩:=hrel;clear F c1 c2 c3 H I d1 d2 d3 J r E t;obtain ⟨F,c1,c2,c3,H⟩:=AE y;obtain ⟨I,d1,d2,d3,J⟩:=AE n;by_cases X:q < k - j
      ·have A:q < x.size:=by omega
       have N:(q:Int) < ((k - j:Nat):Int):=by omega
       have B:Ci x[q]=true:=List.all_eq_true.1 (Aa m) _ (GB A);obtain ⟨b1,b2⟩:=(E8 _).1 B;have C:v * 10+((x[q].toNat:Int) - 48)=CC ((Ak x).take (q+1)):=by rw[Ak,Dm x q A,EM,← Ak,← d]
       have O:=Bl (q+1) (Ak x) (Aa m);have P:=(Bl q (Ak x) (Aa m)).1;have Q:=Aa M;have Y: 0≤v:=by omega
       have Z:v * 10+((x[q].toNat:Int) - 48)≤9223372036854775807:=by omega
       have o:=Ab C;clear C O P Q d B;go_wp2
       go_region
       go_wp2
       go_roundw
       case rel=>exact ⟨q+1,v * 10+((x[q].toNat:Int) - 48),by omega,by go_num,Aa o,⟨(n.setFar (p:=⟨w.heap.size+1,1,none⟩) (by show w.heap.size≠w.heap.size+1;omega) (.int .i64 (v * 10+((x[q].toNat:Int) - 48)))).out⟩,⟨(y.set 1 (.int .i64 (v * 10+((x[q].toNat:Int) - 48)))).out⟩,(z.setCell (p:=⟨w.heap.size+1,1,none⟩) (by show w.heap.size≤w.heap.size+1;omega) (.int .i64 (v * 10+((x[q].toNat:Int) - 48)))).drew⟩
       case measure=>simp[intOf];omega
      ·have N: ¬ ((q:Int) < ((k - j:Nat):Int)):=by omega
       have o:=Ab (show v=CC (((Ak s).drop j).take (k - j)) by rw[d,← Aa g,List.take_of_length_le (by rw[As];omega)]);clear d;go_wp2_with fail
       have l:=Aj (b:=w.heap.size) z NLN (.int .i64 1) (.int .i64 v) (.string ⟨#[]⟩) (.int .i64 j);obtain ⟨c,g1,g2,g3,_⟩:=AE (Aw n (.int .i64 1) (.int .i64 v) (.string ⟨#[]⟩) (.int .i64 j));simp only[BN] at c g1 g2 g3;refine bodyPost_ret (Au Tryz.results26 rfl c g1 g2 g3) rfl ⟨?_,l⟩;rw[Bm,Aa f,if_neg (by rintro (h | h | h);omega;rw[Aa L] at h;cases h;have:=Aa u;omega),← Aa o];simp only[D0];rw[show j+(k - j)=k by omega];rfl
   ·have af:(((k - j:Nat):Int)== 19)=false:=beq_eq_false_iff_ne.2 (by omega);have u:=Ab (show CC (((Ak s).drop j).take (k - j))≤9223372036854775807 from My (Aa f) (by omega));go_wp2_with fail
    generalize s.extract j k=x at *;have m:=Ab (show (Ak x).all Ci=true by rw[Aa g,← Aa f];exact Dg Ci _);have M:=Ab (show CC (Ak x)≤9223372036854775807 by rw[Aa g];exact Aa u);go_loopw [12] (fun i wr=>∃ (q:Nat) (v:Int),q≤k - j∧i= .int .i64 q∧v=CC ((Ak x).take q)∧An wr w.heap.size #[.int .i64 0,.int .i64 0,.string ⟨#[]⟩,.int .i64 0] 41∧An wr (w.heap.size+1) #[.int .i64 1,.int .i64 v,.string ⟨#[]⟩,.int .i64 j] 41∧Below w.heap.size w wr) (fun i _=>(k - j) - (intOf i).toNat)
    case atStart=>exact ⟨0,0,Nat.zero_le _,rfl,rfl,r.setFar (p:=⟨w.heap.size+1,0,none⟩) (by show w.heap.size≠w.heap.size+1;omega) (.int .i64 1),E.set 0 (.int .i64 1),t.setCell (p:=⟨w.heap.size+1,0,none⟩) (by show w.heap.size≤w.heap.size+1;omega) (.int .i64 1)⟩
    case round=>
     obtain ⟨q,v,hq,rfl,d,n,y,z⟩:=hrel;clear F c1 c2 c3 H I d1 d2 d3 J r E t;obtain ⟨F,c1,c2,c3,H⟩:=AE y;obtain ⟨I,d1,d2,d3,J⟩:=AE n;by_cases X:q < k - j
     ·have A:q < x.size:=by omega
      have N:(q:Int) < ((k - j:Nat):Int):=by omega
      have B:Ci x[q]=true:=List.all_eq_true.1 (Aa m) _ (GB A);obtain ⟨b1,b2⟩:=(E8 _).1 B;have C:v * 10+((x[q].toNat:Int) - 48)=CC ((Ak x).take (q+1)):=by rw[Ak,Dm x q A,EM,← Ak,← d]
      have O:=Bl (q+1) (Ak x) (Aa m);have P:=(Bl q (Ak x) (Aa m)).1;have Q:=Aa M;have Y: 0≤v:=by omega
      have Z:v * 10+((x[q].toNat:Int) - 48)≤9223372036854775807:=by omega
      have o:=Ab C;clear C O P Q d B;go_wp2
      go_region
      go_wp2
      go_roundw
      case rel=>exact ⟨q+1,v * 10+((x[q].toNat:Int) - 48),by omega,by go_num,Aa o,⟨(n.setFar (p:=⟨w.heap.size+1,1,none⟩) (by show w.heap.size≠w.heap.size+1;omega) (.int .i64 (v * 10+((x[q].toNat:Int) - 48)))).out⟩,⟨(y.set 1 (.int .i64 (v * 10+((x[q].toNat:Int) - 48)))).out⟩,(z.setCell (p:=⟨w.heap.size+1,1,none⟩) (by show w.heap.size≤w.heap.size+1;omega) (.int .i64 (v * 10+((x[q].toNat:Int) - 48)))).drew⟩
      case measure=>simp[intOf];omega
     ·have N: ¬ ((q:Int) < ((k - j:Nat):Int)):=by omega
      have o:=Ab (show v=CC (((Ak s).drop j).take (k - j)) by rw[d,← Aa g,List.take_of_length_le (by rw[As];omega)]);clear d;go_wp2_with fail
      have l:=Aj (b:=w.heap.size) z NLN (.int .i64 1) (.int .i64 v) (.string ⟨#[]⟩) (.int .i64 j);obtain ⟨c,g1,g2,g3,_⟩:=AE (Aw n (.int .i64 1) (.int .i64 v) (.string ⟨#[]⟩) (.int .i64 j));simp only[BN] at c g1 g2 g3;refine bodyPost_ret (Au Tryz.results26 rfl c g1 g2 g3) rfl ⟨?_,l⟩;rw[Bm,Aa f,if_neg (by rintro (h | h | h);omega;rw[Aa L] at h;cases h;have:=Aa u;omega),← Aa o];simp only[D0];rw[show j+(k - j)=k by omega];rfl
end Go.Proofs.YtdldimphcpojoaaGreatDoor
