/-
  The walk over the model's l2one: numbers. Own work.
-/
import Derived.Test.YtcpdodmoheebaaaGreatDoorMXAM
namespace Go.Proofs.YtcpdodmoheebaaaGreatDoor
set_option maxRecDepth 100000
set_option maxHeartbeats 6400000
open Go.RowKit
set_option linter.unusedVariables false
theorem C6 {x:ByteArray}{a:Nat}(h:a < x.size):x[a]∈Ad x:=by
 have b:a < (Ad x).length:=by rw [Ag];exact h
 exact List.getElem_mem (l:=Ad x) b
theorem Fr {s:ByteArray}{j k:Nat}(h:k < s.size)(b:j≤k):AO ((Ad s).drop j) (k - j)=(GK s[k] || decide (s[k]=95)):=by
 have e:((Ad s).drop j)[k - j]? =some s[k]:=by
  have a:k < (Ad s).length:=by rw [Ag];exact h
  rw [List.getElem?_drop,show j+(k - j)=k by omega,List.getElem?_eq_getElem a]
  rfl
 rw [AO,e]
theorem EI {s:ByteArray}{j k:Nat}(h:s.size≤k):AO ((Ad s).drop j) (k - j)=false:=by
 have e:((Ad s).drop j)[k - j]? =none:=by
  rw [List.getElem?_eq_none]
  rw [List.length_drop,Ag];omega
 rw [AO,e]
theorem KR {c:UInt8}(h:(c.toNat:Int)=95):c=95:=UInt8.toNat_inj.1 (by have:(95 :UInt8).toNat=95:=rfl;omega)
theorem Jy {c:UInt8}(h: ¬ (c.toNat:Int)=95): ¬ c=95:=fun e=>h (by rw [e];rfl)
theorem Jz {r:List UInt8}{n:Nat}(b:Ap AU r=n)(c:n=19):(r.take n < Fp↔Bg (r.take n) < 9223372036854775807)∧(Fp < r.take n↔9223372036854775807 < Bg (r.take n)):=by
 have h:=By AU r
 have hl:(r.take n).length=Fp.length:=by
  rw [List.length_take]
  show _=19
  omega
 have a:(r.take n).all AU=true:=by rw [← b];exact Bs AU r
 have hm:Fp.all AU=true:=by decide
 have h1:=I2 _ _ hl a hm
 have h2:=I2 _ _ hl.symm hm a
 rw [KQ] at h1 h2
 exact ⟨h1,h2⟩
theorem KS {x:ByteArray}{l:List UInt8}(hx:Ad x=l):Op.bytesLess x.toList [57,50,50,51,51,55,50,48,51,54,56,53,52,55,55,53,56,48,55]=true↔l < Fp:=by
 have h0:Op.bytesLess x.toList [57,50,50,51,51,55,50,48,51,54,56,53,52,55,55,53,56,48,55]=sl x (Bo Fp):=by
  unfold sl
  rw [ByteArray.toList_eq (Bo Fp)]
  rfl
 rw [h0,GD,← hx]
 exact Iff.rfl
theorem In {r:List UInt8}{n:Nat}(a:Ap AU r=n)(b:n=19){x:ByteArray}(hx:Ad x=r.take n)(h:Op.bytesLess x.toList [57,50,50,51,51,55,50,48,51,54,56,53,52,55,55,53,56,48,55]=true):Bg (r.take n)≤9223372036854775807:=by
 have:=(Jz a b).1.1 ((KS hx).1 h)
 omega
theorem Io {r:List UInt8}{n:Nat}{x:ByteArray}(hx:Ad x=r.take n)(h:(x.toList== [57,50,50,51,51,55,50,48,51,54,56,53,52,55,55,53,56,48,55])=true):Bg (r.take n)≤9223372036854775807:=by
 rw [beq_iff_eq,ByteArray.toList_eq] at h
 have e:Ad x=Fp:=h
 rw [← hx,e,KQ]
 omega
theorem Gd {r:List UInt8}{n:Nat}(b:Ap AU r=n)(c:n=19){x:ByteArray}(hx:Ad x=r.take n)(h:Op.bytesLess x.toList [57,50,50,51,51,55,50,48,51,54,56,53,52,55,55,53,56,48,55]=false)
  (a:(x.toList== [57,50,50,51,51,55,50,48,51,54,56,53,52,55,55,53,56,48,55])=false): 9223372036854775807 < Bg (r.take n):=by
 refine (Jz b c).2.1 ?_
 have h1: ¬ r.take n < Fp:=fun k=>by rw [(KS hx).2 k] at h;cases h
 rw [beq_eq_false_iff_ne,ByteArray.toList_eq] at a
 have h2:r.take n≠Fp:=fun k=>a (hx.trans k)
 rcases List.le_iff_lt_or_eq.1 (List.not_lt.1 h1) with k | k
 ·exact k
 ·exact absurd k.symm h2
theorem Ge {r:List UInt8}{n:Nat}(a:Ap AU r=n)(b:n≤18):Bg (r.take n)≤9223372036854775807:=by
 have:=By AU r
 have c:=Ca n (r.take n) (by rw [List.length_take];omega) (by rw [← a];exact Bs AU r)
 have h1: 10 ^ n≤10 ^ 18:=Nat.pow_le_pow_right (n:=10) (by decide) b
 have e1: 10 ^ 18=1000000000000000000:=rfl
 have h2:(10 :Int) ^ n≤1000000000000000000:=by
  show ((10 :Nat):Int) ^ n≤_
  rw [← Int.natCast_pow]
  omega
 omega
theorem J1 (s:ByteArray)(j:Nat)(w:World)(hs:s.size≤1048576)(aj:j < s.size)(hl:DO (s[j].toNat:Int)=false)(ak:dgI (s[j].toNat:Int)=true):
  Calls Tryz.prog 11 #[.string s,.int .i64 j] w fun e w'=>BQ j (AL ((Ad s).drop j)) e∧Below w.heap.size w w':=by
 have ax:(j:Int) < (s.size:Int):=by omega
 obtain ⟨ay,az⟩:=Gy (p:=AU) (s:=s) (Nat.le_of_lt aj)
 have aA:=Ab (Bu AU s j)
 obtain ⟨aB,ao,y,G,z,aC⟩:=CZ w j
 have ap:=Ab hl
 have aq:=Ab ak
 clear hl ak
 go_enter Tryz.func11,Tryz.ntmps11
 go_wp2_with (first | (go_at_call 21;refine (Am _ _).mono ?_;rintro e w' ⟨rfl,d⟩;rw [Aa ap,d];clear d) | (go_at_call 24;refine (Au _ _).mono ?_;rintro e w' ⟨rfl,d⟩;rw [Aa aq,d];clear d))
 clear ao
 go_loop [10] (fun n=>∃ k:Nat,j≤k∧k≤s.size∧n= .int .i64 k∧Bl AU s j=Bl AU s k) (fun n=>s.size - (intOf n).toNat)
 case atStart=>exact ⟨j,Nat.le_refl _,Nat.le_of_lt aj,rfl,rfl⟩
 case round=>
  obtain ⟨k,ar,aD,rfl,he⟩:=hrel
  have al:=Ab he
  clear he
  have ac:∀ (T:Bl AU s k=k),Bl AU s j=k:=fun T=>by rw [Aa al,T]
  obtain ⟨H,c1,c2,c3,I⟩:=An G
  obtain ⟨J,d1,d2,d3,K⟩:=An y
  by_cases ad:k < s.size
  ·have au:(k:Int) < (s.size:Int):=by omega
   cases V:AU s[k]
   ·have o:=Ab (show Ap AU ((Ad s).drop j)=k - j by have:=ac (BH ad V);have:=Bu AU s j;omega)
    have S:=Ab (show dgI (s[k].toNat:Int)=false from V)
    have ae:=Ab (Fr ad ar)
    clear V ac
    by_cases L: 19 < k - j
    ·have af:(19 :Int) < (k:Int) - (j:Int):=by omega
     go_wp2_with (first | (go_at_call 24;refine (Au _ _).mono ?_;rintro e w' ⟨rfl,d⟩;rw [Aa S,d];clear d) | (go_at_call 21;refine (Am _ _).mono ?_;rintro e w' ⟨rfl,d⟩;rw [Aa S,d];clear d))
     have r:=Ac (b:=w.heap.size) (z.setCell (p:=⟨w.heap.size+1,0,none⟩) (by show w.heap.size≤w.heap.size+1;omega) (.int .i64 1)) (Nat.le_refl _) (.int .i64 1) (.int .i64 0) (.string ⟨#[]⟩) (.int .i64 j)
     obtain ⟨f,g,i,l,_⟩:=An (Aj (y.setFar (p:=⟨w.heap.size+1,0,none⟩) (by show w.heap.size≠w.heap.size+1;omega) (.int .i64 1)) (.int .i64 1) (.int .i64 0) (.string ⟨#[]⟩) (.int .i64 j))
     simp only [AY] at f g i l
     refine bodyPost_ret (Ah Tryz.results11 rfl f g i l) rfl ⟨?_,r⟩
     rw [AL,if_pos (.inl (by rw [Aa o];exact L))]
     exact ⟨_,_,_,_,rfl⟩
    have af: ¬ ((19 :Int) < (k:Int) - (j:Int)):=by omega
    cases U:DO (s[k].toNat:Int)
    ·have W:=Ab U
     by_cases ag:(s[k].toNat:Int)=95
     ·have M:=Ab (show AO ((Ad s).drop j) (k - j)=true by rw [Aa ae];simp [GK,KR ag])
      clear U
      go_wp2_with (first | (go_at_call 24;refine (Au _ _).mono ?_;rintro e w' ⟨rfl,d⟩;rw [show dgI 95=false from by decide,d];clear d) | (go_at_call 21;refine (Am _ _).mono ?_;rintro e w' ⟨rfl,d⟩;rw [show DO 95=false from by decide,d];clear d))
      have r:=Ac (b:=w.heap.size) (z.setCell (p:=⟨w.heap.size+1,0,none⟩) (by show w.heap.size≤w.heap.size+1;omega) (.int .i64 1)) (Nat.le_refl _) (.int .i64 1) (.int .i64 0) (.string ⟨#[]⟩) (.int .i64 j)
      obtain ⟨f,g,i,l,_⟩:=An (Aj (y.setFar (p:=⟨w.heap.size+1,0,none⟩) (by show w.heap.size≠w.heap.size+1;omega) (.int .i64 1)) (.int .i64 1) (.int .i64 0) (.string ⟨#[]⟩) (.int .i64 j))
      simp only [AY] at f g i l
      refine bodyPost_ret (Ah Tryz.results11 rfl f g i l) rfl ⟨?_,r⟩
      rw [AL,if_pos (.inr (.inl (by rw [Aa o];exact Aa M)))]
      exact ⟨_,_,_,_,rfl⟩
     ·have M:=Ab (show AO ((Ad s).drop j) (k - j)=false by rw [Aa ae];simp [GK,U,Jy ag])
      have aE:=beq_eq_false_iff_ne.2 ag
      clear U
      have av:(s.extract j k).size=k - j:=by rw [ByteArray.size_extract];omega
      have q:=Ab (AC s j k)
      by_cases L:k - j=19
      ·have ah:(((k - j:Nat):Int)== 19)=true:=by rw [L];rfl
       cases X:Op.bytesLess (s.extract j k).toList [57,50,50,51,51,55,50,48,51,54,56,53,52,55,55,53,56,48,55]
       ·cases Y:((s.extract j k).toList== [57,50,50,51,51,55,50,48,51,54,56,53,52,55,55,53,56,48,55])
        ·have ai:=Ab (show 9223372036854775807 < Bg (((Ad s).drop j).take (k - j)) from Gd (Aa o) L (Aa q) X Y)
         go_wp2_with (first | (go_at_call 24;refine (Au _ _).mono ?_;rintro e w' ⟨rfl,d⟩;rw [Aa S,d];clear d) | (go_at_call 21;refine (Am _ _).mono ?_;rintro e w' ⟨rfl,d⟩;rw [Aa W,d];clear d))
         have r:=Ac (b:=w.heap.size) (z.setCell (p:=⟨w.heap.size+1,0,none⟩) (by show w.heap.size≤w.heap.size+1;omega) (.int .i64 1)) (Nat.le_refl _) (.int .i64 1) (.int .i64 0) (.string ⟨#[]⟩) (.int .i64 j)
         obtain ⟨f,g,i,l,_⟩:=An (Aj (y.setFar (p:=⟨w.heap.size+1,0,none⟩) (by show w.heap.size≠w.heap.size+1;omega) (.int .i64 1)) (.int .i64 1) (.int .i64 0) (.string ⟨#[]⟩) (.int .i64 j))
         simp only [AY] at f g i l
         refine bodyPost_ret (Ah Tryz.results11 rfl f g i l) rfl ⟨?_,r⟩
         rw [AL,if_pos (.inr (.inr (by rw [Aa o];exact Aa ai)))]
         exact ⟨_,_,_,_,rfl⟩
        ·have A:=Ab (show Bg (((Ad s).drop j).take (k - j))≤9223372036854775807 from Io (Aa q) Y)
         go_wp2_with (first | (go_at_call 24;refine (Au _ _).mono ?_;rintro e w' ⟨rfl,d⟩;rw [Aa S,d];clear d) | (go_at_call 21;refine (Am _ _).mono ?_;rintro e w' ⟨rfl,d⟩;rw [Aa W,d];clear d))
         generalize s.extract j k=x at *
         have t:=Ab (show (Ad x).all AU=true by rw [Aa q,← Aa o];exact Bs AU _)
         have N:=Ab (show Bg (Ad x)≤9223372036854775807 by rw [Aa q];exact Aa A)
         go_loopw [12] (fun n wr=>∃ (a:Nat) (c:Int),a≤k - j∧n= .int .i64 a∧c=Bg ((Ad x).take a)∧Ao wr w.heap.size #[.int .i64 0,.int .i64 0,.string ⟨#[]⟩,.int .i64 0] 30∧Ao wr (w.heap.size+1) #[.int .i64 1,.int .i64 c,.string ⟨#[]⟩,.int .i64 j] 30∧Below w.heap.size w wr) (fun n _=>(k - j) - (intOf n).toNat)
         case atStart=>exact ⟨0,0,Nat.zero_le _,rfl,rfl,y.setFar (p:=⟨w.heap.size+1,0,none⟩) (by show w.heap.size≠w.heap.size+1;omega) (.int .i64 1),G.set 0 (.int .i64 1),z.setCell (p:=⟨w.heap.size+1,0,none⟩) (by show w.heap.size≤w.heap.size+1;omega) (.int .i64 1)⟩
         case round=>
          obtain ⟨a,c,T,rfl,m,u,B,C⟩:=hrel
          clear H c1 c2 c3 I J d1 d2 d3 K y G z
          obtain ⟨H,c1,c2,c3,I⟩:=An B
          obtain ⟨J,d1,d2,d3,K⟩:=An u
          by_cases Z:a < k - j
          ·have D:a < x.size:=by omega
           have O:(a:Int) < ((k - j:Nat):Int):=by omega
           have E:AU x[a]=true:=List.all_eq_true.1 (Aa t) _ (C6 D)
           obtain ⟨b1,b2⟩:=(Cp _).1 E
           have F:c * 10+((x[a].toNat:Int) - 48)=Bg ((Ad x).take (a+1)):=by rw [Ad,Bv x a D,Ci,← Ad,← m]
           have P:=AF (a+1) (Ad x) (Aa t)
           have Q:=(AF a (Ad x) (Aa t)).1
           have R:=Aa N
           have aa: 0≤c:=by omega
           have ab:c * 10+((x[a].toNat:Int) - 48)≤9223372036854775807:=by omega
           have v:=Ab F
           clear F P Q R m E
           go_wp2
           go_region
           go_wp2
           go_roundw
           case rel=>exact ⟨a+1,c * 10+((x[a].toNat:Int) - 48),by omega,by go_num,Aa v,⟨(u.setFar (p:=⟨w.heap.size+1,1,none⟩) (by show w.heap.size≠w.heap.size+1;omega) (.int .i64 (c * 10+((x[a].toNat:Int) - 48)))).out⟩,⟨(B.set 1 (.int .i64 (c * 10+((x[a].toNat:Int) - 48)))).out⟩,(C.setCell (p:=⟨w.heap.size+1,1,none⟩) (by show w.heap.size≤w.heap.size+1;omega) (.int .i64 (c * 10+((x[a].toNat:Int) - 48)))).drew⟩
           case measure=>simp [intOf];omega
          ·have O: ¬ ((a:Int) < ((k - j:Nat):Int)):=by omega
           have v:=Ab (show c=Bg (((Ad s).drop j).take (k - j)) by rw [m,← Aa q,List.take_of_length_le (by rw [Ag];omega)])
           clear m
           go_wp2_with fail
           have r:=Ac (b:=w.heap.size) C (Nat.le_refl _) (.int .i64 1) (.int .i64 c) (.string ⟨#[]⟩) (.int .i64 j)
           obtain ⟨f,g,i,l,_⟩:=An (Aj u (.int .i64 1) (.int .i64 c) (.string ⟨#[]⟩) (.int .i64 j))
           simp only [AY] at f g i l
           refine bodyPost_ret (Ah Tryz.results11 rfl f g i l) rfl ⟨?_,r⟩
           rw [AL,Aa o,if_neg (by rintro (h | h | h);omega;rw [Aa M] at h;cases h;have:=Aa A;omega),← Aa v]
           simp only [BQ]
           rw [show j+(k - j)=k by omega];rfl
       ·have A:=Ab (show Bg (((Ad s).drop j).take (k - j))≤9223372036854775807 from In (Aa o) L (Aa q) X)
        go_wp2_with (first | (go_at_call 24;refine (Au _ _).mono ?_;rintro e w' ⟨rfl,d⟩;rw [Aa S,d];clear d) | (go_at_call 21;refine (Am _ _).mono ?_;rintro e w' ⟨rfl,d⟩;rw [Aa W,d];clear d))
        generalize s.extract j k=x at *
        have t:=Ab (show (Ad x).all AU=true by rw [Aa q,← Aa o];exact Bs AU _)
        have N:=Ab (show Bg (Ad x)≤9223372036854775807 by rw [Aa q];exact Aa A)
        go_loopw [12] (fun n wr=>∃ (a:Nat) (c:Int),a≤k - j∧n= .int .i64 a∧c=Bg ((Ad x).take a)∧Ao wr w.heap.size #[.int .i64 0,.int .i64 0,.string ⟨#[]⟩,.int .i64 0] 30∧Ao wr (w.heap.size+1) #[.int .i64 1,.int .i64 c,.string ⟨#[]⟩,.int .i64 j] 30∧Below w.heap.size w wr) (fun n _=>(k - j) - (intOf n).toNat)
        case atStart=>exact ⟨0,0,Nat.zero_le _,rfl,rfl,y.setFar (p:=⟨w.heap.size+1,0,none⟩) (by show w.heap.size≠w.heap.size+1;omega) (.int .i64 1),G.set 0 (.int .i64 1),z.setCell (p:=⟨w.heap.size+1,0,none⟩) (by show w.heap.size≤w.heap.size+1;omega) (.int .i64 1)⟩
        case round=>
         obtain ⟨a,c,T,rfl,m,u,B,C⟩:=hrel
         clear H c1 c2 c3 I J d1 d2 d3 K y G z
         obtain ⟨H,c1,c2,c3,I⟩:=An B
         obtain ⟨J,d1,d2,d3,K⟩:=An u
         by_cases Z:a < k - j
         ·have D:a < x.size:=by omega
          have O:(a:Int) < ((k - j:Nat):Int):=by omega
          have E:AU x[a]=true:=List.all_eq_true.1 (Aa t) _ (C6 D)
          obtain ⟨b1,b2⟩:=(Cp _).1 E
          have F:c * 10+((x[a].toNat:Int) - 48)=Bg ((Ad x).take (a+1)):=by rw [Ad,Bv x a D,Ci,← Ad,← m]
          have P:=AF (a+1) (Ad x) (Aa t)
          have Q:=(AF a (Ad x) (Aa t)).1
          have R:=Aa N
          have aa: 0≤c:=by omega
          have ab:c * 10+((x[a].toNat:Int) - 48)≤9223372036854775807:=by omega
          have v:=Ab F
          clear F P Q R m E
          go_wp2
          go_region
          go_wp2
          go_roundw
          case rel=>exact ⟨a+1,c * 10+((x[a].toNat:Int) - 48),by omega,by go_num,Aa v,⟨(u.setFar (p:=⟨w.heap.size+1,1,none⟩) (by show w.heap.size≠w.heap.size+1;omega) (.int .i64 (c * 10+((x[a].toNat:Int) - 48)))).out⟩,⟨(B.set 1 (.int .i64 (c * 10+((x[a].toNat:Int) - 48)))).out⟩,(C.setCell (p:=⟨w.heap.size+1,1,none⟩) (by show w.heap.size≤w.heap.size+1;omega) (.int .i64 (c * 10+((x[a].toNat:Int) - 48)))).drew⟩
          case measure=>simp [intOf];omega
         ·have O: ¬ ((a:Int) < ((k - j:Nat):Int)):=by omega
          have v:=Ab (show c=Bg (((Ad s).drop j).take (k - j)) by rw [m,← Aa q,List.take_of_length_le (by rw [Ag];omega)])
          clear m
          go_wp2_with fail
          have r:=Ac (b:=w.heap.size) C (Nat.le_refl _) (.int .i64 1) (.int .i64 c) (.string ⟨#[]⟩) (.int .i64 j)
          obtain ⟨f,g,i,l,_⟩:=An (Aj u (.int .i64 1) (.int .i64 c) (.string ⟨#[]⟩) (.int .i64 j))
          simp only [AY] at f g i l
          refine bodyPost_ret (Ah Tryz.results11 rfl f g i l) rfl ⟨?_,r⟩
          rw [AL,Aa o,if_neg (by rintro (h | h | h);omega;rw [Aa M] at h;cases h;have:=Aa A;omega),← Aa v]
          simp only [BQ]
          rw [show j+(k - j)=k by omega];rfl
      ·have ah:(((k - j:Nat):Int)== 19)=false:=beq_eq_false_iff_ne.2 (by omega)
       have A:=Ab (show Bg (((Ad s).drop j).take (k - j))≤9223372036854775807 from Ge (Aa o) (by omega))
       go_wp2_with (first | (go_at_call 24;refine (Au _ _).mono ?_;rintro e w' ⟨rfl,d⟩;rw [Aa S,d];clear d) | (go_at_call 21;refine (Am _ _).mono ?_;rintro e w' ⟨rfl,d⟩;rw [Aa W,d];clear d))
       generalize s.extract j k=x at *
       have t:=Ab (show (Ad x).all AU=true by rw [Aa q,← Aa o];exact Bs AU _)
       have N:=Ab (show Bg (Ad x)≤9223372036854775807 by rw [Aa q];exact Aa A)
       go_loopw [12] (fun n wr=>∃ (a:Nat) (c:Int),a≤k - j∧n= .int .i64 a∧c=Bg ((Ad x).take a)∧Ao wr w.heap.size #[.int .i64 0,.int .i64 0,.string ⟨#[]⟩,.int .i64 0] 30∧Ao wr (w.heap.size+1) #[.int .i64 1,.int .i64 c,.string ⟨#[]⟩,.int .i64 j] 30∧Below w.heap.size w wr) (fun n _=>(k - j) - (intOf n).toNat)
       case atStart=>exact ⟨0,0,Nat.zero_le _,rfl,rfl,y.setFar (p:=⟨w.heap.size+1,0,none⟩) (by show w.heap.size≠w.heap.size+1;omega) (.int .i64 1),G.set 0 (.int .i64 1),z.setCell (p:=⟨w.heap.size+1,0,none⟩) (by show w.heap.size≤w.heap.size+1;omega) (.int .i64 1)⟩
       case round=>
        obtain ⟨a,c,T,rfl,m,u,B,C⟩:=hrel
        clear H c1 c2 c3 I J d1 d2 d3 K y G z
        obtain ⟨H,c1,c2,c3,I⟩:=An B
        obtain ⟨J,d1,d2,d3,K⟩:=An u
        by_cases Z:a < k - j
        ·have D:a < x.size:=by omega
         have O:(a:Int) < ((k - j:Nat):Int):=by omega
         have E:AU x[a]=true:=List.all_eq_true.1 (Aa t) _ (C6 D)
         obtain ⟨b1,b2⟩:=(Cp _).1 E
         have F:c * 10+((x[a].toNat:Int) - 48)=Bg ((Ad x).take (a+1)):=by rw [Ad,Bv x a D,Ci,← Ad,← m]
         have P:=AF (a+1) (Ad x) (Aa t)
         have Q:=(AF a (Ad x) (Aa t)).1
         have R:=Aa N
         have aa: 0≤c:=by omega
         have ab:c * 10+((x[a].toNat:Int) - 48)≤9223372036854775807:=by omega
         have v:=Ab F
         clear F P Q R m E
         go_wp2
         go_region
         go_wp2
         go_roundw
         case rel=>exact ⟨a+1,c * 10+((x[a].toNat:Int) - 48),by omega,by go_num,Aa v,⟨(u.setFar (p:=⟨w.heap.size+1,1,none⟩) (by show w.heap.size≠w.heap.size+1;omega) (.int .i64 (c * 10+((x[a].toNat:Int) - 48)))).out⟩,⟨(B.set 1 (.int .i64 (c * 10+((x[a].toNat:Int) - 48)))).out⟩,(C.setCell (p:=⟨w.heap.size+1,1,none⟩) (by show w.heap.size≤w.heap.size+1;omega) (.int .i64 (c * 10+((x[a].toNat:Int) - 48)))).drew⟩
         case measure=>simp [intOf];omega
        ·have O: ¬ ((a:Int) < ((k - j:Nat):Int)):=by omega
         have v:=Ab (show c=Bg (((Ad s).drop j).take (k - j)) by rw [m,← Aa q,List.take_of_length_le (by rw [Ag];omega)])
         clear m
         go_wp2_with fail
         have r:=Ac (b:=w.heap.size) C (Nat.le_refl _) (.int .i64 1) (.int .i64 c) (.string ⟨#[]⟩) (.int .i64 j)
         obtain ⟨f,g,i,l,_⟩:=An (Aj u (.int .i64 1) (.int .i64 c) (.string ⟨#[]⟩) (.int .i64 j))
         simp only [AY] at f g i l
         refine bodyPost_ret (Ah Tryz.results11 rfl f g i l) rfl ⟨?_,r⟩
         rw [AL,Aa o,if_neg (by rintro (h | h | h);omega;rw [Aa M] at h;cases h;have:=Aa A;omega),← Aa v]
         simp only [BQ]
         rw [show j+(k - j)=k by omega];rfl
    ·have W:=Ab U
     have M:=Ab (show AO ((Ad s).drop j) (k - j)=true by rw [Aa ae];simp [GK,U])
     clear U
     go_wp2_with (first | (go_at_call 24;refine (Au _ _).mono ?_;rintro e w' ⟨rfl,d⟩;rw [Aa S,d];clear d) | (go_at_call 21;refine (Am _ _).mono ?_;rintro e w' ⟨rfl,d⟩;rw [Aa W,d];clear d))
     have r:=Ac (b:=w.heap.size) (z.setCell (p:=⟨w.heap.size+1,0,none⟩) (by show w.heap.size≤w.heap.size+1;omega) (.int .i64 1)) (Nat.le_refl _) (.int .i64 1) (.int .i64 0) (.string ⟨#[]⟩) (.int .i64 j)
     obtain ⟨f,g,i,l,_⟩:=An (Aj (y.setFar (p:=⟨w.heap.size+1,0,none⟩) (by show w.heap.size≠w.heap.size+1;omega) (.int .i64 1)) (.int .i64 1) (.int .i64 0) (.string ⟨#[]⟩) (.int .i64 j))
     simp only [AY] at f g i l
     refine bodyPost_ret (Ah Tryz.results11 rfl f g i l) rfl ⟨?_,r⟩
     rw [AL,if_pos (.inr (.inl (by rw [Aa o];exact Aa M)))]
     exact ⟨_,_,_,_,rfl⟩
   ·have aw:=Ab (BG ad V)
    have S:=Ab (show dgI (s[k].toNat:Int)=true from V)
    clear V
    go_wp2_with (go_at_call 24;refine (Au _ _).mono ?_;rintro e w' ⟨rfl,d⟩;rw [Aa S,d];clear d)
    go_round
    case rel=>exact ⟨k+1,by omega,by omega,by go_num,by rw [Aa al,Aa aw]⟩
    case measure=>simp [intOf];omega
  ·have o:=Ab (show Ap AU ((Ad s).drop j)=k - j by have:=ac (Cf (by omega));have:=Bu AU s j;omega)
   have M:=Ab (show AO ((Ad s).drop j) (k - j)=false from EI (by omega))
   have au: ¬ ((k:Int) < (s.size:Int)):=by omega
   clear ac
   by_cases L: 19 < k - j
   ·have af:(19 :Int) < (k:Int) - (j:Int):=by omega
    go_wp2_with fail
    have r:=Ac (b:=w.heap.size) (z.setCell (p:=⟨w.heap.size+1,0,none⟩) (by show w.heap.size≤w.heap.size+1;omega) (.int .i64 1)) (Nat.le_refl _) (.int .i64 1) (.int .i64 0) (.string ⟨#[]⟩) (.int .i64 j)
    obtain ⟨f,g,i,l,_⟩:=An (Aj (y.setFar (p:=⟨w.heap.size+1,0,none⟩) (by show w.heap.size≠w.heap.size+1;omega) (.int .i64 1)) (.int .i64 1) (.int .i64 0) (.string ⟨#[]⟩) (.int .i64 j))
    simp only [AY] at f g i l
    refine bodyPost_ret (Ah Tryz.results11 rfl f g i l) rfl ⟨?_,r⟩
    rw [AL,if_pos (.inl (by rw [Aa o];exact L))]
    exact ⟨_,_,_,_,rfl⟩
   have af: ¬ ((19 :Int) < (k:Int) - (j:Int)):=by omega
   have av:(s.extract j k).size=k - j:=by rw [ByteArray.size_extract];omega
   have q:=Ab (AC s j k)
   by_cases L:k - j=19
   ·have ah:(((k - j:Nat):Int)== 19)=true:=by rw [L];rfl
    cases X:Op.bytesLess (s.extract j k).toList [57,50,50,51,51,55,50,48,51,54,56,53,52,55,55,53,56,48,55]
    ·cases Y:((s.extract j k).toList== [57,50,50,51,51,55,50,48,51,54,56,53,52,55,55,53,56,48,55])
     ·have ai:=Ab (show 9223372036854775807 < Bg (((Ad s).drop j).take (k - j)) from Gd (Aa o) L (Aa q) X Y)
      go_wp2_with fail
      have r:=Ac (b:=w.heap.size) (z.setCell (p:=⟨w.heap.size+1,0,none⟩) (by show w.heap.size≤w.heap.size+1;omega) (.int .i64 1)) (Nat.le_refl _) (.int .i64 1) (.int .i64 0) (.string ⟨#[]⟩) (.int .i64 j)
      obtain ⟨f,g,i,l,_⟩:=An (Aj (y.setFar (p:=⟨w.heap.size+1,0,none⟩) (by show w.heap.size≠w.heap.size+1;omega) (.int .i64 1)) (.int .i64 1) (.int .i64 0) (.string ⟨#[]⟩) (.int .i64 j))
      simp only [AY] at f g i l
      refine bodyPost_ret (Ah Tryz.results11 rfl f g i l) rfl ⟨?_,r⟩
      rw [AL,if_pos (.inr (.inr (by rw [Aa o];exact Aa ai)))]
      exact ⟨_,_,_,_,rfl⟩
     ·have A:=Ab (show Bg (((Ad s).drop j).take (k - j))≤9223372036854775807 from Io (Aa q) Y)
      go_wp2_with fail
      generalize s.extract j k=x at *
      have t:=Ab (show (Ad x).all AU=true by rw [Aa q,← Aa o];exact Bs AU _)
      have N:=Ab (show Bg (Ad x)≤9223372036854775807 by rw [Aa q];exact Aa A)
      go_loopw [12] (fun n wr=>∃ (a:Nat) (c:Int),a≤k - j∧n= .int .i64 a∧c=Bg ((Ad x).take a)∧Ao wr w.heap.size #[.int .i64 0,.int .i64 0,.string ⟨#[]⟩,.int .i64 0] 30∧Ao wr (w.heap.size+1) #[.int .i64 1,.int .i64 c,.string ⟨#[]⟩,.int .i64 j] 30∧Below w.heap.size w wr) (fun n _=>(k - j) - (intOf n).toNat)
      case atStart=>exact ⟨0,0,Nat.zero_le _,rfl,rfl,y.setFar (p:=⟨w.heap.size+1,0,none⟩) (by show w.heap.size≠w.heap.size+1;omega) (.int .i64 1),G.set 0 (.int .i64 1),z.setCell (p:=⟨w.heap.size+1,0,none⟩) (by show w.heap.size≤w.heap.size+1;omega) (.int .i64 1)⟩
      case round=>
       obtain ⟨a,c,T,rfl,m,u,B,C⟩:=hrel
       clear H c1 c2 c3 I J d1 d2 d3 K y G z
       obtain ⟨H,c1,c2,c3,I⟩:=An B
       obtain ⟨J,d1,d2,d3,K⟩:=An u
       by_cases Z:a < k - j
       ·have D:a < x.size:=by omega
        have O:(a:Int) < ((k - j:Nat):Int):=by omega
        have E:AU x[a]=true:=List.all_eq_true.1 (Aa t) _ (C6 D)
        obtain ⟨b1,b2⟩:=(Cp _).1 E
        have F:c * 10+((x[a].toNat:Int) - 48)=Bg ((Ad x).take (a+1)):=by rw [Ad,Bv x a D,Ci,← Ad,← m]
        have P:=AF (a+1) (Ad x) (Aa t)
        have Q:=(AF a (Ad x) (Aa t)).1
        have R:=Aa N
        have aa: 0≤c:=by omega
        have ab:c * 10+((x[a].toNat:Int) - 48)≤9223372036854775807:=by omega
        have v:=Ab F
        clear F P Q R m E
        go_wp2
        go_region
        go_wp2
        go_roundw
        case rel=>exact ⟨a+1,c * 10+((x[a].toNat:Int) - 48),by omega,by go_num,Aa v,⟨(u.setFar (p:=⟨w.heap.size+1,1,none⟩) (by show w.heap.size≠w.heap.size+1;omega) (.int .i64 (c * 10+((x[a].toNat:Int) - 48)))).out⟩,⟨(B.set 1 (.int .i64 (c * 10+((x[a].toNat:Int) - 48)))).out⟩,(C.setCell (p:=⟨w.heap.size+1,1,none⟩) (by show w.heap.size≤w.heap.size+1;omega) (.int .i64 (c * 10+((x[a].toNat:Int) - 48)))).drew⟩
        case measure=>simp [intOf];omega
       ·have O: ¬ ((a:Int) < ((k - j:Nat):Int)):=by omega
        have v:=Ab (show c=Bg (((Ad s).drop j).take (k - j)) by rw [m,← Aa q,List.take_of_length_le (by rw [Ag];omega)])
        clear m
        go_wp2_with fail
        have r:=Ac (b:=w.heap.size) C (Nat.le_refl _) (.int .i64 1) (.int .i64 c) (.string ⟨#[]⟩) (.int .i64 j)
        obtain ⟨f,g,i,l,_⟩:=An (Aj u (.int .i64 1) (.int .i64 c) (.string ⟨#[]⟩) (.int .i64 j))
        simp only [AY] at f g i l
        refine bodyPost_ret (Ah Tryz.results11 rfl f g i l) rfl ⟨?_,r⟩
        rw [AL,Aa o,if_neg (by rintro (h | h | h);omega;rw [Aa M] at h;cases h;have:=Aa A;omega),← Aa v]
        simp only [BQ]
        rw [show j+(k - j)=k by omega];rfl
    ·have A:=Ab (show Bg (((Ad s).drop j).take (k - j))≤9223372036854775807 from In (Aa o) L (Aa q) X)
     go_wp2_with fail
     generalize s.extract j k=x at *
     have t:=Ab (show (Ad x).all AU=true by rw [Aa q,← Aa o];exact Bs AU _)
     have N:=Ab (show Bg (Ad x)≤9223372036854775807 by rw [Aa q];exact Aa A)
     go_loopw [12] (fun n wr=>∃ (a:Nat) (c:Int),a≤k - j∧n= .int .i64 a∧c=Bg ((Ad x).take a)∧Ao wr w.heap.size #[.int .i64 0,.int .i64 0,.string ⟨#[]⟩,.int .i64 0] 30∧Ao wr (w.heap.size+1) #[.int .i64 1,.int .i64 c,.string ⟨#[]⟩,.int .i64 j] 30∧Below w.heap.size w wr) (fun n _=>(k - j) - (intOf n).toNat)
     case atStart=>exact ⟨0,0,Nat.zero_le _,rfl,rfl,y.setFar (p:=⟨w.heap.size+1,0,none⟩) (by show w.heap.size≠w.heap.size+1;omega) (.int .i64 1),G.set 0 (.int .i64 1),z.setCell (p:=⟨w.heap.size+1,0,none⟩) (by show w.heap.size≤w.heap.size+1;omega) (.int .i64 1)⟩
     case round=>
      obtain ⟨a,c,T,rfl,m,u,B,C⟩:=hrel
      clear H c1 c2 c3 I J d1 d2 d3 K y G z
      obtain ⟨H,c1,c2,c3,I⟩:=An B
      obtain ⟨J,d1,d2,d3,K⟩:=An u
      by_cases Z:a < k - j
      ·have D:a < x.size:=by omega
       have O:(a:Int) < ((k - j:Nat):Int):=by omega
       have E:AU x[a]=true:=List.all_eq_true.1 (Aa t) _ (C6 D)
       obtain ⟨b1,b2⟩:=(Cp _).1 E
       have F:c * 10+((x[a].toNat:Int) - 48)=Bg ((Ad x).take (a+1)):=by rw [Ad,Bv x a D,Ci,← Ad,← m]
       have P:=AF (a+1) (Ad x) (Aa t)
       have Q:=(AF a (Ad x) (Aa t)).1
       have R:=Aa N
       have aa: 0≤c:=by omega
       have ab:c * 10+((x[a].toNat:Int) - 48)≤9223372036854775807:=by omega
       have v:=Ab F
       clear F P Q R m E
       go_wp2
       go_region
       go_wp2
       go_roundw
       case rel=>exact ⟨a+1,c * 10+((x[a].toNat:Int) - 48),by omega,by go_num,Aa v,⟨(u.setFar (p:=⟨w.heap.size+1,1,none⟩) (by show w.heap.size≠w.heap.size+1;omega) (.int .i64 (c * 10+((x[a].toNat:Int) - 48)))).out⟩,⟨(B.set 1 (.int .i64 (c * 10+((x[a].toNat:Int) - 48)))).out⟩,(C.setCell (p:=⟨w.heap.size+1,1,none⟩) (by show w.heap.size≤w.heap.size+1;omega) (.int .i64 (c * 10+((x[a].toNat:Int) - 48)))).drew⟩
       case measure=>simp [intOf];omega
      ·have O: ¬ ((a:Int) < ((k - j:Nat):Int)):=by omega
       have v:=Ab (show c=Bg (((Ad s).drop j).take (k - j)) by rw [m,← Aa q,List.take_of_length_le (by rw [Ag];omega)])
       clear m
       go_wp2_with fail
       have r:=Ac (b:=w.heap.size) C (Nat.le_refl _) (.int .i64 1) (.int .i64 c) (.string ⟨#[]⟩) (.int .i64 j)
       obtain ⟨f,g,i,l,_⟩:=An (Aj u (.int .i64 1) (.int .i64 c) (.string ⟨#[]⟩) (.int .i64 j))
       simp only [AY] at f g i l
       refine bodyPost_ret (Ah Tryz.results11 rfl f g i l) rfl ⟨?_,r⟩
       rw [AL,Aa o,if_neg (by rintro (h | h | h);omega;rw [Aa M] at h;cases h;have:=Aa A;omega),← Aa v]
       simp only [BQ]
       rw [show j+(k - j)=k by omega];rfl
   ·have ah:(((k - j:Nat):Int)== 19)=false:=beq_eq_false_iff_ne.2 (by omega)
    have A:=Ab (show Bg (((Ad s).drop j).take (k - j))≤9223372036854775807 from Ge (Aa o) (by omega))
    go_wp2_with fail
    generalize s.extract j k=x at *
    have t:=Ab (show (Ad x).all AU=true by rw [Aa q,← Aa o];exact Bs AU _)
    have N:=Ab (show Bg (Ad x)≤9223372036854775807 by rw [Aa q];exact Aa A)
    go_loopw [12] (fun n wr=>∃ (a:Nat) (c:Int),a≤k - j∧n= .int .i64 a∧c=Bg ((Ad x).take a)∧Ao wr w.heap.size #[.int .i64 0,.int .i64 0,.string ⟨#[]⟩,.int .i64 0] 30∧Ao wr (w.heap.size+1) #[.int .i64 1,.int .i64 c,.string ⟨#[]⟩,.int .i64 j] 30∧Below w.heap.size w wr) (fun n _=>(k - j) - (intOf n).toNat)
    case atStart=>exact ⟨0,0,Nat.zero_le _,rfl,rfl,y.setFar (p:=⟨w.heap.size+1,0,none⟩) (by show w.heap.size≠w.heap.size+1;omega) (.int .i64 1),G.set 0 (.int .i64 1),z.setCell (p:=⟨w.heap.size+1,0,none⟩) (by show w.heap.size≤w.heap.size+1;omega) (.int .i64 1)⟩
    case round=>
     obtain ⟨a,c,T,rfl,m,u,B,C⟩:=hrel
     clear H c1 c2 c3 I J d1 d2 d3 K y G z
     obtain ⟨H,c1,c2,c3,I⟩:=An B
     obtain ⟨J,d1,d2,d3,K⟩:=An u
     by_cases Z:a < k - j
     ·have D:a < x.size:=by omega
      have O:(a:Int) < ((k - j:Nat):Int):=by omega
      have E:AU x[a]=true:=List.all_eq_true.1 (Aa t) _ (C6 D)
      obtain ⟨b1,b2⟩:=(Cp _).1 E
      have F:c * 10+((x[a].toNat:Int) - 48)=Bg ((Ad x).take (a+1)):=by rw [Ad,Bv x a D,Ci,← Ad,← m]
      have P:=AF (a+1) (Ad x) (Aa t)
      have Q:=(AF a (Ad x) (Aa t)).1
      have R:=Aa N
      have aa: 0≤c:=by omega
      have ab:c * 10+((x[a].toNat:Int) - 48)≤9223372036854775807:=by omega
      have v:=Ab F
      clear F P Q R m E
      go_wp2
      go_region
      go_wp2
      go_roundw
      case rel=>exact ⟨a+1,c * 10+((x[a].toNat:Int) - 48),by omega,by go_num,Aa v,⟨(u.setFar (p:=⟨w.heap.size+1,1,none⟩) (by show w.heap.size≠w.heap.size+1;omega) (.int .i64 (c * 10+((x[a].toNat:Int) - 48)))).out⟩,⟨(B.set 1 (.int .i64 (c * 10+((x[a].toNat:Int) - 48)))).out⟩,(C.setCell (p:=⟨w.heap.size+1,1,none⟩) (by show w.heap.size≤w.heap.size+1;omega) (.int .i64 (c * 10+((x[a].toNat:Int) - 48)))).drew⟩
      case measure=>simp [intOf];omega
     ·have O: ¬ ((a:Int) < ((k - j:Nat):Int)):=by omega
      have v:=Ab (show c=Bg (((Ad s).drop j).take (k - j)) by rw [m,← Aa q,List.take_of_length_le (by rw [Ag];omega)])
      clear m
      go_wp2_with fail
      have r:=Ac (b:=w.heap.size) C (Nat.le_refl _) (.int .i64 1) (.int .i64 c) (.string ⟨#[]⟩) (.int .i64 j)
      obtain ⟨f,g,i,l,_⟩:=An (Aj u (.int .i64 1) (.int .i64 c) (.string ⟨#[]⟩) (.int .i64 j))
      simp only [AY] at f g i l
      refine bodyPost_ret (Ah Tryz.results11 rfl f g i l) rfl ⟨?_,r⟩
      rw [AL,Aa o,if_neg (by rintro (h | h | h);omega;rw [Aa M] at h;cases h;have:=Aa A;omega),← Aa v]
      simp only [BQ]
      rw [show j+(k - j)=k by omega];rfl
end Go.Proofs.YtcpdodmoheebaaaGreatDoor
