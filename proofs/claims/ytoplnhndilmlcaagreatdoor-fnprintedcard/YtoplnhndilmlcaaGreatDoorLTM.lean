/-
  Drawn policies, exactly: at a limit. Own work.
-/
import Derived.Test.YtoplnhndilmlcaaGreatDoorMXAP
import Derived.Test.YtoplnhndilmlcaaGreatDoorMXAN
import Derived.Deep.AppendLies
import Derived.Test.YtoplnhndilmlcaaGreatDoorMXAJ
import Derived.Test.YtoplnhndilmlcaaGreatDoorMXAL
namespace Go.Proofs.YtoplnhndilmlcaaGreatDoor
set_option maxRecDepth 100000
set_option maxHeartbeats 12800000
open Go.RowKit
set_option linter.unusedVariables false
def LmI (B R gb pb b0 s d:Nat) (w:World) (vi:Value) (wr:World):Prop:=
 ∃ (p:Nat) (N:List Nd) (nd:Value) (S:List St) (sv:Value),vi= .int .i64 ((S.length:Int)+1)∧FV B R gb none 0 0 [] false p N [] nd (.slice none 0 0) wr∧Uv wr B pb S sv∧Aj wr b0 #[.slice none 0 0,.slice none 0 0] 26∧S.length+1≤s∧N.length≤65 * S.length∧Hid (N.length=S.length * d)∧Hid (∀ q M T,Na d (s - 1 - S.length) p N S q M T→Na d (s - 1) 0 [] [] q M T)∧Below B w wr
def NQ (k s d:Nat):Prop:=(k≤1∧s=600+k∧d=1)∨(2≤k∧k≤3∧s=2∧d=62+k)∨(4≤k∧k≤5∧s=63∧d=64)
theorem VG {d s p b:Nat}{N a:List Nd}{S:List St}(h:NP [] [] d p N b a)(hs:S.length+1 < s){q:Nat}{M:List Nd}{T:List St}(c:Na d (s - 1 - (S ++ [(⟨2,⟨#[]⟩,Ay a,-1⟩:St)]).length) b a (S ++ [⟨2,⟨#[]⟩,Ay a,-1⟩]) q M T):Na d (s - 1 - S.length) p N S q M T:=by
 obtain ⟨j,f⟩:∃ j,s - 1 - S.length=j+1:=⟨s - 1 - S.length - 1,by omega⟩
 rw[f];refine ⟨b,a,h, ?_⟩;rw[show s - 1 - (S ++ [(⟨2,⟨#[]⟩,Ay a,-1⟩:St)]).length=j by rw[List.length_append,List.length_singleton];omega] at c;exact c
theorem Zo (k:Nat)(hk:k≤5)(w:World):
  Calls Tryz.prog 22 #[.int .i64 (k:Int)] w fun r w'=>(∃ nd aP N S al ao,r= .returned (.agg #[nd,aP])∧Hid (QN k N S)∧A6 w' w.heap.size nd N al ao∧w'.ownsRow w.heap.size 51 4 aP S.length (AR S)∧(∀ x∈N,Sl x)∧(∀ s∈S,s.name.size≤1048576)∧N.length≤100000∧S.length≤700)∧Below w.heap.size w w':=by
 obtain ⟨B,bX⟩:∃ B,B=w.heap.size:=⟨_,rfl⟩
 obtain ⟨s,hs⟩:∃ s,s=Aa4 k:=⟨_,rfl⟩
 obtain ⟨d,I⟩:∃ d,d=Aa5 k:=⟨_,rfl⟩
 have bd:=Ab hs;have bf:=Ab I;have i:Hid (NQ k s d):=Ab (by
  unfold NQ Aa4 Aa5 at *;split at hs
  ·rename_i c;rw[if_pos c] at I;exact .inl ⟨c,hs,I⟩
  ·rename_i c;rw[if_neg c] at I;split at hs
   ·rename_i c2;rw[if_pos c2] at I;exact .inr (.inl ⟨by omega,c2,hs,I⟩)
   ·rename_i c2;rw[if_neg c2] at I;exact .inr (.inr ⟨by omega,hk,hs,I⟩))
 clear hs I;have aQ:=(Below.refl w.heap.size w).alloc NLN (.cells #[.slice none 0 0,.slice none 0 0] 26);have aR:=aQ.alloc aQ.size (.cells #[.slice none 0 0,.int .i64 0] 63);have aS:=aR.alloc aR.size (.cells #[.pointer (some ⟨w.heap.size+1,0,none⟩),.slice none 0 0,.slice none 0 0,.bool false] 113);have aI:=aS.alloc aS.size (.cells #[.slice none 0 0,.slice none 0 0] 26);have aT:=(((Aj.new w #[.slice none 0 0,.slice none 0 0] 26).alloc (.cells #[.slice none 0 0,.int .i64 0] 63)).alloc (.cells #[.pointer (some ⟨w.heap.size+1,0,none⟩),.slice none 0 0,.slice none 0 0,.bool false] 113)).alloc (.cells #[.slice none 0 0,.slice none 0 0] 26);have aJ:=((Aj.new (w.alloc (.cells #[.slice none 0 0,.slice none 0 0] 26)) #[.slice none 0 0,.int .i64 0] 63).alloc (.cells #[.pointer (some ⟨w.heap.size+1,0,none⟩),.slice none 0 0,.slice none 0 0,.bool false] 113)).alloc (.cells #[.slice none 0 0,.slice none 0 0] 26);have aK:=(Aj.new ((w.alloc (.cells #[.slice none 0 0,.slice none 0 0] 26)).alloc (.cells #[.slice none 0 0,.int .i64 0] 63)) #[.pointer (some ⟨w.heap.size+1,0,none⟩),.slice none 0 0,.slice none 0 0,.bool false] 113).alloc (.cells #[.slice none 0 0,.slice none 0 0] 26);have aL:=Aj.new (((w.alloc (.cells #[.slice none 0 0,.slice none 0 0] 26)).alloc (.cells #[.slice none 0 0,.int .i64 0] 63)).alloc (.cells #[.pointer (some ⟨w.heap.size+1,0,none⟩),.slice none 0 0,.slice none 0 0,.bool false] 113)) #[.slice none 0 0,.slice none 0 0] 26;simp only[World.size_alloc] at aJ aK aL;have bu:=Ab aI;have bv:k=0∨k=1∨k=2∨k=3∨4≤k:=by omega
 rcases bv with e | e | e | e | e
 all_goals
  first | have bg:((k:Int)== 0)=true:=beq_iff_eq.2 (by omega) | have bg:((k:Int)== 0)=false:=beq_eq_false_iff_ne.2 (by omega)
  first | have bh:((k:Int)== 1)=true:=beq_iff_eq.2 (by omega) | have bh:((k:Int)== 1)=false:=beq_eq_false_iff_ne.2 (by omega)
  first | have q2:((k:Int)== 2)=true:=beq_iff_eq.2 (by omega) | have q2:((k:Int)== 2)=false:=beq_eq_false_iff_ne.2 (by omega)
  first | have q3:((k:Int)== 3)=true:=beq_iff_eq.2 (by omega) | have q3:((k:Int)== 3)=false:=beq_eq_false_iff_ne.2 (by omega)
  have l:=Ab e;clear e;go_enter Tryz.func22,Tryz.ntmps22
  go_wp2_with fail
  generalize (((w.alloc (.cells #[.slice none 0 0,.slice none 0 0] 26)).alloc (.cells #[.slice none 0 0,.int .i64 0] 63)).alloc (.cells #[.pointer (some ⟨w.heap.size+1,0,none⟩),.slice none 0 0,.slice none 0 0,.bool false] 113)).alloc (.cells #[.slice none 0 0,.slice none 0 0] 26)=bw at aI aT aJ aK aL ⊢;clear aQ aR aS bu bg bh q2 q3;have bi:=Ab (show LmI w.heap.size (w.heap.size+1) (w.heap.size+1+1) (w.heap.size+1+1+1) w.heap.size s d w (.int .i64 1) bw from ⟨0, [],_, [],_,rfl,⟨[], [],⟨aK,⟨aJ,rfl,NLN,by omega,fun j Q=>absurd Q (by omega)⟩,A6.nil _ _,World.ownsRow_nil _ _ _ _,⟨⟨by omega,by omega⟩,fun h=>absurd h (by omega)⟩,(fun x hx=>by cases hx),(fun x hx=>by cases hx)⟩⟩,⟨aL,World.ownsRow_nil _ _ _ _,fun s hs=>by cases hs⟩,aT,by have:=Aa i;unfold NQ at this;simp;omega,by simp,Ab (by simp),Ab (fun q M T h=>h),aI⟩);clear aT aJ aK aL aI;go_loopw [7] (fun aU wr=>LmI w.heap.size (w.heap.size+1) (w.heap.size+1+1) (w.heap.size+1+1+1) w.heap.size s d w aU wr) (fun aU _=>s - (intOf aU).toNat)
  case atStart=>exact Aa bi
  case round=>
   clear bi;obtain ⟨p,N,nd,S,aP,rfl,J,o,ai,bY,bZ,bj,aV,R⟩:=hrel;obtain ⟨aj,cs,bx,-⟩:=Af o.st;have aW:=o.row.cell 1;subst bx;by_cases Q:S.length+1 < s
   ·first
    | have bz:(S.length:Int)+1 < 600+(k:Int):=by have h1:=Aa i;have h2:=Aa l;unfold NQ at h1;omega
    | skip
    first
    | have bA:(S.length:Int)+1 < 2:=by have h1:=Aa i;have h2:=Aa l;unfold NQ at h1;omega
    | skip
    first
    | have bB:(S.length:Int)+1 < 63:=by have h1:=Aa i;have h2:=Aa l;unfold NQ at h1;omega
    | skip
    go_wp2_with fail
    have L:=J.below (Cb wr);have ap:=o.below (Cb wr);have aq:=ai.after (Cb wr) NLN;have ar:=R.trans ((Cb wr).mono R.size);have bk:wr.drew.cell? ⟨w.heap.size+1+1+1,1,none⟩=some (.slice aj S.length cs):=aW;have t:=Ab ((LO L (by omega) (by simp) d (by have h1:=Aa i;have h2:=Aa l;unfold NQ at h1;omega) (by have h1:=Aa i;have h2:=Aa l;unfold NQ at h1;omega)).mono (R':=fun e w'=>∃ v,e= .returned v∧∃ q4 b z,v= .int .i64 (Ay b)∧Hid (NP [] [] d p N q4 b)∧b.length≤N.length+70∧FV w.heap.size (w.heap.size+1) (w.heap.size+1+1) none 0 0 [] false q4 b [] z (.slice none 0 0) w'∧Gk w.heap.size (w.heap.size+1) (w.heap.size+1+1) (.slice none 0 0) nd wr.drew z w') (fun r w' ⟨q,aX,aY,e,X,a1,a2,G,K⟩=>⟨_,e,q,aX,aY,rfl,X,a2,G,K⟩))
    first
    | (have U:(d:Int)=1:=(by have h1:=Aa i;have h2:=Aa l;unfold NQ at h1;omega);rw[U] at t;have bC:=t;clear t)
    | (have U:(d:Int)=64+(k:Int) - 2:=(by have h1:=Aa i;have h2:=Aa l;unfold NQ at h1;omega);rw[U] at t;have bD:=t;clear t)
    | (have U:(d:Int)=64:=(by have h1:=Aa i;have h2:=Aa l;unfold NQ at h1;omega);rw[U] at t;have bE:=t;clear t)
    obtain ⟨V,W,Y,Z,aa⟩:=info_parts BA;have au:(Tryz.f48.name== "runtime.NumGoroutine")=false:=by kernel_rfl
    have av: Tryz.f48.body.isNone=false:=by kernel_rfl
    go_region_law (first
     | ((first | refine D0 rfl 48 _ Tryz.func48 au av _ _ _ rfl (.pointer (some ⟨w.heap.size+1+1,0,none⟩)) (.int .i64 1) rfl rfl _ (Aa bC) ?_ | refine D0 rfl 48 _ Tryz.func48 au av _ _ _ rfl (.pointer (some ⟨w.heap.size+1+1,0,none⟩)) (.int .i64 (64+(k:Int) - 2)) rfl rfl _ (Aa bD) ?_ | refine D0 rfl 48 _ Tryz.func48 au av _ _ _ rfl (.pointer (some ⟨w.heap.size+1+1,0,none⟩)) (.int .i64 64) rfl rfl _ (Aa bE) ?_);rintro bF aw ⟨q4,b,z,rfl,ax,a2,ab,O⟩;have a:=ap.gk O L;have ay:=O.row L aq (by decide) (by decide) (by decide) (by decide);have az:=ar.trans O.low;have aA:=World.ownsRow.alloc a.st (.cells #[.int .i64 2,.string ⟨#[]⟩,.int .i64 (Ay b),.int .i64 (-1)] 51);have A:=World.news_of_block (heap_alloc_new aw (.cells #[.int .i64 2,.string ⟨#[]⟩,.int .i64 (Ay b),.int .i64 (-1)] 51));have bl:=ab.lt.1.1;have aB:=a.row.cell 1;have aC:=(a.row.alloc (.cells #[.int .i64 2,.string ⟨#[]⟩,.int .i64 (Ay b),.int .i64 (-1)] 51)).cell 1)
     | (refine step_append_lies _ rfl _ _ 24 rfl w.heap.size 51 V (.agg #[.int .i64 0,.string ByteArray.empty,.int .i64 0,.int .i64 0]) 4 40 Tryz.underlying24 W Y Z aa rfl (by decide) (.slice aj S.length cs) S.length (AR S) rfl aA ⟨aw.heap.size,0,none⟩ 1 1 [.int .i64 2,.string ⟨#[]⟩,.int .i64 (Ay b),.int .i64 (-1)] rfl rfl A (by intro u hu;simp at hu;rcases hu with rfl | rfl | rfl | rfl <;> rfl) (by decide) (by unfold maxLen;omega) (by omega) (by simp;omega) _ rfl ?_;intro aD aE aF C g ac ad;have m:Aj aF (w.heap.size+1+1+1) _ _:=⟨(Ao g _ a.row.lt (Ad a.row a.st (by decide))).trans a.row.out⟩;have aM:=m.cell 1;have f1:=m.frozen 1))
    all_goals
     obtain ⟨E,f,n,y⟩:=Pl ab a ay az (by omega) (by omega) (.cells #[.int .i64 2,.string ⟨#[]⟩,.int .i64 (Ay b),.int .i64 (-1)] 51) (nm:=⟨#[]⟩) (by decide) g C;have bG:=Ab (show LmI w.heap.size (w.heap.size+1) (w.heap.size+1+1) (w.heap.size+1+1+1) w.heap.size s d w (.int .i64 ((S.length:Int)+1+1)) (aF.setCell ⟨w.heap.size+1+1+1,1,none⟩ (.slice (some ⟨aD,0,none⟩) (S.length+1) aE)) from ⟨q4,b,z,S ++ [⟨2,⟨#[]⟩,Ay b,-1⟩],_,by simp,E,f,n,by simp;omega,by have h5:=(Aa ax).len;have h6:=Aa i;unfold NQ at h6;simp;omega,Ab (by rw[(Aa ax).len,Aa bj,List.length_append,List.length_singleton,Nat.succ_mul]),Ab (fun q M T h=>Aa aV q M T (VG (Aa ax) Q h)),y⟩);have bH:=Ab Q;clear E f n y ab O a ay az aA A C g ac ad m aB aC L ap aq ar J o ai R Q;go_wp2_with fail
     go_roundw
     case rel=>exact Aa bG
     case measure=>have:=Aa bH;simp[intOf];omega
   ·have bm:=Ab Q
    first
    | have bz: ¬ ((S.length:Int)+1 < 600+(k:Int)):=by have h1:=Aa i;have h2:=Aa l;unfold NQ at h1;omega
    | skip
    first
    | have bA: ¬ ((S.length:Int)+1 < 2):=by have h1:=Aa i;have h2:=Aa l;unfold NQ at h1;omega
    | skip
    first
    | have bB: ¬ ((S.length:Int)+1 < 63):=by have h1:=Aa i;have h2:=Aa l;unfold NQ at h1;omega
    | skip
    have b0:S.length≤650:=by have h1:=Aa i;have h2:=Aa l;unfold NQ at h1;omega
    by_cases h3: 3 < k
    ·try (exfalso;have h2:=Aa l;omega)
     all_goals
      have bn:Hid (N.length=3968):=Ab (by rw[Aa bj,show S.length=62 from by have h1:=Aa i;have h2:=Aa l;unfold NQ at h1;omega,show d=64 from by have h1:=Aa i;have h2:=Aa l;unfold NQ at h1;omega]);have b1:N.length≤5000:=by have:=Aa bn;omega
      have bI:(3 :Int) < (k:Int):=by omega
      have aZ:=Ab h3;clear h3 Q;obtain ⟨a0,a3,bo,bp,ak,a4,bJ,bq,-⟩:=J.cells;have bK:wr.cell? ⟨w.heap.size+1+1,1,none⟩=some (.slice a0 N.length a3):=by rw[← ak];exact bq
      clear ak a4 bJ bq;go_wp2_with fail
      have L:=J.below (Cb wr);have ap:=o.below (Cb wr);have aq:=ai.after (Cb wr) NLN;have ar:=R.trans ((Cb wr).mono R.size);have bk:wr.drew.cell? ⟨w.heap.size+1+1+1,1,none⟩=some (.slice aj S.length cs):=aW;have t:=Ab ((LO L (by omega) (by simp) (28+k) (by have h1:=Aa i;have h2:=Aa l;unfold NQ at h1;omega) (by have h1:=Aa i;have h2:=Aa l;unfold NQ at h1;omega)).mono (R':=fun e w'=>∃ v,e= .returned v∧∃ q4 b z,v= .int .i64 (Ay b)∧Hid (NP [] [] (28+k) p N q4 b)∧b.length≤N.length+70∧FV w.heap.size (w.heap.size+1) (w.heap.size+1+1) none 0 0 [] false q4 b [] z (.slice none 0 0) w'∧Gk w.heap.size (w.heap.size+1) (w.heap.size+1+1) (.slice none 0 0) nd wr.drew z w') (fun r w' ⟨q,aX,aY,e,X,a1,a2,G,K⟩=>⟨_,e,q,aX,aY,rfl,X,a2,G,K⟩));have U:((28+k:Nat):Int)=4000 - (N.length:Int)+(k:Int) - 4:=by have:=Aa bn;omega
      rw[U] at t;clear U;obtain ⟨V,W,Y,Z,aa⟩:=info_parts BA;have au:(Tryz.f48.name== "runtime.NumGoroutine")=false:=by kernel_rfl
      have av: Tryz.f48.body.isNone=false:=by kernel_rfl
      go_region_law (first
       | ((first | refine D0 rfl 48 _ Tryz.func48 au av _ _ _ rfl (.pointer (some ⟨w.heap.size+1+1,0,none⟩)) (.int .i64 (4000 - (N.length:Int)+(k:Int) - 4)) rfl rfl _ (Aa t) ?_);rintro bF aw ⟨q4,b,z,rfl,ax,a2,ab,O⟩;have a:=ap.gk O L;have ay:=O.row L aq (by decide) (by decide) (by decide) (by decide);have az:=ar.trans O.low;have aA:=World.ownsRow.alloc a.st (.cells #[.int .i64 2,.string ⟨#[]⟩,.int .i64 (Ay b),.int .i64 (-1)] 51);have A:=World.news_of_block (heap_alloc_new aw (.cells #[.int .i64 2,.string ⟨#[]⟩,.int .i64 (Ay b),.int .i64 (-1)] 51));have bl:=ab.lt.1.1;have aB:=a.row.cell 1;have aC:=(a.row.alloc (.cells #[.int .i64 2,.string ⟨#[]⟩,.int .i64 (Ay b),.int .i64 (-1)] 51)).cell 1)
       | (refine step_append_lies _ rfl _ _ 24 rfl w.heap.size 51 V (.agg #[.int .i64 0,.string ByteArray.empty,.int .i64 0,.int .i64 0]) 4 40 Tryz.underlying24 W Y Z aa rfl (by decide) (.slice aj S.length cs) S.length (AR S) rfl aA ⟨aw.heap.size,0,none⟩ 1 1 [.int .i64 2,.string ⟨#[]⟩,.int .i64 (Ay b),.int .i64 (-1)] rfl rfl A (by intro u hu;simp at hu;rcases hu with rfl | rfl | rfl | rfl <;> rfl) (by decide) (by unfold maxLen;omega) (by omega) (by simp;omega) _ rfl ?_;intro aD aE aF C g ac ad;have m:Aj aF (w.heap.size+1+1+1) _ _:=⟨(Ao g _ a.row.lt (Ad a.row a.st (by decide))).trans a.row.out⟩;have aM:=m.cell 1;have f1:=m.frozen 1))
      all_goals
       obtain ⟨E,f,n,y⟩:=Pl ab a ay az (by omega) (by omega) (.cells #[.int .i64 2,.string ⟨#[]⟩,.int .i64 (Ay b),.int .i64 (-1)] 51) (nm:=⟨#[]⟩) (by decide) g C;have bL:=ax;obtain ⟨F,aN⟩:∃ F:List St,F=S ++ [⟨2,⟨#[]⟩,Ay b,-1⟩]:=⟨_,rfl⟩
       have br:S.length+1=F.length:=by rw[aN];simp
       rw[← aN] at f;rw[br] at E f n y ⊢;have bM:=Ab aN;have b2:F.length≤660:=by omega
       have b3:b.length≤6000:=by omega
       clear ab O a ay az aA A C g ac ad m aB aC t L ap aq ar J o ai R aM f1 aN br bK aW bk bl V W Y Z aa;generalize aF.setCell ⟨w.heap.size+1+1+1,1,none⟩ (.slice (some ⟨aD,0,none⟩) F.length aE)=a5 at E f n y ⊢;have aO:=E;have PA:=f;have bs:=n;have bt:=y;clear E f n y;obtain ⟨a0,a3,bo,bp,ak,a4,-⟩:=aO.cells;have bN:=PA.row.cell 1;have bO:=PA.row.frozen 1;have aG:=World.ownsRow.alloc PA.st (.cells #[.int .i64 3,.string ⟨#[]⟩,.int .i64 (-1),.int .i64 (-1)] 51);have A:=World.news_of_block (heap_alloc_new a5 (.cells #[.int .i64 3,.string ⟨#[]⟩,.int .i64 (-1),.int .i64 (-1)] 51));have bP:=aO.lt.1.1;obtain ⟨V,W,Y,Z,aa⟩:=info_parts BA;have a:=PA.row;go_wp2_with (at_builtin;refine wpList_append_lies _ rfl _ _ 24 rfl w.heap.size 51 V (.agg #[.int .i64 0,.string ByteArray.empty,.int .i64 0,.int .i64 0]) 4 40 Tryz.underlying24 W Y Z aa rfl (by decide) (.slice (some ⟨aD,0,none⟩) F.length aE) F.length (AR F) rfl aG.drew ⟨a5.heap.size,0,none⟩ 1 1 [.int .i64 3,.string ⟨#[]⟩,.int .i64 (-1),.int .i64 (-1)] rfl rfl A (by intro u hu;simp at hu;rcases hu with rfl | rfl | rfl | rfl <;> rfl) (by decide) (by unfold maxLen;omega) (by omega) (by simp;omega) _ rfl ?_)
       intro a6 a7 ae C g ac ad;have af:(a5.alloc (.cells #[.int .i64 3,.string ⟨#[]⟩,.int .i64 (-1),.int .i64 (-1)] 51)).grownBy ae (Value.slice (some ⟨aD,0,none⟩) F.length aE).ownBlock:=⟨g.os,g.tape,g.output,g.size,g.block⟩
       have m:Aj ae (w.heap.size+1+1+1) _ _:=⟨(Ao af _ a.lt (Ad a PA.st (by decide))).trans a.out⟩
       have aM:=m.cell 1;have f1:=m.frozen 1;obtain ⟨E,f,n,y⟩:=Pl aO PA bs bt (by omega) (by omega) (.cells #[.int .i64 3,.string ⟨#[]⟩,.int .i64 (-1),.int .i64 (-1)] 51) (nm:=⟨#[]⟩) (by decide) af C;clear m a C g ac ad af aG A aO PA bs bt;obtain ⟨al,ao,P⟩:=E;have a8:=Ab (show QN k b (F ++ [⟨3,⟨#[]⟩,-1,-1⟩]) from ⟨p,N,S,by rw[← Aa bf,← Aa bd];exact Aa aV _ _ _ (by rw[show s - 1 - S.length=0 by have:=Aa bm;omega];exact ⟨rfl,rfl,rfl⟩),by rw[if_pos (Aa aZ)];exact ⟨q4,Aa bL,by rw[Aa bM]⟩⟩);have g1:(ae.setCell ⟨w.heap.size+1+1+1,1,none⟩ (.slice (some ⟨a6,0,none⟩) (F.length+1) a7)).cell? ⟨w.heap.size+1+1,1,none⟩=some z:=P.row.cell 1;have ag:=f.row.set 0 z;have bQ:=f.row.cell 0;have aB:=f.row.cell 1;have bR:=f.row.frozen 0;have H:=n.setFar (p:=⟨w.heap.size+1+1+1,0,none⟩) (by simp;omega) z;have aC:=ag.cell 0;have bS:=ag.cell 1;have bT:=H.cell 0;have bU:=H.cell 1;have bV:=H.frozen 0;have bW:=H.frozen 1;have a9:=Ab (Pk P f n y (by omega) (by omega));have ah:=Ab (And.intro P.good.1 (And.intro f.good (show b.length≤100000 by omega)));clear P f n y ag H;subst ak;go_wp2_with fail
       obtain ⟨ba,bb,aH,bc⟩:=Aa a9;exact bodyPost_ret (Fv Tryz.results22 rfl ba) rfl ⟨⟨_,_,b,_,al,ao,rfl,a8,bb,by rw[List.length_append] at aH ⊢;exact aH,(Aa ah).1,(Aa ah).2.1,(Aa ah).2.2,by simp;omega⟩,bc⟩
    ·have bI: ¬ ((3 :Int) < (k:Int)):=by omega
     have aZ:=Ab h3;clear h3 Q;obtain ⟨a0,a3,bo,bp,ak,a4,-⟩:=J.cells;have bN:=o.row.cell 1;have bO:=o.row.frozen 1;have aG:=World.ownsRow.alloc o.st (.cells #[.int .i64 3,.string ⟨#[]⟩,.int .i64 (-1),.int .i64 (-1)] 51);have A:=World.news_of_block (heap_alloc_new wr (.cells #[.int .i64 3,.string ⟨#[]⟩,.int .i64 (-1),.int .i64 (-1)] 51));have bP:=J.lt.1.1;obtain ⟨V,W,Y,Z,aa⟩:=info_parts BA;have a:=o.row;go_wp2_with (at_builtin;refine wpList_append_lies _ rfl _ _ 24 rfl w.heap.size 51 V (.agg #[.int .i64 0,.string ByteArray.empty,.int .i64 0,.int .i64 0]) 4 40 Tryz.underlying24 W Y Z aa rfl (by decide) (.slice aj S.length cs) S.length (AR S) rfl aG.drew ⟨wr.heap.size,0,none⟩ 1 1 [.int .i64 3,.string ⟨#[]⟩,.int .i64 (-1),.int .i64 (-1)] rfl rfl A (by intro u hu;simp at hu;rcases hu with rfl | rfl | rfl | rfl <;> rfl) (by decide) (by unfold maxLen;omega) (by omega) (by simp;omega) _ rfl ?_)
     intro a6 a7 ae C g ac ad;have af:(wr.alloc (.cells #[.int .i64 3,.string ⟨#[]⟩,.int .i64 (-1),.int .i64 (-1)] 51)).grownBy ae (Value.slice aj S.length cs).ownBlock:=⟨g.os,g.tape,g.output,g.size,g.block⟩
     have m:Aj ae (w.heap.size+1+1+1) _ _:=⟨(Ao af _ a.lt (Ad a o.st (by decide))).trans a.out⟩
     have aM:=m.cell 1;have f1:=m.frozen 1;obtain ⟨E,f,n,y⟩:=Pl J o ai R (by omega) (by omega) (.cells #[.int .i64 3,.string ⟨#[]⟩,.int .i64 (-1),.int .i64 (-1)] 51) (nm:=⟨#[]⟩) (by decide) af C;clear m a C g ac ad af aG A J o ai R;obtain ⟨al,ao,P⟩:=E;have a8:=Ab (show QN k N (S ++ [⟨3,⟨#[]⟩,-1,-1⟩]) from ⟨p,N,S,by rw[← Aa bf,← Aa bd];exact Aa aV _ _ _ (by rw[show s - 1 - S.length=0 by have:=Aa bm;omega];exact ⟨rfl,rfl,rfl⟩),by rw[if_neg (Aa aZ)];exact ⟨rfl,rfl⟩⟩);have g1:(ae.setCell ⟨w.heap.size+1+1+1,1,none⟩ (.slice (some ⟨a6,0,none⟩) (S.length+1) a7)).cell? ⟨w.heap.size+1+1,1,none⟩=some nd:=P.row.cell 1;have ag:=f.row.set 0 nd;have bQ:=f.row.cell 0;have aB:=f.row.cell 1;have bR:=f.row.frozen 0;have H:=n.setFar (p:=⟨w.heap.size+1+1+1,0,none⟩) (by simp;omega) nd;have aC:=ag.cell 0;have bS:=ag.cell 1;have bT:=H.cell 0;have bU:=H.cell 1;have bV:=H.frozen 0;have bW:=H.frozen 1;have a9:=Ab (Pk P f n y (by omega) (by omega));have ah:=Ab (And.intro P.good.1 (And.intro f.good (show N.length≤100000 by omega)));clear P f n y ag H;subst ak;go_wp2_with fail
     obtain ⟨ba,bb,aH,bc⟩:=Aa a9;exact bodyPost_ret (Fv Tryz.results22 rfl ba) rfl ⟨⟨_,_,N,_,al,ao,rfl,a8,bb,by rw[List.length_append] at aH ⊢;exact aH,(Aa ah).1,(Aa ah).2.1,(Aa ah).2.2,by simp;omega⟩,bc⟩
end Go.Proofs.YtoplnhndilmlcaaGreatDoor
