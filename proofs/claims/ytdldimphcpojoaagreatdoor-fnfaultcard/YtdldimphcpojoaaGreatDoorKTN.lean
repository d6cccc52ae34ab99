/-
  Drawn texts: a text's tokens written anew. Own work.
-/
import Derived.Test.YtdldimphcpojoaaGreatDoorMXAW
namespace Go.Proofs.YtdldimphcpojoaaGreatDoor
set_option maxRecDepth 100000
set_option maxHeartbeats 6400000
open Go.RowKit
set_option linter.unusedVariables false
set_option linter.unusedSimpArgs false
theorem Np (y:Int): ¬ (((⟨#[35]⟩:ByteArray) ++Hu y ++⟨#[10]⟩).toList= []):=fun e=>by
 have h:=Ft (s:=(⟨#[35]⟩:ByteArray) ++Hu y ++⟨#[10]⟩) (by
  rw[Ao,Ao];have h1:(⟨#[35]⟩:ByteArray).size=1:=rfl;omega)
 rw[e] at h;cases h
theorem Fu (R:Nat)(a:Option Addr)(n c:Nat)(w:World)(h:Cr w R a n c)(s:ByteArray):
  Calls Tryz.prog 21 #[.pointer (some ⟨R,0,none⟩),.string s] w fun e w'=>∃ t:ByteArray,e= .returned (.string t)∧t.size≤20000000∧Ai R (R+1) w w':=by
 have aD:=Ab (fun ai=>Gt s ai);have av:=Ab (Q7 s);generalize Ar s=aj at aD av;go_enter Tryz.func21,Tryz.ntmps21
 go_wp2_with fail
 refine (Aa aD _).mono ?_;rintro e aw ⟨x,bx,rfl,aE,a7,aF⟩;have a8:=Ab h.lt;have aG:=(Cr.after h aF h.lt)
 have aH:Ai R (R+1) w aw:=Ai.of_below aF NLN;have aI:=Ab a7;clear h aD a7;dsimp only;generalize aj.toks=T at aE aI av ⊢;have ak:=(Below.refl aw.heap.size aw).alloc NLN (.cells #[.int .i64 aj.code,.int .i64 (aj.at_:Int)] 30);have a9:=aG.after ak aG.lt;have ba:=aH.then_below ak aH.size;have X:=E7 aE ak;go_wp2_with fail
 generalize aw.alloc (.cells #[.int .i64 aj.code,.int .i64 (aj.at_:Int)] 30)=bb at ak a9 ba X ⊢;clear aG aH aE aF ak;go_loopw [7,20] (fun v i wr=>∃ (k:Nat) (acc:ByteArray),k≤T.length∧v= .string acc∧i= .int .i64 k∧acc.size≤4100 * k∧Cr wr R a n c∧Ai R (R+1) bb wr) (fun _ i _=>T.length - (intOf i).toNat)
 case atStart=>exact ⟨0,⟨#[]⟩,Nat.zero_le _,rfl,rfl,by simp[ByteArray.size],a9,Ai.refl _ _ _⟩
 case round=>
  obtain ⟨k,acc,hk,rfl,rfl,bz,al,ao⟩:=hrel;by_cases ap:k < T.length
  ·have bl:(k:Int) < (T.length:Int):=by omega
   have own:=FO.of (Cn (w':=wr) X (fun q hq=>ao.block q.block (by subst hq;exact (X.lt _ rfl).2) (by subst hq;have:=(X.lt _ rfl).1;have:=Aa a8;omega))) (Aa aI);obtain ⟨g,bm,bA,_,bn⟩:=own.form (by omega);have aJ:∀ q:Addr,x=some q→q.block < bb.heap.size∧(q.block < R∨R+1≤q.block):=fun q hq=>by
    subst hq;have h1:=(X.lt _ rfl).1;have h2:=(X.lt _ rfl).2;have h3:=Aa a8;exact ⟨h2,by omega⟩
   subst bm;obtain ⟨bc,c1,c2,c3⟩:=own.cells k ap;obtain ⟨bB,bd,bf⟩:=Aa av;obtain ⟨ax,bo,aK,bg⟩:=bf T[k] (List.getElem_mem ap);have bp:=bd (fun e=>by rw[e] at ap;simp at ap);have aL:=Ab (fun (ai:World)=>TS s T[k].at_ ax _ _ _ ai bp (by omega) bg);clear bf bg bd;generalize T[k]=tk at bc c1 c2 c3 aL aK;have aq:=(Below.refl wr.heap.size wr).alloc NLN (.cells #[.int .i64 tk.kind,.int .i64 tk.num,.string tk.text,.int .i64 (tk.at_:Int)] 41);have ay:=An.new wr #[.int .i64 tk.kind,.int .i64 tk.num,.string tk.text,.int .i64 (tk.at_:Int)] 41;have aM:=al.after aq al.lt;have aN:=ao.then_below aq ao.size;have b:=Ab ap;go_wp2_with fail
   generalize wr.alloc (.cells #[.int .i64 tk.kind,.int .i64 tk.num,.string tk.text,.int .i64 (tk.at_:Int)] 41)=aO at aq ay aM aN ⊢;refine (BA R a n c aO aM).mono ?_;rintro e Y ⟨F,rfl,bC,bD,aP,az⟩;have bh:wr.heap.size≤aO.heap.size:=aq.size;have bi:aO.heap.size≤Y.heap.size:=az.size;have aQ:An Y wr.heap.size _ _:=⟨(az.block _ ay.lt (.inr (by have:=al.lt;omega))).trans ay.out⟩
   have aR:=aN.trans az;have aS:=aQ.after ((Below.refl Y.heap.size Y).drew) NLN;have d3:Y.drew.cell? ⟨wr.heap.size,3,none⟩=some (.int .i64 (tk.at_:Int)):=aS.cell 3;have aT:=Ab (fun ai=>Pa s tk.at_ (tk.at_+ax) ai (by omega) aK);have bq:(s.extract tk.at_ (tk.at_+ax)).size≤4000:=by rw[ByteArray.size_extract];omega
   generalize s.extract tk.at_ (tk.at_+ax)=aA at aT bq;clear ay aM aN az bo aK aq;dsimp only;go_wp2_with fail
   go_region_held3 (fun w'=>w'.cell? ⟨wr.heap.size,3,none⟩=some (.int .i64 (tk.at_:Int))) (first | assumption | go_keep)
    (first | (go_at_call 47;refine (Aa aL _).mono ?_;rintro e H ⟨rfl,aU⟩;have d4:=(aU.cell (p:=⟨wr.heap.size,3,none⟩) aS.lt).trans d3) | (go_at_call 46;refine (Aa aT _).mono ?_;rintro e A ⟨rfl,ar⟩;rw[ar];clear ar))
   have au:=((Below.refl Y.heap.size Y).drew).trans (aU.mono NLN);have U:=aQ.after au NLN;have l:=aP.after au aP.lt;have j:=aR.then_below au aR.size;have aV:=FO.of (Cn (w':=H) X (fun q hq=>j.block q.block (aJ q hq).1 (aJ q hq).2)) (Aa aI);have V:Hid (0 < k→∃ u:Af,H.cell? ⟨g,(k - 1) * 4,none⟩=some (.int .i64 u.kind)∧H.cell? ⟨g,(k - 1) * 4+2,none⟩=some (.string u.text)):=Ab (fun h0=>by
    obtain ⟨aW,_,d2,_⟩:=aV.cells (k - 1) (by omega);exact ⟨_,aW,d2⟩)
   have bE:=aV.small;have bF:R+1≤wr.heap.size:=al.lt;have m:(⟨#[]⟩:ByteArray).size=0:=rfl;have o:(⟨#[32]⟩:ByteArray).size=1:=rfl;have r:(⟨#[9,10]⟩:ByteArray).size=2:=rfl;have d:(⟨#[40,32,48,48]⟩:ByteArray).size=4:=rfl;have f:(⟨#[41]⟩:ByteArray).size=1:=rfl;have bj:=Ab (show g < H.heap.size from Nat.lt_of_lt_of_le bn (Nat.le_trans (Nat.le_trans bh bi) au.size));clear aJ;clear bh bi;clear aV own aR aQ aS d3 d4 aU aP au bc c1 c2 c3 ao al;obtain ⟨I,e1,e2,e3,z⟩:=AE U;clear z e1 e2;obtain ⟨aB,hkd⟩:∃ aB,tk.kind=aB:=⟨_,rfl⟩
   rw[hkd] at I;have br:=Ab hkd;clear hkd;by_cases bs:aB=1
   ·by_cases bG:F % 4=1
    ·by_cases bH: 20 < 4+aA.size+1
     ·have bt:(20 :Int) < 4+(aA.size:Int)+1:=by omega
      have aX:=U.after ((Below.refl H.heap.size H).drew) NLN;have d4:H.drew.cell? ⟨wr.heap.size,3,none⟩=some (.int .i64 (tk.at_:Int)):=aX.cell 3;go_wp2_with fail
      go_region_held3 (fun w'=>w'.cell? ⟨wr.heap.size,3,none⟩=some (.int .i64 (tk.at_:Int))) (first | assumption | go_keep)
       (first | (go_at_call 47;refine (Aa aL _).mono ?_;rintro e aY ⟨rfl,aZ⟩;have bu:=(aZ.cell (p:=⟨wr.heap.size,3,none⟩) aX.lt).trans d4) | (go_at_call 46;refine (Aa aT _).mono ?_;rintro e A ⟨rfl,ar⟩;rw[ar];clear ar))
      have af:=((Below.refl H.heap.size H).drew).trans (aZ.mono NLN);have a0:=U.after af NLN;have ag:=l.after af l.lt;have ah:=j.then_below af j.size;have V:Hid (0 < k→∃ u:Af,aY.cell? ⟨g,(k - 1) * 4,none⟩=some (.int .i64 u.kind)∧aY.cell? ⟨g,(k - 1) * 4+2,none⟩=some (.string u.text)):=Ab (fun h0=>by
       obtain ⟨u,aW,d2⟩:=Aa V h0;exact ⟨u,(af.cell (p:=⟨g,(k - 1) * 4,none⟩) (Aa bj)).trans aW,(af.cell (p:=⟨g,(k - 1) * 4+2,none⟩) (Aa bj)).trans d2⟩)
      clear U l j aZ af d4 bu aX I e3;obtain ⟨I,e1,e2,e3,z⟩:=AE a0;clear z e1 e2;rw[Aa br] at I;by_cases a1: 250 < F
      ·skip;go_wp2_with fail
       refine (BA R a n c aY ag).mono ?_;rintro e A ⟨y,rfl,a2,a3,J,K⟩;have L:=ah.trans K;have M:An A wr.heap.size _ _:=⟨(K.block _ a0.lt (.inr (by omega))).trans a0.out⟩
       obtain ⟨I,e1,e2,e3,z⟩:=AE M;clear z e1 e2;have a4:=L2;have a5:=Np (y % 90+32);have Z:=Dx (y % 90+32);have aa:(⟨#[35]⟩:ByteArray).size=1:=rfl;have ab:(⟨#[10]⟩:ByteArray).size=1:=rfl;have C:=(Below.refl A.heap.size A).alloc NLN (.cells #[.int .u8 (y % 90+32)] 5);have ac:=J.after C J.lt;have ad:=L.then_below C L.size;have ae:=M.after C NLN;obtain ⟨I,e1,e2,e3,z⟩:=AE ae;clear z e1 e2;dsimp only;go_wp2_with fail
       refine ⟨⟨_,_,Aa b,rfl,by go_num, ?_,ac,ad⟩, ?_⟩
       ·simp only[Ao,Z,aa,ab,d,f];omega
       ·have:=Aa b;simp[intOf];omega
      ·by_cases a6:F % 7=6
       ·skip;go_wp2_with fail
        refine ⟨⟨_,_,Aa b,rfl,by go_num, ?_,ag,ah⟩, ?_⟩
        ·simp only[Ao,o,r,m,d,f];omega
        ·have:=Aa b;simp[intOf];omega
       ·by_cases hC:F % 7=5
        ·by_cases h0:k=0
         ·subst h0;go_wp2_with fail
          refine ⟨⟨_,_,Aa b,rfl,by go_num, ?_,ag,ah⟩, ?_⟩
          ·simp only[Ao,o,r,m,d,f];omega
          ·have:=Aa b;simp[intOf];omega
         ·obtain ⟨E,rfl⟩:∃ E,k=E+1:=⟨k - 1,by omega⟩
          obtain ⟨u,N,O⟩:=Aa V (Nat.succ_pos E);rw[Nat.add_sub_cancel] at N O;obtain ⟨B,P⟩:∃ B,u.kind=B:=⟨_,rfl⟩
          rw[P] at N;obtain ⟨Q,S⟩:∃ Q,u.text=Q:=⟨_,rfl⟩
          rw[S] at O;clear P S V
          ·skip;by_cases W:B=5
           ·skip;go_wp2_with fail
            all_goals
             refine ⟨⟨_,_,Aa b,rfl,by go_num, ?_,ag,ah⟩, ?_⟩
             ·simp only[Ao,o,r,m,d,f];omega
             ·have:=Aa b;simp[intOf];omega
           ·have aC:=beq_eq_false_iff_ne.2 W;go_wp2_with fail
            refine ⟨⟨_,_,Aa b,rfl,by go_num, ?_,ag,ah⟩, ?_⟩
            ·simp only[Ao,o,r,m,d,f];omega
            ·have:=Aa b;simp[intOf];omega
        ·skip;go_wp2_with fail
         refine ⟨⟨_,_,Aa b,rfl,by go_num, ?_,ag,ah⟩, ?_⟩
         ·simp only[Ao,o,r,m,d,f];omega
         ·have:=Aa b;simp[intOf];omega
     ·have bt: ¬ ((20 :Int) < 4+(aA.size:Int)+1):=by omega
      have bI:aA.size≤15:=by omega
      by_cases a1: 250 < F
      ·skip;go_wp2_with fail
       refine (BA R a n c H l).mono ?_;rintro e A ⟨y,rfl,a2,a3,J,K⟩;have L:=j.trans K;have M:An A wr.heap.size _ _:=⟨(K.block _ U.lt (.inr (by omega))).trans U.out⟩
       obtain ⟨I,e1,e2,e3,z⟩:=AE M;clear z e1 e2;have a4:=L2;have a5:=Np (y % 90+32);have Z:=Dx (y % 90+32);have aa:(⟨#[35]⟩:ByteArray).size=1:=rfl;have ab:(⟨#[10]⟩:ByteArray).size=1:=rfl;have C:=(Below.refl A.heap.size A).alloc NLN (.cells #[.int .u8 (y % 90+32)] 5);have ac:=J.after C J.lt;have ad:=L.then_below C L.size;have ae:=M.after C NLN;obtain ⟨I,e1,e2,e3,z⟩:=AE ae;clear z e1 e2;dsimp only;go_wp2_with fail
       refine ⟨⟨_,_,Aa b,rfl,by go_num, ?_,ac,ad⟩, ?_⟩
       ·simp only[Ao,Z,aa,ab,d,f];omega
       ·have:=Aa b;simp[intOf];omega
      ·by_cases a6:F % 7=6
       ·skip;go_wp2_with fail
        refine ⟨⟨_,_,Aa b,rfl,by go_num, ?_,l,j⟩, ?_⟩
        ·simp only[Ao,o,r,m,d,f];omega
        ·have:=Aa b;simp[intOf];omega
       ·by_cases hC:F % 7=5
        ·by_cases h0:k=0
         ·subst h0;go_wp2_with fail
          refine ⟨⟨_,_,Aa b,rfl,by go_num, ?_,l,j⟩, ?_⟩
          ·simp only[Ao,o,r,m,d,f];omega
          ·have:=Aa b;simp[intOf];omega
         ·obtain ⟨E,rfl⟩:∃ E,k=E+1:=⟨k - 1,by omega⟩
          obtain ⟨u,N,O⟩:=Aa V (Nat.succ_pos E);rw[Nat.add_sub_cancel] at N O;obtain ⟨B,P⟩:∃ B,u.kind=B:=⟨_,rfl⟩
          rw[P] at N;obtain ⟨Q,S⟩:∃ Q,u.text=Q:=⟨_,rfl⟩
          rw[S] at O;clear P S V
          ·skip;by_cases W:B=5
           ·skip;go_wp2_with fail
            all_goals
             refine ⟨⟨_,_,Aa b,rfl,by go_num, ?_,l,j⟩, ?_⟩
             ·simp only[Ao,o,r,m,d,f];omega
             ·have:=Aa b;simp[intOf];omega
           ·have aC:=beq_eq_false_iff_ne.2 W;go_wp2_with fail
            refine ⟨⟨_,_,Aa b,rfl,by go_num, ?_,l,j⟩, ?_⟩
            ·simp only[Ao,o,r,m,d,f];omega
            ·have:=Aa b;simp[intOf];omega
        ·skip;go_wp2_with fail
         refine ⟨⟨_,_,Aa b,rfl,by go_num, ?_,l,j⟩, ?_⟩
         ·simp only[Ao,o,r,m,d,f];omega
         ·have:=Aa b;simp[intOf];omega
    ·skip;by_cases a1: 250 < F
     ·skip;go_wp2_with fail
      refine (BA R a n c H l).mono ?_;rintro e A ⟨y,rfl,a2,a3,J,K⟩;have L:=j.trans K;have M:An A wr.heap.size _ _:=⟨(K.block _ U.lt (.inr (by omega))).trans U.out⟩
      obtain ⟨I,e1,e2,e3,z⟩:=AE M;clear z e1 e2;have a4:=L2;have a5:=Np (y % 90+32);have Z:=Dx (y % 90+32);have aa:(⟨#[35]⟩:ByteArray).size=1:=rfl;have ab:(⟨#[10]⟩:ByteArray).size=1:=rfl;have C:=(Below.refl A.heap.size A).alloc NLN (.cells #[.int .u8 (y % 90+32)] 5);have ac:=J.after C J.lt;have ad:=L.then_below C L.size;have ae:=M.after C NLN;obtain ⟨I,e1,e2,e3,z⟩:=AE ae;clear z e1 e2;dsimp only;go_wp2_with fail
      refine ⟨⟨_,_,Aa b,rfl,by go_num, ?_,ac,ad⟩, ?_⟩
      ·simp only[Ao,Z,aa,ab,d,f];omega
      ·have:=Aa b;simp[intOf];omega
     ·by_cases a6:F % 7=6
      ·skip;go_wp2_with fail
       refine ⟨⟨_,_,Aa b,rfl,by go_num, ?_,l,j⟩, ?_⟩
       ·simp only[Ao,o,r,m,d,f];omega
       ·have:=Aa b;simp[intOf];omega
      ·by_cases hC:F % 7=5
       ·by_cases h0:k=0
        ·subst h0;go_wp2_with fail
         refine ⟨⟨_,_,Aa b,rfl,by go_num, ?_,l,j⟩, ?_⟩
         ·simp only[Ao,o,r,m,d,f];omega
         ·have:=Aa b;simp[intOf];omega
        ·obtain ⟨E,rfl⟩:∃ E,k=E+1:=⟨k - 1,by omega⟩
         obtain ⟨u,N,O⟩:=Aa V (Nat.succ_pos E);rw[Nat.add_sub_cancel] at N O;obtain ⟨B,P⟩:∃ B,u.kind=B:=⟨_,rfl⟩
         rw[P] at N;obtain ⟨Q,S⟩:∃ Q,u.text=Q:=⟨_,rfl⟩
         rw[S] at O;clear P S V
         ·skip;by_cases W:B=5
          ·skip;go_wp2_with fail
           all_goals
            refine ⟨⟨_,_,Aa b,rfl,by go_num, ?_,l,j⟩, ?_⟩
            ·simp only[Ao,o,r,m,d,f];omega
            ·have:=Aa b;simp[intOf];omega
          ·have aC:=beq_eq_false_iff_ne.2 W;go_wp2_with fail
           refine ⟨⟨_,_,Aa b,rfl,by go_num, ?_,l,j⟩, ?_⟩
           ·simp only[Ao,o,r,m,d,f];omega
           ·have:=Aa b;simp[intOf];omega
       ·skip;go_wp2_with fail
        refine ⟨⟨_,_,Aa b,rfl,by go_num, ?_,l,j⟩, ?_⟩
        ·simp only[Ao,o,r,m,d,f];omega
        ·have:=Aa b;simp[intOf];omega
   ·have bJ:=beq_eq_false_iff_ne.2 bs;by_cases a1: 250 < F
    ·skip;go_wp2_with fail
     refine (BA R a n c H l).mono ?_;rintro e A ⟨y,rfl,a2,a3,J,K⟩;have L:=j.trans K;have M:An A wr.heap.size _ _:=⟨(K.block _ U.lt (.inr (by omega))).trans U.out⟩
     obtain ⟨I,e1,e2,e3,z⟩:=AE M;clear z e1 e2;have a4:=L2;have a5:=Np (y % 90+32);have Z:=Dx (y % 90+32);have aa:(⟨#[35]⟩:ByteArray).size=1:=rfl;have ab:(⟨#[10]⟩:ByteArray).size=1:=rfl;have C:=(Below.refl A.heap.size A).alloc NLN (.cells #[.int .u8 (y % 90+32)] 5);have ac:=J.after C J.lt;have ad:=L.then_below C L.size;have ae:=M.after C NLN;obtain ⟨I,e1,e2,e3,z⟩:=AE ae;clear z e1 e2;dsimp only;go_wp2_with fail
     refine ⟨⟨_,_,Aa b,rfl,by go_num, ?_,ac,ad⟩, ?_⟩
     ·simp only[Ao,Z,aa,ab,d,f];omega
     ·have:=Aa b;simp[intOf];omega
    ·by_cases a6:F % 7=6
     ·skip;go_wp2_with fail
      refine ⟨⟨_,_,Aa b,rfl,by go_num, ?_,l,j⟩, ?_⟩
      ·simp only[Ao,o,r,m,d,f];omega
      ·have:=Aa b;simp[intOf];omega
     ·by_cases hC:F % 7=5
      ·by_cases h0:k=0
       ·subst h0;go_wp2_with fail
        refine ⟨⟨_,_,Aa b,rfl,by go_num, ?_,l,j⟩, ?_⟩
        ·simp only[Ao,o,r,m,d,f];omega
        ·have:=Aa b;simp[intOf];omega
       ·obtain ⟨E,rfl⟩:∃ E,k=E+1:=⟨k - 1,by omega⟩
        obtain ⟨u,N,O⟩:=Aa V (Nat.succ_pos E);rw[Nat.add_sub_cancel] at N O;obtain ⟨B,P⟩:∃ B,u.kind=B:=⟨_,rfl⟩
        rw[P] at N;obtain ⟨Q,S⟩:∃ Q,u.text=Q:=⟨_,rfl⟩
        rw[S] at O;clear P S V;by_cases bv:aB=5
        ·by_cases W:B=5
         ·skip;go_wp2_with fail
          refine ⟨⟨_,_,Aa b,rfl,by go_num, ?_,l,j⟩, ?_⟩
          ·simp only[Ao,o,r,m,d,f];omega
          ·have:=Aa b;simp[intOf];omega
         ·have aC:=beq_eq_false_iff_ne.2 W;go_wp2_with fail
          refine ⟨⟨_,_,Aa b,rfl,by go_num, ?_,l,j⟩, ?_⟩
          ·simp only[Ao,o,r,m,d,f];omega
          ·have:=Aa b;simp[intOf];omega
        ·have bK:=beq_eq_false_iff_ne.2 bv;by_cases W:B=5
         ·skip;go_wp2_with fail
          all_goals
           refine ⟨⟨_,_,Aa b,rfl,by go_num, ?_,l,j⟩, ?_⟩
           ·simp only[Ao,o,r,m,d,f];omega
           ·have:=Aa b;simp[intOf];omega
         ·have aC:=beq_eq_false_iff_ne.2 W;go_wp2_with fail
          refine ⟨⟨_,_,Aa b,rfl,by go_num, ?_,l,j⟩, ?_⟩
          ·simp only[Ao,o,r,m,d,f];omega
          ·have:=Aa b;simp[intOf];omega
      ·skip;go_wp2_with fail
       refine ⟨⟨_,_,Aa b,rfl,by go_num, ?_,l,j⟩, ?_⟩
       ·simp only[Ao,o,r,m,d,f];omega
       ·have:=Aa b;simp[intOf];omega
  ·have bl: ¬ ((k:Int) < (T.length:Int)):=by omega
   have bk:acc.size≤20000000:=by have:=(Aa av).1;omega
   have bw:=Ab bk;clear bk;go_wp2_with fail
   go_ret
   exact ⟨_,rfl,Aa bw,ba.trans ao⟩
end Go.Proofs.YtdldimphcpojoaaGreatDoor
