/-
  Drawn texts: a text's tokens written anew. Own work.
-/
import Derived.Test.YtcpdodmoheebaaaGreatDoorMXAN
namespace Go.Proofs.YtcpdodmoheebaaaGreatDoor
set_option maxRecDepth 100000
set_option maxHeartbeats 6400000
open Go.RowKit
set_option linter.unusedVariables false
set_option linter.unusedSimpArgs false
theorem Gv (y:Int): ¬ (((⟨#[35]⟩:ByteArray) ++Dy y ++⟨#[10]⟩).toList= []):=fun e=>by
 have h:=CA (s:=(⟨#[35]⟩:ByteArray) ++Dy y ++⟨#[10]⟩) (by
  rw [Ae,Ae]
  have h1:(⟨#[35]⟩:ByteArray).size=1:=rfl
  omega)
 rw [e] at h
 cases h
theorem CB (v:Nat)(a:Option Addr)(n c:Nat)(w:World)(h:Ba w v a n c)(s:ByteArray):
  Calls Tryz.prog 17 #[.pointer (some ⟨v,0,none⟩),.string s] w fun e w'=>∃ t:ByteArray,e= .returned (.string t)∧t.size≤20000000∧As v (v+1) w w':=by
 have aC:=Ab (fun ag=>FY s ag)
 have ar:=Ab (E9 s)
 generalize Ax s=ah at aC ar
 go_enter Tryz.func17,Tryz.ntmps17
 go_wp2_with fail
 refine (Aa aC _).mono ?_
 rintro e au ⟨x,bB,rfl,aD,a9,aE⟩
 have ba:=Ab h.lt
 have aF:=(Ba.after h aE h.lt)
 have aG:As v (v+1) w au:=As.of_below aE (Nat.le_refl _)
 have aH:=Ab a9
 clear h aC a9
 dsimp only
 generalize ah.toks=T at aD aH ar ⊢
 have ai:=(Below.refl au.heap.size au).alloc (Nat.le_refl _) (.cells #[.int .i64 ah.code,.int .i64 (ah.at_:Int)] 26)
 have bb:=aF.after ai aF.lt
 have bc:=aG.then_below ai aG.size
 have U:=Cn aD ai
 go_wp2_with fail
 generalize au.alloc (.cells #[.int .i64 ah.code,.int .i64 (ah.at_:Int)] 26)=bd at ai bb bc U ⊢
 clear aF aG aD aE ai
 go_loopw [7,20] (fun bn aI wr=>∃ (k:Nat) (av:ByteArray),k≤T.length∧bn= .string av∧aI= .int .i64 k∧av.size≤4100 * k∧Ba wr v a n c∧As v (v+1) bd wr) (fun _ aI _=>T.length - (intOf aI).toNat)
 case atStart=>exact ⟨0,⟨#[]⟩,Nat.zero_le _,rfl,rfl,by simp [ByteArray.size],bb,As.refl _ _ _⟩
 case round=>
  obtain ⟨k,av,bC,rfl,rfl,bD,aj,ak⟩:=hrel
  by_cases al:k < T.length
  ·have bo:(k:Int) < (T.length:Int):=by omega
   have own:=Cs.of (AZ (w':=wr) U (fun G V=>ak.block G.block (by subst V;exact (U.lt _ rfl).2) (by subst V;have:=(U.lt _ rfl).1;have:=Aa ba;omega))) (Aa aH)
   obtain ⟨g,bp,bE,_,bq⟩:=own.form (by omega)
   have aJ:∀ G:Addr,x=some G→G.block < bd.heap.size∧(G.block < v∨v+1≤G.block):=fun G V=>by
    subst V
    have h1:=(U.lt _ rfl).1
    have h2:=(U.lt _ rfl).2
    have h3:=Aa ba
    exact ⟨h2,by omega⟩
   subst bp
   obtain ⟨bf,c1,c2,c3⟩:=own.cells k al
   obtain ⟨bF,bg,bh⟩:=Aa ar
   obtain ⟨aw,br,aK,bi⟩:=bh T[k] (List.getElem_mem al)
   have bs:=bg (fun e=>by rw [e] at al;simp at al)
   have aL:=Ab (fun (ag:World)=>JQ s T[k].at_ aw _ _ _ ag bs (by omega) bi)
   clear bh bi bg
   generalize T[k]=j at bf c1 c2 c3 aL aK
   have ao:=(Below.refl wr.heap.size wr).alloc (Nat.le_refl _) (.cells #[.int .i64 j.kind,.int .i64 j.num,.string j.text,.int .i64 (j.at_:Int)] 30)
   have ax:=Ao.new wr #[.int .i64 j.kind,.int .i64 j.num,.string j.text,.int .i64 (j.at_:Int)] 30
   have aM:=aj.after ao aj.lt
   have aN:=ak.then_below ao ak.size
   have b:=Ab al
   go_wp2_with fail
   generalize wr.alloc (.cells #[.int .i64 j.kind,.int .i64 j.num,.string j.text,.int .i64 (j.at_:Int)] 30)=aO at ao ax aM aN ⊢
   refine (AK v a n c aO aM).mono ?_
   rintro e W ⟨D,rfl,bG,bH,aP,ay⟩
   have bj:wr.heap.size≤aO.heap.size:=ao.size
   have bk:aO.heap.size≤W.heap.size:=ay.size
   have aQ:Ao W wr.heap.size _ _:=⟨(ay.block _ ax.lt (.inr (by have:=aj.lt;omega))).trans ax.out⟩
   have aR:=aN.trans ay
   have aS:=aQ.after ((Below.refl W.heap.size W).drew) (Nat.le_refl _)
   have d3:W.drew.cell? ⟨wr.heap.size,3,none⟩=some (.int .i64 (j.at_:Int)):=aS.cell 3
   have aT:=Ab (fun ag=>GY s j.at_ (j.at_+aw) ag (by omega) aK)
   have bt:(s.extract j.at_ (j.at_+aw)).size≤4000:=by rw [ByteArray.size_extract];omega
   generalize s.extract j.at_ (j.at_+aw)=az at aT bt
   clear ax aM aN ay br aK ao
   dsimp only
   go_wp2_with fail
   go_region_held3 (fun w'=>w'.cell? ⟨wr.heap.size,3,none⟩=some (.int .i64 (j.at_:Int))) (first | assumption | go_keep)
    (first | (go_at_call 37;refine (Aa aL _).mono ?_;rintro e E ⟨rfl,aU⟩;have d4:=(aU.cell (p:=⟨wr.heap.size,3,none⟩) aS.lt).trans d3) | (go_at_call 36;refine (Aa aT _).mono ?_;rintro e z ⟨rfl,ap⟩;rw [ap];clear ap))
   have aq:=((Below.refl W.heap.size W).drew).trans (aU.mono (Nat.le_refl _))
   have Q:=aQ.after aq (Nat.le_refl _)
   have l:=aP.after aq aP.lt
   have i:=aR.then_below aq aR.size
   have aV:=Cs.of (AZ (w':=E) U (fun G V=>i.block G.block (aJ G V).1 (aJ G V).2)) (Aa aH)
   have R:Hid (0 < k→∃ u:Cq,E.cell? ⟨g,(k - 1) * 4,none⟩=some (.int .i64 u.kind)∧E.cell? ⟨g,(k - 1) * 4+2,none⟩=some (.string u.text)):=Ab (fun h0=>by
    obtain ⟨aW,_,d2,_⟩:=aV.cells (k - 1) (by omega)
    exact ⟨_,aW,d2⟩)
   have bI:=aV.small
   have bJ:v+1≤wr.heap.size:=aj.lt
   have m:(⟨#[]⟩:ByteArray).size=0:=rfl
   have o:(⟨#[32]⟩:ByteArray).size=1:=rfl
   have q:(⟨#[9,10]⟩:ByteArray).size=2:=rfl
   have d:(⟨#[40,32,48,48]⟩:ByteArray).size=4:=rfl
   have f:(⟨#[41]⟩:ByteArray).size=1:=rfl
   have bl:=Ab (show g < E.heap.size from Nat.lt_of_lt_of_le bq (Nat.le_trans (Nat.le_trans bj bk) aq.size))
   clear aJ
   clear bj bk
   clear aV own aR aQ aS d3 d4 aU aP aq bf c1 c2 c3 ak aj
   obtain ⟨F,e1,e2,e3,r⟩:=An Q
   clear r e1 e2
   obtain ⟨aA,aX⟩:∃ aA,j.kind=aA:=⟨_,rfl⟩
   rw [aX] at F
   have bu:=Ab aX
   clear aX
   by_cases bv:aA=1
   ·by_cases bK:D % 4=1
    ·by_cases bL: 20 < 4+az.size+1
     ·have bw:(20 :Int) < 4+(az.size:Int)+1:=by omega
      have aY:=Q.after ((Below.refl E.heap.size E).drew) (Nat.le_refl _)
      have d4:E.drew.cell? ⟨wr.heap.size,3,none⟩=some (.int .i64 (j.at_:Int)):=aY.cell 3
      go_wp2_with fail
      go_region_held3 (fun w'=>w'.cell? ⟨wr.heap.size,3,none⟩=some (.int .i64 (j.at_:Int))) (first | assumption | go_keep)
       (first | (go_at_call 37;refine (Aa aL _).mono ?_;rintro e aZ ⟨rfl,a0⟩;have bx:=(a0.cell (p:=⟨wr.heap.size,3,none⟩) aY.lt).trans d4) | (go_at_call 36;refine (Aa aT _).mono ?_;rintro e z ⟨rfl,ap⟩;rw [ap];clear ap))
      have ad:=((Below.refl E.heap.size E).drew).trans (a0.mono (Nat.le_refl _))
      have a1:=Q.after ad (Nat.le_refl _)
      have ae:=l.after ad l.lt
      have af:=i.then_below ad i.size
      have R:Hid (0 < k→∃ u:Cq,aZ.cell? ⟨g,(k - 1) * 4,none⟩=some (.int .i64 u.kind)∧aZ.cell? ⟨g,(k - 1) * 4+2,none⟩=some (.string u.text)):=Ab (fun h0=>by
       obtain ⟨u,aW,d2⟩:=Aa R h0
       exact ⟨u,(ad.cell (p:=⟨g,(k - 1) * 4,none⟩) (Aa bl)).trans aW,(ad.cell (p:=⟨g,(k - 1) * 4+2,none⟩) (Aa bl)).trans d2⟩)
      clear Q l i a0 ad d4 bx aY F e3
      obtain ⟨F,e1,e2,e3,r⟩:=An a1
      clear r e1 e2
      rw [Aa bu] at F
      by_cases a2: 250 < D
      ·skip
       go_wp2_with fail
       refine (AK v a n c aZ ae).mono ?_
       rintro e z ⟨y,rfl,a3,a4,H,I⟩
       have J:=af.trans I
       have K:Ao z wr.heap.size _ _:=⟨(I.block _ a1.lt (.inr (by omega))).trans a1.out⟩
       obtain ⟨F,e1,e2,e3,r⟩:=An K
       clear r e1 e2
       have a5:=FW
       have a6:=Gv (y % 90+32)
       have X:=BC (y % 90+32)
       have Y:(⟨#[35]⟩:ByteArray).size=1:=rfl
       have Z:(⟨#[10]⟩:ByteArray).size=1:=rfl
       have B:=(Below.refl z.heap.size z).alloc (Nat.le_refl _) (.cells #[.int .u8 (y % 90+32)] 5)
       have aa:=H.after B H.lt
       have ab:=J.then_below B J.size
       have ac:=K.after B (Nat.le_refl _)
       obtain ⟨F,e1,e2,e3,r⟩:=An ac
       clear r e1 e2
       dsimp only
       go_wp2_with fail
       refine ⟨⟨_,_,Aa b,rfl,by go_num,?_,aa,ab⟩,?_⟩
       ·simp only [Ae,X,Y,Z,d,f];omega
       ·have:=Aa b;simp [intOf];omega
      ·by_cases a7:D % 7=6
       ·skip
        go_wp2_with fail
        refine ⟨⟨_,_,Aa b,rfl,by go_num,?_,ae,af⟩,?_⟩
        ·simp only [Ae,o,q,m,d,f];omega
        ·have:=Aa b;simp [intOf];omega
       ·by_cases a8:D % 7=5
        ·by_cases h0:k=0
         ·subst h0
          go_wp2_with fail
          refine ⟨⟨_,_,Aa b,rfl,by go_num,?_,ae,af⟩,?_⟩
          ·simp only [Ae,o,q,m,d,f];omega
          ·have:=Aa b;simp [intOf];omega
         ·obtain ⟨C,rfl⟩:∃ C,k=C+1:=⟨k - 1,by omega⟩
          obtain ⟨u,L,M⟩:=Aa R (Nat.succ_pos C)
          rw [Nat.add_sub_cancel] at L M
          obtain ⟨A,N⟩:∃ A,u.kind=A:=⟨_,rfl⟩
          rw [N] at L
          obtain ⟨O,P⟩:∃ O,u.text=O:=⟨_,rfl⟩
          rw [P] at M
          clear N P R
          ·skip
           by_cases S:A=5
           ·skip
            go_wp2_with fail
            all_goals
             refine ⟨⟨_,_,Aa b,rfl,by go_num,?_,ae,af⟩,?_⟩
             ·simp only [Ae,o,q,m,d,f];omega
             ·have:=Aa b;simp [intOf];omega
           ·have aB:=beq_eq_false_iff_ne.2 S
            go_wp2_with fail
            refine ⟨⟨_,_,Aa b,rfl,by go_num,?_,ae,af⟩,?_⟩
            ·simp only [Ae,o,q,m,d,f];omega
            ·have:=Aa b;simp [intOf];omega
        ·skip
         go_wp2_with fail
         refine ⟨⟨_,_,Aa b,rfl,by go_num,?_,ae,af⟩,?_⟩
         ·simp only [Ae,o,q,m,d,f];omega
         ·have:=Aa b;simp [intOf];omega
     ·have bw: ¬ ((20 :Int) < 4+(az.size:Int)+1):=by omega
      have bM:az.size≤15:=by omega
      by_cases a2: 250 < D
      ·skip
       go_wp2_with fail
       refine (AK v a n c E l).mono ?_
       rintro e z ⟨y,rfl,a3,a4,H,I⟩
       have J:=i.trans I
       have K:Ao z wr.heap.size _ _:=⟨(I.block _ Q.lt (.inr (by omega))).trans Q.out⟩
       obtain ⟨F,e1,e2,e3,r⟩:=An K
       clear r e1 e2
       have a5:=FW
       have a6:=Gv (y % 90+32)
       have X:=BC (y % 90+32)
       have Y:(⟨#[35]⟩:ByteArray).size=1:=rfl
       have Z:(⟨#[10]⟩:ByteArray).size=1:=rfl
       have B:=(Below.refl z.heap.size z).alloc (Nat.le_refl _) (.cells #[.int .u8 (y % 90+32)] 5)
       have aa:=H.after B H.lt
       have ab:=J.then_below B J.size
       have ac:=K.after B (Nat.le_refl _)
       obtain ⟨F,e1,e2,e3,r⟩:=An ac
       clear r e1 e2
       dsimp only
       go_wp2_with fail
       refine ⟨⟨_,_,Aa b,rfl,by go_num,?_,aa,ab⟩,?_⟩
       ·simp only [Ae,X,Y,Z,d,f];omega
       ·have:=Aa b;simp [intOf];omega
      ·by_cases a7:D % 7=6
       ·skip
        go_wp2_with fail
        refine ⟨⟨_,_,Aa b,rfl,by go_num,?_,l,i⟩,?_⟩
        ·simp only [Ae,o,q,m,d,f];omega
        ·have:=Aa b;simp [intOf];omega
       ·by_cases a8:D % 7=5
        ·by_cases h0:k=0
         ·subst h0
          go_wp2_with fail
          refine ⟨⟨_,_,Aa b,rfl,by go_num,?_,l,i⟩,?_⟩
          ·simp only [Ae,o,q,m,d,f];omega
          ·have:=Aa b;simp [intOf];omega
         ·obtain ⟨C,rfl⟩:∃ C,k=C+1:=⟨k - 1,by omega⟩
          obtain ⟨u,L,M⟩:=Aa R (Nat.succ_pos C)
          rw [Nat.add_sub_cancel] at L M
          obtain ⟨A,N⟩:∃ A,u.kind=A:=⟨_,rfl⟩
          rw [N] at L
          obtain ⟨O,P⟩:∃ O,u.text=O:=⟨_,rfl⟩
          rw [P] at M
          clear N P R
          ·skip
           by_cases S:A=5
           ·skip
            go_wp2_with fail
            all_goals
             refine ⟨⟨_,_,Aa b,rfl,by go_num,?_,l,i⟩,?_⟩
             ·simp only [Ae,o,q,m,d,f];omega
             ·have:=Aa b;simp [intOf];omega
           ·have aB:=beq_eq_false_iff_ne.2 S
            go_wp2_with fail
            refine ⟨⟨_,_,Aa b,rfl,by go_num,?_,l,i⟩,?_⟩
            ·simp only [Ae,o,q,m,d,f];omega
            ·have:=Aa b;simp [intOf];omega
        ·skip
         go_wp2_with fail
         refine ⟨⟨_,_,Aa b,rfl,by go_num,?_,l,i⟩,?_⟩
         ·simp only [Ae,o,q,m,d,f];omega
         ·have:=Aa b;simp [intOf];omega
    ·skip
     by_cases a2: 250 < D
     ·skip
      go_wp2_with fail
      refine (AK v a n c E l).mono ?_
      rintro e z ⟨y,rfl,a3,a4,H,I⟩
      have J:=i.trans I
      have K:Ao z wr.heap.size _ _:=⟨(I.block _ Q.lt (.inr (by omega))).trans Q.out⟩
      obtain ⟨F,e1,e2,e3,r⟩:=An K
      clear r e1 e2
      have a5:=FW
      have a6:=Gv (y % 90+32)
      have X:=BC (y % 90+32)
      have Y:(⟨#[35]⟩:ByteArray).size=1:=rfl
      have Z:(⟨#[10]⟩:ByteArray).size=1:=rfl
      have B:=(Below.refl z.heap.size z).alloc (Nat.le_refl _) (.cells #[.int .u8 (y % 90+32)] 5)
      have aa:=H.after B H.lt
      have ab:=J.then_below B J.size
      have ac:=K.after B (Nat.le_refl _)
      obtain ⟨F,e1,e2,e3,r⟩:=An ac
      clear r e1 e2
      dsimp only
      go_wp2_with fail
      refine ⟨⟨_,_,Aa b,rfl,by go_num,?_,aa,ab⟩,?_⟩
      ·simp only [Ae,X,Y,Z,d,f];omega
      ·have:=Aa b;simp [intOf];omega
     ·by_cases a7:D % 7=6
      ·skip
       go_wp2_with fail
       refine ⟨⟨_,_,Aa b,rfl,by go_num,?_,l,i⟩,?_⟩
       ·simp only [Ae,o,q,m,d,f];omega
       ·have:=Aa b;simp [intOf];omega
      ·by_cases a8:D % 7=5
       ·by_cases h0:k=0
        ·subst h0
         go_wp2_with fail
         refine ⟨⟨_,_,Aa b,rfl,by go_num,?_,l,i⟩,?_⟩
         ·simp only [Ae,o,q,m,d,f];omega
         ·have:=Aa b;simp [intOf];omega
        ·obtain ⟨C,rfl⟩:∃ C,k=C+1:=⟨k - 1,by omega⟩
         obtain ⟨u,L,M⟩:=Aa R (Nat.succ_pos C)
         rw [Nat.add_sub_cancel] at L M
         obtain ⟨A,N⟩:∃ A,u.kind=A:=⟨_,rfl⟩
         rw [N] at L
         obtain ⟨O,P⟩:∃ O,u.text=O:=⟨_,rfl⟩
         rw [P] at M
         clear N P R
         ·skip
          by_cases S:A=5
          ·skip
           go_wp2_with fail
           all_goals
            refine ⟨⟨_,_,Aa b,rfl,by go_num,?_,l,i⟩,?_⟩
            ·simp only [Ae,o,q,m,d,f];omega
            ·have:=Aa b;simp [intOf];omega
          ·have aB:=beq_eq_false_iff_ne.2 S
           go_wp2_with fail
           refine ⟨⟨_,_,Aa b,rfl,by go_num,?_,l,i⟩,?_⟩
           ·simp only [Ae,o,q,m,d,f];omega
           ·have:=Aa b;simp [intOf];omega
       ·skip
        go_wp2_with fail
        refine ⟨⟨_,_,Aa b,rfl,by go_num,?_,l,i⟩,?_⟩
        ·simp only [Ae,o,q,m,d,f];omega
        ·have:=Aa b;simp [intOf];omega
   ·have bN:=beq_eq_false_iff_ne.2 bv
    by_cases a2: 250 < D
    ·skip
     go_wp2_with fail
     refine (AK v a n c E l).mono ?_
     rintro e z ⟨y,rfl,a3,a4,H,I⟩
     have J:=i.trans I
     have K:Ao z wr.heap.size _ _:=⟨(I.block _ Q.lt (.inr (by omega))).trans Q.out⟩
     obtain ⟨F,e1,e2,e3,r⟩:=An K
     clear r e1 e2
     have a5:=FW
     have a6:=Gv (y % 90+32)
     have X:=BC (y % 90+32)
     have Y:(⟨#[35]⟩:ByteArray).size=1:=rfl
     have Z:(⟨#[10]⟩:ByteArray).size=1:=rfl
     have B:=(Below.refl z.heap.size z).alloc (Nat.le_refl _) (.cells #[.int .u8 (y % 90+32)] 5)
     have aa:=H.after B H.lt
     have ab:=J.then_below B J.size
     have ac:=K.after B (Nat.le_refl _)
     obtain ⟨F,e1,e2,e3,r⟩:=An ac
     clear r e1 e2
     dsimp only
     go_wp2_with fail
     refine ⟨⟨_,_,Aa b,rfl,by go_num,?_,aa,ab⟩,?_⟩
     ·simp only [Ae,X,Y,Z,d,f];omega
     ·have:=Aa b;simp [intOf];omega
    ·by_cases a7:D % 7=6
     ·skip
      go_wp2_with fail
      refine ⟨⟨_,_,Aa b,rfl,by go_num,?_,l,i⟩,?_⟩
      ·simp only [Ae,o,q,m,d,f];omega
      ·have:=Aa b;simp [intOf];omega
     ·by_cases a8:D % 7=5
      ·by_cases h0:k=0
       ·subst h0
        go_wp2_with fail
        refine ⟨⟨_,_,Aa b,rfl,by go_num,?_,l,i⟩,?_⟩
        ·simp only [Ae,o,q,m,d,f];omega
        ·have:=Aa b;simp [intOf];omega
       ·obtain ⟨C,rfl⟩:∃ C,k=C+1:=⟨k - 1,by omega⟩
        obtain ⟨u,L,M⟩:=Aa R (Nat.succ_pos C)
        rw [Nat.add_sub_cancel] at L M
        obtain ⟨A,N⟩:∃ A,u.kind=A:=⟨_,rfl⟩
        rw [N] at L
        obtain ⟨O,P⟩:∃ O,u.text=O:=⟨_,rfl⟩
        rw [P] at M
        clear N P R
        by_cases bz:aA=5
        ·by_cases S:A=5
         ·skip
          go_wp2_with fail
          refine ⟨⟨_,_,Aa b,rfl,by go_num,?_,l,i⟩,?_⟩
          ·simp only [Ae,o,q,m,d,f];omega
          ·have:=Aa b;simp [intOf];omega
         ·have aB:=beq_eq_false_iff_ne.2 S
          go_wp2_with fail
          refine ⟨⟨_,_,Aa b,rfl,by go_num,?_,l,i⟩,?_⟩
          ·simp only [Ae,o,q,m,d,f];omega
          ·have:=Aa b;simp [intOf];omega
        ·have bO:=beq_eq_false_iff_ne.2 bz
         by_cases S:A=5
         ·skip
          go_wp2_with fail
          all_goals
           refine ⟨⟨_,_,Aa b,rfl,by go_num,?_,l,i⟩,?_⟩
           ·simp only [Ae,o,q,m,d,f];omega
           ·have:=Aa b;simp [intOf];omega
         ·have aB:=beq_eq_false_iff_ne.2 S
          go_wp2_with fail
          refine ⟨⟨_,_,Aa b,rfl,by go_num,?_,l,i⟩,?_⟩
          ·simp only [Ae,o,q,m,d,f];omega
          ·have:=Aa b;simp [intOf];omega
      ·skip
       go_wp2_with fail
       refine ⟨⟨_,_,Aa b,rfl,by go_num,?_,l,i⟩,?_⟩
       ·simp only [Ae,o,q,m,d,f];omega
       ·have:=Aa b;simp [intOf];omega
  ·have bo: ¬ ((k:Int) < (T.length:Int)):=by omega
   have bm:av.size≤20000000:=by have:=(Aa ar).1;omega
   have bA:=Ab bm
   clear bm
   go_wp2_with fail
   go_ret
   exact ⟨_,rfl,Aa bA,bc.trans ak⟩
end Go.Proofs.YtcpdodmoheebaaaGreatDoor
