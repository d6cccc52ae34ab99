/-
  Drawn policies: whole ones (written by mkkti.py). Own work.
-/
import Derived.Test.YtcpdodmoheebaaaGreatDoorMXAO
import Derived.Deep.AppendLies
import Derived.Test.YtcpdodmoheebaaaGreatDoorMXAF
import Derived.Test.YtcpdodmoheebaaaGreatDoorMXAD
namespace Go.Proofs.YtcpdodmoheebaaaGreatDoor
set_option maxRecDepth 100000
set_option maxHeartbeats 12800000
open Go.RowKit
set_option linter.unusedVariables false
theorem Ll {x:Int}(a: 0≤x)(b:x≤255){j:Nat}(c:j=(x / 12 % 4).toNat):(IntKind.i64.wrap (x.tdiv 12)).tmod 4=(j:Int):=by
 have e1:x.tdiv 12=x / 12:=Int.tdiv_eq_ediv_of_nonneg a
 have e2:IntKind.i64.wrap (x / 12)=x / 12:=by
  simp [IntKind.wrap,IntKind.bits,IntKind.signed]
  omega
 have e3:(x / 12).tmod 4=x / 12 % 4:=Int.tmod_eq_emod_of_nonneg (by omega)
 rw [e1,e2,e3]
 omega
theorem Kr (w:World)(k:Nat)(a:k < 3):∃ s:ByteArray,s.size≤10∧(w.alloc (.cells #[.string ⟨#[118,48]⟩,.string ⟨#[97,115,107,101,100]⟩,.string ⟨#[110,111,119]⟩] 9)).cell? ⟨w.heap.size,k,none⟩=some (.string s):=by
 have h:=(Ao.new w #[.string ⟨#[118,48]⟩,.string ⟨#[97,115,107,101,100]⟩,.string ⟨#[110,111,119]⟩] 9).cell k
 match k,a with
 | 0,_=>exact ⟨_,by decide,h⟩
 | 1,_=>exact ⟨_,by decide,h⟩
 | 2,_=>exact ⟨_,by decide,h⟩
theorem Lm (k:Nat)(a:k < 4):∃ s:ByteArray,s.size≤10∧∀ w:World,(w.alloc (.cells #[.string ⟨#[118]⟩,.string ⟨#[119]⟩,.string ⟨#[98,97,115,101]⟩,.string ⟨#[120,95,49]⟩] 9)).cell? ⟨w.heap.size,k,none⟩=some (.string s):=by
 have h:=fun w:World=>(Ao.new w #[.string ⟨#[118]⟩,.string ⟨#[119]⟩,.string ⟨#[98,97,115,101]⟩,.string ⟨#[120,95,49]⟩] 9).cell k
 match k,a with
 | 0,_=>exact ⟨_,by decide,h⟩
 | 1,_=>exact ⟨_,by decide,h⟩
 | 2,_=>exact ⟨_,by decide,h⟩
 | 3,_=>exact ⟨_,by decide,h⟩
def LV (B R gb pb b0:Nat) (a:Option Addr) (n c:Nat) (w wr:World):Prop:=
 ∃ (m:Nat) (L:List (ByteArray × Int)) (nd lt:Value) (S:List St) (sv:Value),Db B R gb a n c m L nd lt wr∧Le wr B pb S sv∧Ao wr b0 #[.slice none 0 0,.slice none 0 0] 49∧S.length≤14∧L.length≤S.length∧m≤800 * S.length∧Below B w wr
theorem IJ {B H:Nat}{a:Option Addr}{n c:Nat}{w:World}(ck:Ba w H a n c)(cX:B≤H)(cY: 0 < n→∀ cB,a=some cB→cB.block < B)(a9:Bool):
  Calls Tryz.prog 15 #[.pointer (some ⟨H,0,none⟩),.bool a9] w fun r w'=>(∃ nd b3 N b aY aZ,r= .returned (.agg #[nd,b3])∧Cr w' B nd N aY aZ∧w'.ownsRow B 71 4 b3 b.length (Ce b)∧(∀ x∈N,My x)∧(∀ s∈b,s.name.size≤1048576)∧N.length≤20000∧b.length≤15)∧Below B w w':=by
 have cZ:=ck.lt
 have cl:=(Below.refl w.heap.size w).alloc (Nat.le_refl _) (.cells #[.slice none 0 0,.slice none 0 0] 49)
 have cm:=cl.alloc cl.size (.cells #[.pointer (some ⟨H,0,none⟩),.slice none 0 0,.slice none 0 0,.bool a9] 69)
 have b4:=cm.alloc cm.size (.cells #[.slice none 0 0,.slice none 0 0] 49)
 have cn:=((Ao.new w #[.slice none 0 0,.slice none 0 0] 49).alloc (.cells #[.pointer (some ⟨H,0,none⟩),.slice none 0 0,.slice none 0 0,.bool a9] 69)).alloc (.cells #[.slice none 0 0,.slice none 0 0] 49)
 have b5:=(Ao.new (w.alloc (.cells #[.slice none 0 0,.slice none 0 0] 49)) #[.pointer (some ⟨H,0,none⟩),.slice none 0 0,.slice none 0 0,.bool a9] 69).alloc (.cells #[.slice none 0 0,.slice none 0 0] 49)
 have b6:=Ao.new ((w.alloc (.cells #[.slice none 0 0,.slice none 0 0] 49)).alloc (.cells #[.pointer (some ⟨H,0,none⟩),.slice none 0 0,.slice none 0 0,.bool a9] 69)) #[.slice none 0 0,.slice none 0 0] 49
 simp only [World.size_alloc] at b5 b6
 have bB:=ck.after b4 cZ
 go_enter Tryz.func15,Tryz.ntmps15
 go_wp2_with fail
 generalize ((w.alloc (.cells #[.slice none 0 0,.slice none 0 0] 49)).alloc (.cells #[.pointer (some ⟨H,0,none⟩),.slice none 0 0,.slice none 0 0,.bool a9] 69)).alloc (.cells #[.slice none 0 0,.slice none 0 0] 49)=bM at b4 cn b5 b6 bB ⊢
 clear cl cm
 have cC:=Ab (show LV B H (w.heap.size+1) (w.heap.size+1+1) w.heap.size a n c w bM from ⟨0, [],_,_, [],_,⟨[], [], [],a9,⟨b5,bB,Cr.nil _ _,World.ownsRow_nil _ _ _ _,⟨⟨by omega,cX⟩,cY⟩,(fun x hx=>by cases hx),(fun x hx=>by cases hx)⟩,rfl⟩,⟨b6,World.ownsRow_nil _ _ _ _,fun s hs=>by cases hs⟩,cn,by simp,by simp,by simp,b4.mono (by omega)⟩)
 clear cn b5 b6 bB b4 ck
 go_loopw [] (fun wr=>LV B H (w.heap.size+1) (w.heap.size+1+1) w.heap.size a n c w wr) (fun wr=>14 - BV ((wr.cell? ⟨w.heap.size+1+1,1,none⟩).getD undef))
 case atStart=>exact Aa cC
 case round=>
  clear cC
  obtain ⟨m,L,nd,lt,b,b3,ba,bn,b7,ds,dt,du,b8⟩:=hrel
  obtain ⟨Y,Z,cD,-⟩:=Av bn.st
  have b9:=bn.row.cell 1
  have bC:=Ab (show BV ((wr.cell? ⟨w.heap.size+1+1,1,none⟩).getD undef)=b.length by
   have:wr.cell? ⟨w.heap.size+1+1,1,none⟩=some b3:=b9
   rw [this,cD];rfl)
  subst cD
  by_cases h14:b.length < 14
  ·have c0:(b.length:Int) < 14:=by omega
   go_wp2_with fail
   refine (GV H a n c wr ba.lt.2.2).mono ?_
   rintro r aM ⟨y,rfl,dv,dw,bN⟩
   have aN:=ba.below bN
   have bO:=bn.below bN
   have ca:=b7.after bN (Nat.le_refl _)
   have cb:=b8.trans (bN.mono ba.lt.1.1)
   clear ba bn b7 b8 bN
   dsimp only
   by_cases hy: 4 < y
   ·go_wp2_with fail
    refine (AK H a n c aM aN.lt.2.2).mono ?_
    rintro r O ⟨x,rfl,co,cp,bB,ae⟩
    have cc:Gk B H (w.heap.size+1) lt nd aM nd O:=Gk.of_touch ae aN.lt.2.1.2 aN.lt.1.2.2
    have bb:=aN.touch ae bB
    have bD:=bO.gk cc aN
    have cd:=cc.row aN ca (by decide) (by decide) (by decide) (by decide)
    have ce:=cb.trans cc.low
    clear aN bO ca cb cc ae bB b9
    dsimp only
    by_cases e3:x % 3=0
    ·have bo:(x % 3== 0)=true:=beq_iff_eq.2 e3
     have a0:L.length≤100:=by omega
     clear e3
     have aa:=(Below.refl O.heap.size O).alloc (Nat.le_refl _) (.cells #[.int .i64 1,.string ⟨#[]⟩,.int .i64 (-1),.int .i64 (-1)] 71)
     have ab:E6 B H (w.heap.size+1) (w.heap.size+1+1) w.heap.size O.heap.size a n c m L nd lt b (.slice Y b.length Z) (.int .i64 1) (.string ⟨#[]⟩) (.int .i64 (-1)) (.int .i64 (-1)) w (O.alloc (.cells #[.int .i64 1,.string ⟨#[]⟩,.int .i64 (-1),.int .i64 (-1)] 71)):=
      ⟨bb.below aa,bD.below aa,cd.after aa (Nat.le_refl _),Ao.new O _ _,ce.trans (aa.mono bb.lt.1.1),⟨fun e=>by have:=(bD.st.lt _ e).2;omega,bb.lt.1.1,by omega,by omega⟩⟩
     clear bb bD cd ce aa
     go_wp2_with fail
     generalize O.alloc (.cells #[.int .i64 1,.string ⟨#[]⟩,.int .i64 (-1),.int .i64 (-1)] 71)=bp at ab ⊢
     refine (Cz a0 4 (by omega) (1+x / 3 % 4) m nd _ (by omega) (by show m+121≤1000000;omega) ab.G).mono ?_
     rintro r E ⟨⟨f,rfl⟩,aD,ah,a1,a2,ay,az⟩
     have bP:aD≤m+121:=a2
     have ac:=ab.gk ay az
     have g:=ac.set 2 (.int .i64 f) rfl
     obtain ⟨⟨bq,br,bs,bt⟩,aA,-⟩:=ac.cells
     have bu:=aA 2
     clear a1 a2 ay az ab ac aA
     obtain ⟨⟨aq,ar,ae,au⟩,Q,⟨R,S,F⟩,⟨aB,av,z⟩⟩:=g.cells
     have cE:=Q 1
     clear Q R S F z aB
     dsimp only
     go_wp2_with fail
     generalize E.setCell ⟨O.heap.size,2,none⟩ (.int .i64 f)=aW at g aq ar ae au av cE ⊢
     clear bq br bs bt bu
     apply MD
     ·intro c1
      have c2:(Tryz.f32.name== "runtime.NumGoroutine")=false:=by kernel_rfl
      have c3: Tryz.f32.body.isNone=false:=by kernel_rfl
      have cq:=Ab (fun (bM:World)=>(Bn (b.length:Int) bM (by omega) (by omega)).mono (R':=fun e w'=>∃ cF,e= .returned cF∧(cF= .string (Dz (b.length:Int).toNat)∧Below bM.heap.size bM w')) (fun r w' h=>⟨_,h.1,rfl,h.2⟩))
      obtain ⟨o,c4,cf⟩:=Lm (x / 12 % 4).toNat (by omega)
      obtain ⟨a3,cr⟩:∃ a3:Nat,a3=(x / 12 % 4).toNat:=⟨_,rfl⟩
      have c5:(IntKind.i64.wrap (x.tdiv 12)).tmod 4=(a3:Int):=Ll co cp cr
      have c6:(a3:Int) < 4:=by omega
      have c7:a3 < 4:=by omega
      rw [← cr] at cf
      clear cr
      have cG:=g.below (LW aW)
      have cs:=g.below ((Below.refl aW.heap.size aW).alloc (Nat.le_refl _) (.cells #[.string ⟨#[118]⟩,.string ⟨#[119]⟩,.string ⟨#[98,97,115,101]⟩,.string ⟨#[120,95,49]⟩] 9))
      have cH:=cf aW
      obtain ⟨⟨c8,bv,c9,da⟩,cI,-,⟨db,dc,dd⟩⟩:=cs.cells
      have de:=cI 1
      clear cI dd db
      have cJ:=cs.below (LW _)
      have cK:=BD (b.length:Int).toNat
      generalize Dz (b.length:Int).toNat=q at cq cK
      have df: ¬ (9223372036854775807 < o.size+q.size):=by omega
      have aL:=Ab (show (o ++q).size≤100 by rw [Ae];omega)
      go_region_law (refine IK rfl 32 _ Tryz.func32 c2 c3 _ _ rfl (.int .i64 (b.length:Int)) rfl _ (Aa cq _) ?_;rintro dx aH ⟨rfl,cg⟩;first | (have bQ:=cJ.below cg;have cL:aH.cell? ⟨aW.heap.size,a3,none⟩=some (.string o):=(cg.cell (p:=⟨aW.heap.size,a3,none⟩) (by show aW.heap.size < (aW.alloc _).heap.size;simp)).trans cH;obtain ⟨⟨bE,bF,bG,bH⟩,bR,-,-⟩:=bQ.cells;have cM:=bR 1;clear bR) | (have cN:=cG.below cg;have bQ:=cN.below ((Below.refl aH.heap.size aH).alloc (Nat.le_refl _) (.cells #[.string ⟨#[118]⟩,.string ⟨#[119]⟩,.string ⟨#[98,97,115,101]⟩,.string ⟨#[120,95,49]⟩] 9));obtain ⟨⟨bE,bF,bG,bH⟩,bR,-,-⟩:=bQ.cells;have cM:=bR 1;have cL:=cf aH;clear bR))
      all_goals
       have T:=bQ.set 1 (.string (o ++q)) rfl
       have bI:=Ab T
       clear c8 bv c9 da dc de cH cL bQ T bE bF bG bH cM cf c4 cK df c5 c6 c7 cq cG cs cJ
       first
       | (clear cN;generalize (aH.alloc (.cells #[.string ⟨#[118]⟩,.string ⟨#[119]⟩,.string ⟨#[98,97,115,101]⟩,.string ⟨#[120,95,49]⟩] 9)).setCell ⟨O.heap.size,1,none⟩ (.string (o ++q))=aJ at bI ⊢;generalize aH.heap.size=ct)
       | (generalize aH.setCell ⟨O.heap.size,1,none⟩ (.string (o ++q))=aJ at bI ⊢;generalize aW.heap.size=ct)
       clear cg
       revert bI
       revert aJ
       revert aL
       revert q
       revert o
       revert a3
       revert ct
       exact c1.out
     intro ct a3 o q aL aJ bI
     have T:=Aa bI
     clear bI g aq ar ae au av cE
     have dy:=Aa aL
     clear aL
     cases a9
     ·skip
      obtain ⟨bJ,bK,aw,ax,bL,aK,a4,-⟩:=T.G.cells
      subst a4
      obtain ⟨⟨aq,ar,ae,au⟩,Q,⟨R,S,F⟩,⟨aB,av,z⟩⟩:=T.cells
      have bS:=F 2
      obtain ⟨cO,cP,cQ,bT,aO,bU⟩:=T.G
      have aP:=aO.lets
      have aC:=aO.row
      clear aO bU
      have bc:=(World.ownsRow.alloc aP (.cells #[.string (o ++q),.int .i64 (1+x / 3 % 4)] 75)).drew
      have bd:=World.news_of_block (heap_alloc_new aJ (.cells #[.string (o ++q),.int .i64 (1+x / 3 % 4)] 75))
      have af:=T.G.lt.1.1
      have bf:=aC.alloc (.cells #[.string (o ++q),.int .i64 (1+x / 3 % 4)] 75)
      have bV:=bf.cell 2
      have bv:=(T.s.alloc (.cells #[.string (o ++q),.int .i64 (1+x / 3 % 4)] 75)).cell 1
      have bg:(Value.slice aw L.length ax).ownBlock≠some (w.heap.size+1):=Af aC aP (by decide)
      obtain ⟨bW,bX,bY,bZ,b0⟩:=info_parts E7
      clear Q R F z aB av aK aq ae au
      go_wp2_with fail
      go_region_law (refine step_append_lies _ rfl _ _ 67 rfl B 75 bW (.agg #[.string ByteArray.empty,.int .i64 0]) 2 24 Tryz.underlying67 bX bY bZ b0 rfl (by decide) (.slice aw L.length ax) L.length (EM L) rfl bc ⟨aJ.heap.size,0,none⟩ 1 1 [.string (o ++q),.int .i64 (1+x / 3 % 4)] rfl rfl bd (by intro u hu;simp at hu;rcases hu with rfl | rfl <;> rfl) (by decide) (by unfold maxLen;omega) (by omega) (by simp;omega) _ rfl ?_;intro bh bi aQ bj d V W;have j:(aJ.alloc (.cells #[.string (o ++q),.int .i64 (1+x / 3 % 4)] 75)).grownBy aQ (Value.slice aw L.length ax).ownBlock:=⟨d.os,d.tape,d.output,d.size,d.block⟩;have aR:Ao aQ (w.heap.size+1) #[.pointer (some ⟨H,0,none⟩),ah,.slice aw L.length ax,.bool bT] 69:=⟨(Ar j _ aC.lt bg).trans aC.out⟩;have bo:=aR.cell 2;have b1:=aR.frozen 2)
      all_goals
       have U:=T.pushL (.cells #[.string (o ++q),.int .i64 (1+x / 3 % 4)] 75) ((o ++q),1+x / 3 % 4) (by show (o ++q).size≤1000;omega) j bj
       clear bf bV bv bg aC aP bc bd d V W j aR bo b1 T ar S bS bj
       generalize aQ.setCell ⟨w.heap.size+1,2,none⟩ (.slice (some ⟨bh,0,none⟩) (L.length+1) bi)=ag at U ⊢
       obtain ⟨⟨aq,ar,ae,au⟩,Q,⟨R,S,F⟩,⟨aB,av,z⟩⟩:=U.cells
       have a5:=z 1
       have I:=World.ownsRow.alloc U.P.st (.cells #[.int .i64 1,.string (o ++q),.int .i64 f,.int .i64 (-1)] 71)
       have t:=World.news_of_block (heap_alloc_new ag (.cells #[.int .i64 1,.string (o ++q),.int .i64 f,.int .i64 (-1)] 71))
       have af:=U.G.lt.1.1
       have a6:B≤ag.heap.size:=by simpa using af
       have J:ag.heap.size=ag.heap.size:=by first | rfl | simp
       rw [J] at t
       clear J
       obtain ⟨ai,aj,ak,al,ao⟩:=info_parts Br
       have l:=U.P.row
       clear Q R S F z
       go_wp2_with (at_builtin;refine wpList_append_lies _ rfl _ _ 47 rfl B 71 ai (.agg #[.int .i64 0,.string ByteArray.empty,.int .i64 0,.int .i64 0]) 4 40 Tryz.underlying47 aj ak al ao rfl (by decide) (.slice Y b.length Z) b.length (Ce b) rfl I.drew ⟨ag.heap.size,0,none⟩ 1 1 [.int .i64 1,.string (o ++q),.int .i64 f,.int .i64 (-1)] rfl rfl t ?q2 (by decide) ?q3 ?q4 ?q5 _ rfl ?_)
       case q2=>first | exact ⟨rfl,rfl,rfl,rfl⟩ | trivial | (simp;done) | (refine ⟨?_,?_,?_⟩ <;> rfl) | (intro u hu;simp at hu;rcases hu with rfl | rfl | rfl | rfl <;> rfl)
       case q3=>unfold maxLen;omega
       case q4=>omega
       case q5=>omega
       intro A C k K d V W
       have j:(ag.alloc (.cells #[.int .i64 1,.string (o ++q),.int .i64 f,.int .i64 (-1)] 71)).grownBy k (Value.slice Y b.length Z).ownBlock:=⟨d.os,d.tape,d.output,d.size,d.block⟩
       have v:Ao k (w.heap.size+1+1) _ _:=⟨(Ar j _ l.lt (Af l U.P.st (by decide))).trans l.out⟩
       have a7:=v.cell 1
       have a8:=v.frozen 1
       obtain ⟨X,i,D,M⟩:=U.pushS (.cells #[.int .i64 1,.string (o ++q),.int .i64 f,.int .i64 (-1)] 71) (by show ((o ++q):ByteArray).size≤1048576;first | omega | decide) j K
       have aS:=Ab (show LV B H (w.heap.size+1) (w.heap.size+1+1) w.heap.size a n c w (k.setCell ⟨w.heap.size+1+1,1,none⟩ (.slice (some ⟨A,0,none⟩) (b.length+1) C)) from ⟨aD,(L ++ [((o ++q),1+x / 3 % 4)]),ah,(.slice (some ⟨bh,0,none⟩) (L.length+1) bi),b ++ [⟨1,(o ++q),f,(-1)⟩],_,X,i,D,by simp;omega,by simp;omega,by simp;omega,M⟩)
       have aT:=Ab (show 14 - BV (((k.setCell ⟨w.heap.size+1+1,1,none⟩ (.slice (some ⟨A,0,none⟩) (b.length+1) C)).cell? ⟨w.heap.size+1+1,1,none⟩).getD undef) < 14 - BV ((wr.cell? ⟨w.heap.size+1+1,1,none⟩).getD undef) by
        have e:(k.setCell ⟨w.heap.size+1+1,1,none⟩ (.slice (some ⟨A,0,none⟩) (b.length+1) C)).cell? ⟨w.heap.size+1+1,1,none⟩=some (.slice (some ⟨A,0,none⟩) (b.length+1) C):=i.row.cell 1
        rw [e,Aa bC]
        show 14 - (b.length+1) < 14 - b.length
        omega)
       clear X i D M v l K d V W j I t U
       go_wp2_with fail
       exact ⟨Aa aS,Aa aT⟩
     ·by_cases dz: 245 < x
      ·obtain ⟨ns,dA,dg⟩:=Kr aJ (x % 3).toNat (by omega)
       have cu:=T.below ((Below.refl aJ.heap.size aJ).alloc (Nat.le_refl _) (.cells #[.string ⟨#[118,48]⟩,.string ⟨#[97,115,107,101,100]⟩,.string ⟨#[110,111,119]⟩] 9))
       have bk:=cu.set 1 (.string ns) rfl
       obtain ⟨⟨dh,di,dj,dk⟩,cR,-,-⟩:=cu.cells
       have dl:=cR 1
       clear cR T cu
       go_wp2_with fail
       generalize (aJ.alloc (.cells #[.string ⟨#[118,48]⟩,.string ⟨#[97,115,107,101,100]⟩,.string ⟨#[110,111,119]⟩] 9)).setCell ⟨O.heap.size,1,none⟩ (.string ns)=cv at bk ⊢
       clear dh di dj dk dl dg
       obtain ⟨bJ,bK,aw,ax,bL,aK,a4,-⟩:=bk.G.cells
       subst a4
       obtain ⟨⟨aq,ar,ae,au⟩,Q,⟨R,S,F⟩,⟨aB,av,z⟩⟩:=bk.cells
       have bS:=F 2
       obtain ⟨cO,cP,cQ,bT,aO,bU⟩:=bk.G
       have aP:=aO.lets
       have aC:=aO.row
       clear aO bU
       have bc:=(World.ownsRow.alloc aP (.cells #[.string ns,.int .i64 (1+x / 3 % 4)] 75)).drew
       have bd:=World.news_of_block (heap_alloc_new cv (.cells #[.string ns,.int .i64 (1+x / 3 % 4)] 75))
       have af:=bk.G.lt.1.1
       have bf:=aC.alloc (.cells #[.string ns,.int .i64 (1+x / 3 % 4)] 75)
       have bV:=bf.cell 2
       have bv:=(bk.s.alloc (.cells #[.string ns,.int .i64 (1+x / 3 % 4)] 75)).cell 1
       have bg:(Value.slice aw L.length ax).ownBlock≠some (w.heap.size+1):=Af aC aP (by decide)
       obtain ⟨bW,bX,bY,bZ,b0⟩:=info_parts E7
       clear Q R F z aB av aK aq ae au
       skip
       go_region_law (refine step_append_lies _ rfl _ _ 67 rfl B 75 bW (.agg #[.string ByteArray.empty,.int .i64 0]) 2 24 Tryz.underlying67 bX bY bZ b0 rfl (by decide) (.slice aw L.length ax) L.length (EM L) rfl bc ⟨cv.heap.size,0,none⟩ 1 1 [.string ns,.int .i64 (1+x / 3 % 4)] rfl rfl bd (by intro u hu;simp at hu;rcases hu with rfl | rfl <;> rfl) (by decide) (by unfold maxLen;omega) (by omega) (by simp;omega) _ rfl ?_;intro bh bi aQ bj d V W;have j:(cv.alloc (.cells #[.string ns,.int .i64 (1+x / 3 % 4)] 75)).grownBy aQ (Value.slice aw L.length ax).ownBlock:=⟨d.os,d.tape,d.output,d.size,d.block⟩;have aR:Ao aQ (w.heap.size+1) #[.pointer (some ⟨H,0,none⟩),ah,.slice aw L.length ax,.bool bT] 69:=⟨(Ar j _ aC.lt bg).trans aC.out⟩;have bo:=aR.cell 2;have b1:=aR.frozen 2)
       all_goals
        have U:=bk.pushL (.cells #[.string ns,.int .i64 (1+x / 3 % 4)] 75) (ns,1+x / 3 % 4) (by show ns.size≤1000;omega) j bj
        clear bf bV bv bg aC aP bc bd d V W j aR bo b1 bk ar S bS bj
        generalize aQ.setCell ⟨w.heap.size+1,2,none⟩ (.slice (some ⟨bh,0,none⟩) (L.length+1) bi)=ag at U ⊢
        obtain ⟨⟨aq,ar,ae,au⟩,Q,⟨R,S,F⟩,⟨aB,av,z⟩⟩:=U.cells
        have a5:=z 1
        have I:=World.ownsRow.alloc U.P.st (.cells #[.int .i64 1,.string ns,.int .i64 f,.int .i64 (-1)] 71)
        have t:=World.news_of_block (heap_alloc_new ag (.cells #[.int .i64 1,.string ns,.int .i64 f,.int .i64 (-1)] 71))
        have af:=U.G.lt.1.1
        have a6:B≤ag.heap.size:=by simpa using af
        have J:ag.heap.size=ag.heap.size:=by first | rfl | simp
        rw [J] at t
        clear J
        obtain ⟨ai,aj,ak,al,ao⟩:=info_parts Br
        have l:=U.P.row
        clear Q R S F z
        go_wp2_with (at_builtin;refine wpList_append_lies _ rfl _ _ 47 rfl B 71 ai (.agg #[.int .i64 0,.string ByteArray.empty,.int .i64 0,.int .i64 0]) 4 40 Tryz.underlying47 aj ak al ao rfl (by decide) (.slice Y b.length Z) b.length (Ce b) rfl I.drew ⟨ag.heap.size,0,none⟩ 1 1 [.int .i64 1,.string ns,.int .i64 f,.int .i64 (-1)] rfl rfl t ?q2 (by decide) ?q3 ?q4 ?q5 _ rfl ?_)
        case q2=>first | exact ⟨rfl,rfl,rfl,rfl⟩ | trivial | (simp;done) | (refine ⟨?_,?_,?_⟩ <;> rfl) | (intro u hu;simp at hu;rcases hu with rfl | rfl | rfl | rfl <;> rfl)
        case q3=>unfold maxLen;omega
        case q4=>omega
        case q5=>omega
        intro A C k K d V W
        have j:(ag.alloc (.cells #[.int .i64 1,.string ns,.int .i64 f,.int .i64 (-1)] 71)).grownBy k (Value.slice Y b.length Z).ownBlock:=⟨d.os,d.tape,d.output,d.size,d.block⟩
        have v:Ao k (w.heap.size+1+1) _ _:=⟨(Ar j _ l.lt (Af l U.P.st (by decide))).trans l.out⟩
        have a7:=v.cell 1
        have a8:=v.frozen 1
        obtain ⟨X,i,D,M⟩:=U.pushS (.cells #[.int .i64 1,.string ns,.int .i64 f,.int .i64 (-1)] 71) (by show (ns:ByteArray).size≤1048576;first | omega | decide) j K
        have aS:=Ab (show LV B H (w.heap.size+1) (w.heap.size+1+1) w.heap.size a n c w (k.setCell ⟨w.heap.size+1+1,1,none⟩ (.slice (some ⟨A,0,none⟩) (b.length+1) C)) from ⟨aD,(L ++ [(ns,1+x / 3 % 4)]),ah,(.slice (some ⟨bh,0,none⟩) (L.length+1) bi),b ++ [⟨1,ns,f,(-1)⟩],_,X,i,D,by simp;omega,by simp;omega,by simp;omega,M⟩)
        have aT:=Ab (show 14 - BV (((k.setCell ⟨w.heap.size+1+1,1,none⟩ (.slice (some ⟨A,0,none⟩) (b.length+1) C)).cell? ⟨w.heap.size+1+1,1,none⟩).getD undef) < 14 - BV ((wr.cell? ⟨w.heap.size+1+1,1,none⟩).getD undef) by
         have e:(k.setCell ⟨w.heap.size+1+1,1,none⟩ (.slice (some ⟨A,0,none⟩) (b.length+1) C)).cell? ⟨w.heap.size+1+1,1,none⟩=some (.slice (some ⟨A,0,none⟩) (b.length+1) C):=i.row.cell 1
         rw [e,Aa bC]
         show 14 - (b.length+1) < 14 - b.length
         omega)
        clear X i D M v l K d V W j I t U
        go_wp2_with fail
        exact ⟨Aa aS,Aa aT⟩
      ·skip
       obtain ⟨bJ,bK,aw,ax,bL,aK,a4,-⟩:=T.G.cells
       subst a4
       obtain ⟨⟨aq,ar,ae,au⟩,Q,⟨R,S,F⟩,⟨aB,av,z⟩⟩:=T.cells
       have bS:=F 2
       obtain ⟨cO,cP,cQ,bT,aO,bU⟩:=T.G
       have aP:=aO.lets
       have aC:=aO.row
       clear aO bU
       have bc:=(World.ownsRow.alloc aP (.cells #[.string (o ++q),.int .i64 (1+x / 3 % 4)] 75)).drew
       have bd:=World.news_of_block (heap_alloc_new aJ (.cells #[.string (o ++q),.int .i64 (1+x / 3 % 4)] 75))
       have af:=T.G.lt.1.1
       have bf:=aC.alloc (.cells #[.string (o ++q),.int .i64 (1+x / 3 % 4)] 75)
       have bV:=bf.cell 2
       have bv:=(T.s.alloc (.cells #[.string (o ++q),.int .i64 (1+x / 3 % 4)] 75)).cell 1
       have bg:(Value.slice aw L.length ax).ownBlock≠some (w.heap.size+1):=Af aC aP (by decide)
       obtain ⟨bW,bX,bY,bZ,b0⟩:=info_parts E7
       clear Q R F z aB av aK aq ae au
       go_wp2_with fail
       go_region_law (refine step_append_lies _ rfl _ _ 67 rfl B 75 bW (.agg #[.string ByteArray.empty,.int .i64 0]) 2 24 Tryz.underlying67 bX bY bZ b0 rfl (by decide) (.slice aw L.length ax) L.length (EM L) rfl bc ⟨aJ.heap.size,0,none⟩ 1 1 [.string (o ++q),.int .i64 (1+x / 3 % 4)] rfl rfl bd (by intro u hu;simp at hu;rcases hu with rfl | rfl <;> rfl) (by decide) (by unfold maxLen;omega) (by omega) (by simp;omega) _ rfl ?_;intro bh bi aQ bj d V W;have j:(aJ.alloc (.cells #[.string (o ++q),.int .i64 (1+x / 3 % 4)] 75)).grownBy aQ (Value.slice aw L.length ax).ownBlock:=⟨d.os,d.tape,d.output,d.size,d.block⟩;have aR:Ao aQ (w.heap.size+1) #[.pointer (some ⟨H,0,none⟩),ah,.slice aw L.length ax,.bool bT] 69:=⟨(Ar j _ aC.lt bg).trans aC.out⟩;have bo:=aR.cell 2;have b1:=aR.frozen 2)
       all_goals
        have U:=T.pushL (.cells #[.string (o ++q),.int .i64 (1+x / 3 % 4)] 75) ((o ++q),1+x / 3 % 4) (by show (o ++q).size≤1000;omega) j bj
        clear bf bV bv bg aC aP bc bd d V W j aR bo b1 T ar S bS bj
        generalize aQ.setCell ⟨w.heap.size+1,2,none⟩ (.slice (some ⟨bh,0,none⟩) (L.length+1) bi)=ag at U ⊢
        obtain ⟨⟨aq,ar,ae,au⟩,Q,⟨R,S,F⟩,⟨aB,av,z⟩⟩:=U.cells
        have a5:=z 1
        have I:=World.ownsRow.alloc U.P.st (.cells #[.int .i64 1,.string (o ++q),.int .i64 f,.int .i64 (-1)] 71)
        have t:=World.news_of_block (heap_alloc_new ag (.cells #[.int .i64 1,.string (o ++q),.int .i64 f,.int .i64 (-1)] 71))
        have af:=U.G.lt.1.1
        have a6:B≤ag.heap.size:=by simpa using af
        have J:ag.heap.size=ag.heap.size:=by first | rfl | simp
        rw [J] at t
        clear J
        obtain ⟨ai,aj,ak,al,ao⟩:=info_parts Br
        have l:=U.P.row
        clear Q R S F z
        go_wp2_with (at_builtin;refine wpList_append_lies _ rfl _ _ 47 rfl B 71 ai (.agg #[.int .i64 0,.string ByteArray.empty,.int .i64 0,.int .i64 0]) 4 40 Tryz.underlying47 aj ak al ao rfl (by decide) (.slice Y b.length Z) b.length (Ce b) rfl I.drew ⟨ag.heap.size,0,none⟩ 1 1 [.int .i64 1,.string (o ++q),.int .i64 f,.int .i64 (-1)] rfl rfl t ?q2 (by decide) ?q3 ?q4 ?q5 _ rfl ?_)
        case q2=>first | exact ⟨rfl,rfl,rfl,rfl⟩ | trivial | (simp;done) | (refine ⟨?_,?_,?_⟩ <;> rfl) | (intro u hu;simp at hu;rcases hu with rfl | rfl | rfl | rfl <;> rfl)
        case q3=>unfold maxLen;omega
        case q4=>omega
        case q5=>omega
        intro A C k K d V W
        have j:(ag.alloc (.cells #[.int .i64 1,.string (o ++q),.int .i64 f,.int .i64 (-1)] 71)).grownBy k (Value.slice Y b.length Z).ownBlock:=⟨d.os,d.tape,d.output,d.size,d.block⟩
        have v:Ao k (w.heap.size+1+1) _ _:=⟨(Ar j _ l.lt (Af l U.P.st (by decide))).trans l.out⟩
        have a7:=v.cell 1
        have a8:=v.frozen 1
        obtain ⟨X,i,D,M⟩:=U.pushS (.cells #[.int .i64 1,.string (o ++q),.int .i64 f,.int .i64 (-1)] 71) (by show ((o ++q):ByteArray).size≤1048576;first | omega | decide) j K
        have aS:=Ab (show LV B H (w.heap.size+1) (w.heap.size+1+1) w.heap.size a n c w (k.setCell ⟨w.heap.size+1+1,1,none⟩ (.slice (some ⟨A,0,none⟩) (b.length+1) C)) from ⟨aD,(L ++ [((o ++q),1+x / 3 % 4)]),ah,(.slice (some ⟨bh,0,none⟩) (L.length+1) bi),b ++ [⟨1,(o ++q),f,(-1)⟩],_,X,i,D,by simp;omega,by simp;omega,by simp;omega,M⟩)
        have aT:=Ab (show 14 - BV (((k.setCell ⟨w.heap.size+1+1,1,none⟩ (.slice (some ⟨A,0,none⟩) (b.length+1) C)).cell? ⟨w.heap.size+1+1,1,none⟩).getD undef) < 14 - BV ((wr.cell? ⟨w.heap.size+1+1,1,none⟩).getD undef) by
         have e:(k.setCell ⟨w.heap.size+1+1,1,none⟩ (.slice (some ⟨A,0,none⟩) (b.length+1) C)).cell? ⟨w.heap.size+1+1,1,none⟩=some (.slice (some ⟨A,0,none⟩) (b.length+1) C):=i.row.cell 1
         rw [e,Aa bC]
         show 14 - (b.length+1) < 14 - b.length
         omega)
        clear X i D M v l K d V W j I t U
        go_wp2_with fail
        exact ⟨Aa aS,Aa aT⟩
    ·have bo:(x % 3== 0)=false:=beq_eq_false_iff_ne.2 e3
     have aa:=(Below.refl O.heap.size O).alloc (Nat.le_refl _) (.cells #[.int .i64 2,.string ⟨#[]⟩,.int .i64 (-1),.int .i64 (-1)] 71)
     have ab:E6 B H (w.heap.size+1) (w.heap.size+1+1) w.heap.size O.heap.size a n c m L nd lt b (.slice Y b.length Z) (.int .i64 2) (.string ⟨#[]⟩) (.int .i64 (-1)) (.int .i64 (-1)) w (O.alloc (.cells #[.int .i64 2,.string ⟨#[]⟩,.int .i64 (-1),.int .i64 (-1)] 71)):=
      ⟨bb.below aa,bD.below aa,cd.after aa (Nat.le_refl _),Ao.new O _ _,ce.trans (aa.mono bb.lt.1.1),⟨fun e=>by have:=(bD.st.lt _ e).2;omega,bb.lt.1.1,by omega,by omega⟩⟩
     clear bb bD cd ce aa
     have a0:L.length≤100:=by omega
     have cS:x % 3=1∨x % 3=2:=by omega
     clear e3
     by_cases ch:x=254
     ·have dm:(x== 254)=true:=beq_iff_eq.2 ch
      have cT:(x % 3== 1)=false:=beq_eq_false_iff_ne.2 (by omega)
      clear ch cS
      go_wp2_with fail
      generalize O.alloc (.cells #[.int .i64 2,.string ⟨#[]⟩,.int .i64 (-1),.int .i64 (-1)] 71)=bp at ab ⊢
      refine (AK H a n c bp ab.G.lt.2.2).mono ?_
      rintro r aI ⟨cU,rfl,ci,cj,bl,bm⟩
      have aE:=ab.touch bm bl
      clear ab bm bl
      obtain ⟨b2,cV⟩:∃ b2:Nat,(b2:Int)=64 - cU % 2:=⟨(64 - cU % 2).toNat,by omega⟩
      have dn: 1≤b2:=by omega
      have dp:b2≤64:=by omega
      have dq:=Ab cV
      clear cV
      dsimp only
      go_wp2_with fail
      rw [← Aa dq]
      refine (Kq aE.G (by omega) a0 b2 dn dp).mono ?_
      rintro r E ⟨⟨f,rfl⟩,aD,ah,a1,a2,ay,az⟩
      have ac:=aE.gk ay az
      have g:=ac.set 2 (.int .i64 f) rfl
      obtain ⟨⟨bq,br,bs,bt⟩,aA,-⟩:=ac.cells
      have bu:=aA 2
      clear a1 ay az aE ac aA
      dsimp only
      obtain ⟨⟨aq,ar,ae,au⟩,Q,⟨R,S,F⟩,⟨aB,av,z⟩⟩:=g.cells
      have a5:=z 1
      have I:=World.ownsRow.alloc g.P.st (.cells #[.int .i64 2,.string ⟨#[]⟩,.int .i64 f,.int .i64 (-1)] 71)
      have t:=World.news_of_block (heap_alloc_new (E.setCell ⟨O.heap.size,2,none⟩ (.int .i64 f)) (.cells #[.int .i64 2,.string ⟨#[]⟩,.int .i64 f,.int .i64 (-1)] 71))
      have af:=g.G.lt.1.1
      have a6:B≤E.heap.size:=by simpa using af
      have J:(E.setCell ⟨O.heap.size,2,none⟩ (.int .i64 f)).heap.size=E.heap.size:=by first | rfl | simp
      rw [J] at t
      clear J
      obtain ⟨ai,aj,ak,al,ao⟩:=info_parts Br
      have l:=g.P.row
      clear Q R S F z
      go_wp2_with (at_builtin;refine wpList_append_lies _ rfl _ _ 47 rfl B 71 ai (.agg #[.int .i64 0,.string ByteArray.empty,.int .i64 0,.int .i64 0]) 4 40 Tryz.underlying47 aj ak al ao rfl (by decide) (.slice Y b.length Z) b.length (Ce b) rfl I.drew ⟨E.heap.size,0,none⟩ 1 1 [.int .i64 2,.string ⟨#[]⟩,.int .i64 f,.int .i64 (-1)] rfl rfl t ?q2 (by decide) ?q3 ?q4 ?q5 _ rfl ?_)
      case q2=>first | exact ⟨rfl,rfl,rfl,rfl⟩ | trivial | (simp;done) | (refine ⟨?_,?_,?_⟩ <;> rfl) | (intro u hu;simp at hu;rcases hu with rfl | rfl | rfl | rfl <;> rfl)
      case q3=>unfold maxLen;omega
      case q4=>omega
      case q5=>omega
      intro A C k K d V W
      have j:((E.setCell ⟨O.heap.size,2,none⟩ (.int .i64 f)).alloc (.cells #[.int .i64 2,.string ⟨#[]⟩,.int .i64 f,.int .i64 (-1)] 71)).grownBy k (Value.slice Y b.length Z).ownBlock:=⟨d.os,d.tape,d.output,d.size,d.block⟩
      have v:Ao k (w.heap.size+1+1) _ _:=⟨(Ar j _ l.lt (Af l g.P.st (by decide))).trans l.out⟩
      have a7:=v.cell 1
      have a8:=v.frozen 1
      obtain ⟨X,i,D,M⟩:=g.pushS (.cells #[.int .i64 2,.string ⟨#[]⟩,.int .i64 f,.int .i64 (-1)] 71) (by show (⟨#[]⟩:ByteArray).size≤1048576;first | omega | decide) j K
      have aS:=Ab (show LV B H (w.heap.size+1) (w.heap.size+1+1) w.heap.size a n c w (k.setCell ⟨w.heap.size+1+1,1,none⟩ (.slice (some ⟨A,0,none⟩) (b.length+1) C)) from ⟨aD,L,ah,lt,b ++ [⟨2,⟨#[]⟩,f,(-1)⟩],_,X,i,D,by simp;omega,by simp;omega,by simp;omega,M⟩)
      have aT:=Ab (show 14 - BV (((k.setCell ⟨w.heap.size+1+1,1,none⟩ (.slice (some ⟨A,0,none⟩) (b.length+1) C)).cell? ⟨w.heap.size+1+1,1,none⟩).getD undef) < 14 - BV ((wr.cell? ⟨w.heap.size+1+1,1,none⟩).getD undef) by
       have e:(k.setCell ⟨w.heap.size+1+1,1,none⟩ (.slice (some ⟨A,0,none⟩) (b.length+1) C)).cell? ⟨w.heap.size+1+1,1,none⟩=some (.slice (some ⟨A,0,none⟩) (b.length+1) C):=i.row.cell 1
       rw [e,Aa bC]
       show 14 - (b.length+1) < 14 - b.length
       omega)
      clear X i D M v l K d V W j I t g
      go_wp2_with fail
      exact ⟨Aa aS,Aa aT⟩
     ·have dm:(x== 254)=false:=beq_eq_false_iff_ne.2 ch
      clear ch
      go_wp2_with fail
      generalize O.alloc (.cells #[.int .i64 2,.string ⟨#[]⟩,.int .i64 (-1),.int .i64 (-1)] 71)=bp at ab ⊢
      refine (Cz a0 5 (by omega) 1 m nd _ (by omega) (by show m+364≤1000000;omega) ab.G).mono ?_
      rintro r E ⟨⟨f,rfl⟩,aD,ah,a1,a2,ay,az⟩
      have bP:aD≤m+364:=a2
      have ac:=ab.gk ay az
      have g:=ac.set 2 (.int .i64 f) rfl
      obtain ⟨⟨bq,br,bs,bt⟩,aA,-⟩:=ac.cells
      have bu:=aA 2
      clear a1 a2 ay az ab ac aA
      dsimp only
      rcases cS with e1 | e2
      ·have cT:(x % 3== 1)=true:=beq_iff_eq.2 e1
       clear e1
       go_wp2_with fail
       generalize E.setCell ⟨O.heap.size,2,none⟩ (.int .i64 f)=aW at g ⊢
       clear bq br bs bt bu
       refine (Cz a0 4 (by omega) 4 aD ah _ (by omega) (by show aD+121≤1000000;omega) g.G).mono ?_
       rintro r aH ⟨⟨aX,rfl⟩,cW,dr,a1,a2,ay,az⟩
       have dB:cW≤aD+121:=a2
       have ac:=g.gk ay az
       have T:=ac.set 3 (.int .i64 aX) rfl
       obtain ⟨⟨bq,br,bs,bt⟩,aA,-⟩:=ac.cells
       have bu:=aA 3
       clear a1 a2 ay az g ac aA
       dsimp only
       obtain ⟨⟨aq,ar,ae,au⟩,Q,⟨R,S,F⟩,⟨aB,av,z⟩⟩:=T.cells
       have a5:=z 1
       have I:=World.ownsRow.alloc T.P.st (.cells #[.int .i64 2,.string ⟨#[]⟩,.int .i64 f,.int .i64 aX] 71)
       have t:=World.news_of_block (heap_alloc_new (aH.setCell ⟨O.heap.size,3,none⟩ (.int .i64 aX)) (.cells #[.int .i64 2,.string ⟨#[]⟩,.int .i64 f,.int .i64 aX] 71))
       have af:=T.G.lt.1.1
       have a6:B≤aH.heap.size:=by simpa using af
       have J:(aH.setCell ⟨O.heap.size,3,none⟩ (.int .i64 aX)).heap.size=aH.heap.size:=by first | rfl | simp
       rw [J] at t
       clear J
       obtain ⟨ai,aj,ak,al,ao⟩:=info_parts Br
       have l:=T.P.row
       clear Q R S F z
       go_wp2_with (at_builtin;refine wpList_append_lies _ rfl _ _ 47 rfl B 71 ai (.agg #[.int .i64 0,.string ByteArray.empty,.int .i64 0,.int .i64 0]) 4 40 Tryz.underlying47 aj ak al ao rfl (by decide) (.slice Y b.length Z) b.length (Ce b) rfl I.drew ⟨aH.heap.size,0,none⟩ 1 1 [.int .i64 2,.string ⟨#[]⟩,.int .i64 f,.int .i64 aX] rfl rfl t ?q2 (by decide) ?q3 ?q4 ?q5 _ rfl ?_)
       case q2=>first | exact ⟨rfl,rfl,rfl,rfl⟩ | trivial | (simp;done) | (refine ⟨?_,?_,?_⟩ <;> rfl) | (intro u hu;simp at hu;rcases hu with rfl | rfl | rfl | rfl <;> rfl)
       case q3=>unfold maxLen;omega
       case q4=>omega
       case q5=>omega
       intro A C k K d V W
       have j:((aH.setCell ⟨O.heap.size,3,none⟩ (.int .i64 aX)).alloc (.cells #[.int .i64 2,.string ⟨#[]⟩,.int .i64 f,.int .i64 aX] 71)).grownBy k (Value.slice Y b.length Z).ownBlock:=⟨d.os,d.tape,d.output,d.size,d.block⟩
       have v:Ao k (w.heap.size+1+1) _ _:=⟨(Ar j _ l.lt (Af l T.P.st (by decide))).trans l.out⟩
       have a7:=v.cell 1
       have a8:=v.frozen 1
       obtain ⟨X,i,D,M⟩:=T.pushS (.cells #[.int .i64 2,.string ⟨#[]⟩,.int .i64 f,.int .i64 aX] 71) (by show (⟨#[]⟩:ByteArray).size≤1048576;first | omega | decide) j K
       have aS:=Ab (show LV B H (w.heap.size+1) (w.heap.size+1+1) w.heap.size a n c w (k.setCell ⟨w.heap.size+1+1,1,none⟩ (.slice (some ⟨A,0,none⟩) (b.length+1) C)) from ⟨cW,L,dr,lt,b ++ [⟨2,⟨#[]⟩,f,aX⟩],_,X,i,D,by simp;omega,by simp;omega,by simp;omega,M⟩)
       have aT:=Ab (show 14 - BV (((k.setCell ⟨w.heap.size+1+1,1,none⟩ (.slice (some ⟨A,0,none⟩) (b.length+1) C)).cell? ⟨w.heap.size+1+1,1,none⟩).getD undef) < 14 - BV ((wr.cell? ⟨w.heap.size+1+1,1,none⟩).getD undef) by
        have e:(k.setCell ⟨w.heap.size+1+1,1,none⟩ (.slice (some ⟨A,0,none⟩) (b.length+1) C)).cell? ⟨w.heap.size+1+1,1,none⟩=some (.slice (some ⟨A,0,none⟩) (b.length+1) C):=i.row.cell 1
        rw [e,Aa bC]
        show 14 - (b.length+1) < 14 - b.length
        omega)
       clear X i D M v l K d V W j I t T
       go_wp2_with fail
       exact ⟨Aa aS,Aa aT⟩
      ·have cT:(x % 3== 1)=false:=beq_eq_false_iff_ne.2 (by omega)
       clear e2
       obtain ⟨⟨aq,ar,ae,au⟩,Q,⟨R,S,F⟩,⟨aB,av,z⟩⟩:=g.cells
       have a5:=z 1
       have I:=World.ownsRow.alloc g.P.st (.cells #[.int .i64 2,.string ⟨#[]⟩,.int .i64 f,.int .i64 (-1)] 71)
       have t:=World.news_of_block (heap_alloc_new (E.setCell ⟨O.heap.size,2,none⟩ (.int .i64 f)) (.cells #[.int .i64 2,.string ⟨#[]⟩,.int .i64 f,.int .i64 (-1)] 71))
       have af:=g.G.lt.1.1
       have a6:B≤E.heap.size:=by simpa using af
       have J:(E.setCell ⟨O.heap.size,2,none⟩ (.int .i64 f)).heap.size=E.heap.size:=by first | rfl | simp
       rw [J] at t
       clear J
       obtain ⟨ai,aj,ak,al,ao⟩:=info_parts Br
       have l:=g.P.row
       clear Q R S F z
       go_wp2_with (at_builtin;refine wpList_append_lies _ rfl _ _ 47 rfl B 71 ai (.agg #[.int .i64 0,.string ByteArray.empty,.int .i64 0,.int .i64 0]) 4 40 Tryz.underlying47 aj ak al ao rfl (by decide) (.slice Y b.length Z) b.length (Ce b) rfl I.drew ⟨E.heap.size,0,none⟩ 1 1 [.int .i64 2,.string ⟨#[]⟩,.int .i64 f,.int .i64 (-1)] rfl rfl t ?q2 (by decide) ?q3 ?q4 ?q5 _ rfl ?_)
       case q2=>first | exact ⟨rfl,rfl,rfl,rfl⟩ | trivial | (simp;done) | (refine ⟨?_,?_,?_⟩ <;> rfl) | (intro u hu;simp at hu;rcases hu with rfl | rfl | rfl | rfl <;> rfl)
       case q3=>unfold maxLen;omega
       case q4=>omega
       case q5=>omega
       intro A C k K d V W
       have j:((E.setCell ⟨O.heap.size,2,none⟩ (.int .i64 f)).alloc (.cells #[.int .i64 2,.string ⟨#[]⟩,.int .i64 f,.int .i64 (-1)] 71)).grownBy k (Value.slice Y b.length Z).ownBlock:=⟨d.os,d.tape,d.output,d.size,d.block⟩
       have v:Ao k (w.heap.size+1+1) _ _:=⟨(Ar j _ l.lt (Af l g.P.st (by decide))).trans l.out⟩
       have a7:=v.cell 1
       have a8:=v.frozen 1
       obtain ⟨X,i,D,M⟩:=g.pushS (.cells #[.int .i64 2,.string ⟨#[]⟩,.int .i64 f,.int .i64 (-1)] 71) (by show (⟨#[]⟩:ByteArray).size≤1048576;first | omega | decide) j K
       have aS:=Ab (show LV B H (w.heap.size+1) (w.heap.size+1+1) w.heap.size a n c w (k.setCell ⟨w.heap.size+1+1,1,none⟩ (.slice (some ⟨A,0,none⟩) (b.length+1) C)) from ⟨aD,L,ah,lt,b ++ [⟨2,⟨#[]⟩,f,(-1)⟩],_,X,i,D,by simp;omega,by simp;omega,by simp;omega,M⟩)
       have aT:=Ab (show 14 - BV (((k.setCell ⟨w.heap.size+1+1,1,none⟩ (.slice (some ⟨A,0,none⟩) (b.length+1) C)).cell? ⟨w.heap.size+1+1,1,none⟩).getD undef) < 14 - BV ((wr.cell? ⟨w.heap.size+1+1,1,none⟩).getD undef) by
        have e:(k.setCell ⟨w.heap.size+1+1,1,none⟩ (.slice (some ⟨A,0,none⟩) (b.length+1) C)).cell? ⟨w.heap.size+1+1,1,none⟩=some (.slice (some ⟨A,0,none⟩) (b.length+1) C):=i.row.cell 1
        rw [e,Aa bC]
        show 14 - (b.length+1) < 14 - b.length
        omega)
       clear X i D M v l K d V W j I t g
       go_wp2_with fail
       exact ⟨Aa aS,Aa aT⟩
   ·have dC: ¬ ((4 :Int) < y):=hy
    have a0:L.length≤100:=by omega
    have aa:=(Below.refl aM.heap.size aM).alloc (Nat.le_refl _) (.cells #[.int .i64 3,.string ⟨#[]⟩,.int .i64 (-1),.int .i64 (-1)] 71)
    have ab:E6 B H (w.heap.size+1) (w.heap.size+1+1) w.heap.size aM.heap.size a n c m L nd lt b (.slice Y b.length Z) (.int .i64 3) (.string ⟨#[]⟩) (.int .i64 (-1)) (.int .i64 (-1)) w (aM.alloc (.cells #[.int .i64 3,.string ⟨#[]⟩,.int .i64 (-1),.int .i64 (-1)] 71)):=
     ⟨aN.below aa,bO.below aa,ca.after aa (Nat.le_refl _),Ao.new aM _ _,cb.trans (aa.mono aN.lt.1.1),⟨fun e=>by have:=(bO.st.lt _ e).2;omega,aN.lt.1.1,by omega,by omega⟩⟩
    clear aN bO ca cb aa
    go_wp2_with fail
    clear b9
    generalize aM.alloc (.cells #[.int .i64 3,.string ⟨#[]⟩,.int .i64 (-1),.int .i64 (-1)] 71)=bp at ab ⊢
    refine (AK H a n c bp ab.G.lt.2.2).mono ?_
    rintro r aI ⟨x,rfl,co,cp,bl,bm⟩
    have aE:=ab.touch bm bl
    clear ab bm bl
    dsimp only
    by_cases h0: 0 < x % 3
    ·go_wp2_with fail
     refine (Cz a0 3 (by omega) 4 m nd _ (by omega) (by show m+40≤1000000;omega) aE.G).mono ?_
     rintro r E ⟨⟨f,rfl⟩,aD,ah,a1,a2,ay,az⟩
     have bP:aD≤m+40:=a2
     have ac:=aE.gk ay az
     have g:=ac.set 3 (.int .i64 f) rfl
     obtain ⟨⟨bq,br,bs,bt⟩,aA,-⟩:=ac.cells
     have bu:=aA 3
     clear a1 a2 ay az aE ac aA
     dsimp only
     obtain ⟨bJ,bK,aw,ax,bL,aK,a4,-⟩:=g.G.cells
     obtain ⟨⟨aq,ar,ae,au⟩,Q,⟨R,S,F⟩,⟨aB,av,z⟩⟩:=g.cells
     have a5:=z 1
     have I:=World.ownsRow.alloc g.P.st (.cells #[.int .i64 3,.string ⟨#[]⟩,.int .i64 (-1),.int .i64 f] 71)
     have t:=World.news_of_block (heap_alloc_new (E.setCell ⟨aM.heap.size,3,none⟩ (.int .i64 f)) (.cells #[.int .i64 3,.string ⟨#[]⟩,.int .i64 (-1),.int .i64 f] 71))
     have af:=g.G.lt.1.1
     have a6:B≤E.heap.size:=by simpa using af
     have J:(E.setCell ⟨aM.heap.size,3,none⟩ (.int .i64 f)).heap.size=E.heap.size:=by first | rfl | simp
     rw [J] at t
     clear J
     obtain ⟨ai,aj,ak,al,ao⟩:=info_parts Br
     have l:=g.P.row
     clear Q R S F z
     go_wp2_with (at_builtin;refine wpList_append_lies _ rfl _ _ 47 rfl B 71 ai (.agg #[.int .i64 0,.string ByteArray.empty,.int .i64 0,.int .i64 0]) 4 40 Tryz.underlying47 aj ak al ao rfl (by decide) (.slice Y b.length Z) b.length (Ce b) rfl I.drew ⟨E.heap.size,0,none⟩ 1 1 [.int .i64 3,.string ⟨#[]⟩,.int .i64 (-1),.int .i64 f] rfl rfl t ?q2 (by decide) ?q3 ?q4 ?q5 _ rfl ?_)
     case q2=>first | exact ⟨rfl,rfl,rfl,rfl⟩ | trivial | (simp;done) | (refine ⟨?_,?_,?_⟩ <;> rfl) | (intro u hu;simp at hu;rcases hu with rfl | rfl | rfl | rfl <;> rfl)
     case q3=>unfold maxLen;omega
     case q4=>omega
     case q5=>omega
     intro A C k K d V W
     have j:((E.setCell ⟨aM.heap.size,3,none⟩ (.int .i64 f)).alloc (.cells #[.int .i64 3,.string ⟨#[]⟩,.int .i64 (-1),.int .i64 f] 71)).grownBy k (Value.slice Y b.length Z).ownBlock:=⟨d.os,d.tape,d.output,d.size,d.block⟩
     have v:Ao k (w.heap.size+1+1) _ _:=⟨(Ar j _ l.lt (Af l g.P.st (by decide))).trans l.out⟩
     have a7:=v.cell 1
     have a8:=v.frozen 1
     obtain ⟨X,i,D,M⟩:=g.pushS (.cells #[.int .i64 3,.string ⟨#[]⟩,.int .i64 (-1),.int .i64 f] 71) (by decide) j K
     clear v l K d V W j I t g
     obtain ⟨N,aY,aZ,cw,ap,aU⟩:=X
     have aL:=Ab aU
     clear aU
     have cx:(k.setCell ⟨w.heap.size+1+1,1,none⟩ (.slice (some ⟨A,0,none⟩) (b.length+1) C)).cell? ⟨w.heap.size+1,1,none⟩=some ah:=ap.row.cell 1
     have aF:=i.row.set 0 ah
     have bE:=i.row.cell 0
     have bF:=i.row.cell 1
     have cy:=i.row.frozen 0
     have ad:=D.setFar (p:=⟨w.heap.size+1+1,0,none⟩) (by simp;omega) ah
     have bG:=aF.cell 0
     have bH:=aF.cell 1
     have ci:=ad.cell 0
     have cj:=ad.cell 1
     have cz:=ad.frozen 0
     have cA:=ad.frozen 1
     have bw:=Ab (EP ap i D M (by omega) (by omega))
     have aG:=Ab (And.intro ap.good.1 (And.intro i.good (show N.length≤20000 from by rw [Aa aL];omega)))
     clear ap i D M aF ad
     subst aK
     go_wp2_with fail
     obtain ⟨bx,bz,aV,bA⟩:=Aa bw
     exact bodyPost_ret (Gu Tryz.results15 rfl bx) rfl ⟨⟨_,_,N,_,aY,aZ,rfl,bz,by rw [List.length_append] at aV ⊢;exact aV,(Aa aG).1,(Aa aG).2.1,(Aa aG).2.2,by simp;omega⟩,bA⟩
    ·skip
     have g:=aE
     have bP:m≤m+40:=by omega
     clear aE
     obtain ⟨bJ,bK,aw,ax,bL,aK,a4,-⟩:=g.G.cells
     obtain ⟨⟨aq,ar,ae,au⟩,Q,⟨R,S,F⟩,⟨aB,av,z⟩⟩:=g.cells
     have a5:=z 1
     have I:=World.ownsRow.alloc g.P.st (.cells #[.int .i64 3,.string ⟨#[]⟩,.int .i64 (-1),.int .i64 (-1)] 71)
     have t:=World.news_of_block (heap_alloc_new aI (.cells #[.int .i64 3,.string ⟨#[]⟩,.int .i64 (-1),.int .i64 (-1)] 71))
     have af:=g.G.lt.1.1
     have a6:B≤aI.heap.size:=by simpa using af
     have J:aI.heap.size=aI.heap.size:=by first | rfl | simp
     rw [J] at t
     clear J
     obtain ⟨ai,aj,ak,al,ao⟩:=info_parts Br
     have l:=g.P.row
     clear Q R S F z
     go_wp2_with (at_builtin;refine wpList_append_lies _ rfl _ _ 47 rfl B 71 ai (.agg #[.int .i64 0,.string ByteArray.empty,.int .i64 0,.int .i64 0]) 4 40 Tryz.underlying47 aj ak al ao rfl (by decide) (.slice Y b.length Z) b.length (Ce b) rfl I.drew ⟨aI.heap.size,0,none⟩ 1 1 [.int .i64 3,.string ⟨#[]⟩,.int .i64 (-1),.int .i64 (-1)] rfl rfl t ?q2 (by decide) ?q3 ?q4 ?q5 _ rfl ?_)
     case q2=>first | exact ⟨rfl,rfl,rfl,rfl⟩ | trivial | (simp;done) | (refine ⟨?_,?_,?_⟩ <;> rfl) | (intro u hu;simp at hu;rcases hu with rfl | rfl | rfl | rfl <;> rfl)
     case q3=>unfold maxLen;omega
     case q4=>omega
     case q5=>omega
     intro A C k K d V W
     have j:(aI.alloc (.cells #[.int .i64 3,.string ⟨#[]⟩,.int .i64 (-1),.int .i64 (-1)] 71)).grownBy k (Value.slice Y b.length Z).ownBlock:=⟨d.os,d.tape,d.output,d.size,d.block⟩
     have v:Ao k (w.heap.size+1+1) _ _:=⟨(Ar j _ l.lt (Af l g.P.st (by decide))).trans l.out⟩
     have a7:=v.cell 1
     have a8:=v.frozen 1
     obtain ⟨X,i,D,M⟩:=g.pushS (.cells #[.int .i64 3,.string ⟨#[]⟩,.int .i64 (-1),.int .i64 (-1)] 71) (by decide) j K
     clear v l K d V W j I t g
     obtain ⟨N,aY,aZ,cw,ap,aU⟩:=X
     have aL:=Ab aU
     clear aU
     have cx:(k.setCell ⟨w.heap.size+1+1,1,none⟩ (.slice (some ⟨A,0,none⟩) (b.length+1) C)).cell? ⟨w.heap.size+1,1,none⟩=some nd:=ap.row.cell 1
     have aF:=i.row.set 0 nd
     have bE:=i.row.cell 0
     have bF:=i.row.cell 1
     have cy:=i.row.frozen 0
     have ad:=D.setFar (p:=⟨w.heap.size+1+1,0,none⟩) (by simp;omega) nd
     have bG:=aF.cell 0
     have bH:=aF.cell 1
     have ci:=ad.cell 0
     have cj:=ad.cell 1
     have cz:=ad.frozen 0
     have cA:=ad.frozen 1
     have bw:=Ab (EP ap i D M (by omega) (by omega))
     have aG:=Ab (And.intro ap.good.1 (And.intro i.good (show N.length≤20000 from by rw [Aa aL];omega)))
     clear ap i D M aF ad
     subst aK
     go_wp2_with fail
     obtain ⟨bx,bz,aV,bA⟩:=Aa bw
     exact bodyPost_ret (Gu Tryz.results15 rfl bx) rfl ⟨⟨_,_,N,_,aY,aZ,rfl,bz,by rw [List.length_append] at aV ⊢;exact aV,(Aa aG).1,(Aa aG).2.1,(Aa aG).2.2,by simp;omega⟩,bA⟩
  ·have c0: ¬ ((b.length:Int) < 14):=by omega
   have a0:L.length≤100:=by omega
   have aa:=(Below.refl wr.heap.size wr).alloc (Nat.le_refl _) (.cells #[.int .i64 3,.string ⟨#[]⟩,.int .i64 (-1),.int .i64 (-1)] 71)
   have ab:E6 B H (w.heap.size+1) (w.heap.size+1+1) w.heap.size wr.heap.size a n c m L nd lt b (.slice Y b.length Z) (.int .i64 3) (.string ⟨#[]⟩) (.int .i64 (-1)) (.int .i64 (-1)) w (wr.alloc (.cells #[.int .i64 3,.string ⟨#[]⟩,.int .i64 (-1),.int .i64 (-1)] 71)):=
    ⟨ba.below aa,bn.below aa,b7.after aa (Nat.le_refl _),Ao.new wr _ _,b8.trans (aa.mono ba.lt.1.1),⟨fun e=>by have:=(bn.st.lt _ e).2;omega,ba.lt.1.1,by omega,by omega⟩⟩
   clear ba bn b7 b8 aa
   go_wp2_with fail
   clear b9
   generalize wr.alloc (.cells #[.int .i64 3,.string ⟨#[]⟩,.int .i64 (-1),.int .i64 (-1)] 71)=bp at ab ⊢
   refine (AK H a n c bp ab.G.lt.2.2).mono ?_
   rintro r aI ⟨x,rfl,co,cp,bl,bm⟩
   have aE:=ab.touch bm bl
   clear ab bm bl
   dsimp only
   by_cases h0: 0 < x % 3
   ·go_wp2_with fail
    refine (Cz a0 3 (by omega) 4 m nd _ (by omega) (by show m+40≤1000000;omega) aE.G).mono ?_
    rintro r E ⟨⟨f,rfl⟩,aD,ah,a1,a2,ay,az⟩
    have bP:aD≤m+40:=a2
    have ac:=aE.gk ay az
    have g:=ac.set 3 (.int .i64 f) rfl
    obtain ⟨⟨bq,br,bs,bt⟩,aA,-⟩:=ac.cells
    have bu:=aA 3
    clear a1 a2 ay az aE ac aA
    dsimp only
    obtain ⟨bJ,bK,aw,ax,bL,aK,a4,-⟩:=g.G.cells
    obtain ⟨⟨aq,ar,ae,au⟩,Q,⟨R,S,F⟩,⟨aB,av,z⟩⟩:=g.cells
    have a5:=z 1
    have I:=World.ownsRow.alloc g.P.st (.cells #[.int .i64 3,.string ⟨#[]⟩,.int .i64 (-1),.int .i64 f] 71)
    have t:=World.news_of_block (heap_alloc_new (E.setCell ⟨wr.heap.size,3,none⟩ (.int .i64 f)) (.cells #[.int .i64 3,.string ⟨#[]⟩,.int .i64 (-1),.int .i64 f] 71))
    have af:=g.G.lt.1.1
    have a6:B≤E.heap.size:=by simpa using af
    have J:(E.setCell ⟨wr.heap.size,3,none⟩ (.int .i64 f)).heap.size=E.heap.size:=by first | rfl | simp
    rw [J] at t
    clear J
    obtain ⟨ai,aj,ak,al,ao⟩:=info_parts Br
    have l:=g.P.row
    clear Q R S F z
    go_wp2_with (at_builtin;refine wpList_append_lies _ rfl _ _ 47 rfl B 71 ai (.agg #[.int .i64 0,.string ByteArray.empty,.int .i64 0,.int .i64 0]) 4 40 Tryz.underlying47 aj ak al ao rfl (by decide) (.slice Y b.length Z) b.length (Ce b) rfl I.drew ⟨E.heap.size,0,none⟩ 1 1 [.int .i64 3,.string ⟨#[]⟩,.int .i64 (-1),.int .i64 f] rfl rfl t ?q2 (by decide) ?q3 ?q4 ?q5 _ rfl ?_)
    case q2=>first | exact ⟨rfl,rfl,rfl,rfl⟩ | trivial | (simp;done) | (refine ⟨?_,?_,?_⟩ <;> rfl) | (intro u hu;simp at hu;rcases hu with rfl | rfl | rfl | rfl <;> rfl)
    case q3=>unfold maxLen;omega
    case q4=>omega
    case q5=>omega
    intro A C k K d V W
    have j:((E.setCell ⟨wr.heap.size,3,none⟩ (.int .i64 f)).alloc (.cells #[.int .i64 3,.string ⟨#[]⟩,.int .i64 (-1),.int .i64 f] 71)).grownBy k (Value.slice Y b.length Z).ownBlock:=⟨d.os,d.tape,d.output,d.size,d.block⟩
    have v:Ao k (w.heap.size+1+1) _ _:=⟨(Ar j _ l.lt (Af l g.P.st (by decide))).trans l.out⟩
    have a7:=v.cell 1
    have a8:=v.frozen 1
    obtain ⟨X,i,D,M⟩:=g.pushS (.cells #[.int .i64 3,.string ⟨#[]⟩,.int .i64 (-1),.int .i64 f] 71) (by decide) j K
    clear v l K d V W j I t g
    obtain ⟨N,aY,aZ,cw,ap,aU⟩:=X
    have aL:=Ab aU
    clear aU
    have cx:(k.setCell ⟨w.heap.size+1+1,1,none⟩ (.slice (some ⟨A,0,none⟩) (b.length+1) C)).cell? ⟨w.heap.size+1,1,none⟩=some ah:=ap.row.cell 1
    have aF:=i.row.set 0 ah
    have bE:=i.row.cell 0
    have bF:=i.row.cell 1
    have cy:=i.row.frozen 0
    have ad:=D.setFar (p:=⟨w.heap.size+1+1,0,none⟩) (by simp;omega) ah
    have bG:=aF.cell 0
    have bH:=aF.cell 1
    have ci:=ad.cell 0
    have cj:=ad.cell 1
    have cz:=ad.frozen 0
    have cA:=ad.frozen 1
    have bw:=Ab (EP ap i D M (by omega) (by omega))
    have aG:=Ab (And.intro ap.good.1 (And.intro i.good (show N.length≤20000 from by rw [Aa aL];omega)))
    clear ap i D M aF ad
    subst aK
    go_wp2_with fail
    obtain ⟨bx,bz,aV,bA⟩:=Aa bw
    exact bodyPost_ret (Gu Tryz.results15 rfl bx) rfl ⟨⟨_,_,N,_,aY,aZ,rfl,bz,by rw [List.length_append] at aV ⊢;exact aV,(Aa aG).1,(Aa aG).2.1,(Aa aG).2.2,by simp;omega⟩,bA⟩
   ·skip
    have g:=aE
    have bP:m≤m+40:=by omega
    clear aE
    obtain ⟨bJ,bK,aw,ax,bL,aK,a4,-⟩:=g.G.cells
    obtain ⟨⟨aq,ar,ae,au⟩,Q,⟨R,S,F⟩,⟨aB,av,z⟩⟩:=g.cells
    have a5:=z 1
    have I:=World.ownsRow.alloc g.P.st (.cells #[.int .i64 3,.string ⟨#[]⟩,.int .i64 (-1),.int .i64 (-1)] 71)
    have t:=World.news_of_block (heap_alloc_new aI (.cells #[.int .i64 3,.string ⟨#[]⟩,.int .i64 (-1),.int .i64 (-1)] 71))
    have af:=g.G.lt.1.1
    have a6:B≤aI.heap.size:=by simpa using af
    have J:aI.heap.size=aI.heap.size:=by first | rfl | simp
    rw [J] at t
    clear J
    obtain ⟨ai,aj,ak,al,ao⟩:=info_parts Br
    have l:=g.P.row
    clear Q R S F z
    go_wp2_with (at_builtin;refine wpList_append_lies _ rfl _ _ 47 rfl B 71 ai (.agg #[.int .i64 0,.string ByteArray.empty,.int .i64 0,.int .i64 0]) 4 40 Tryz.underlying47 aj ak al ao rfl (by decide) (.slice Y b.length Z) b.length (Ce b) rfl I.drew ⟨aI.heap.size,0,none⟩ 1 1 [.int .i64 3,.string ⟨#[]⟩,.int .i64 (-1),.int .i64 (-1)] rfl rfl t ?q2 (by decide) ?q3 ?q4 ?q5 _ rfl ?_)
    case q2=>first | exact ⟨rfl,rfl,rfl,rfl⟩ | trivial | (simp;done) | (refine ⟨?_,?_,?_⟩ <;> rfl) | (intro u hu;simp at hu;rcases hu with rfl | rfl | rfl | rfl <;> rfl)
    case q3=>unfold maxLen;omega
    case q4=>omega
    case q5=>omega
    intro A C k K d V W
    have j:(aI.alloc (.cells #[.int .i64 3,.string ⟨#[]⟩,.int .i64 (-1),.int .i64 (-1)] 71)).grownBy k (Value.slice Y b.length Z).ownBlock:=⟨d.os,d.tape,d.output,d.size,d.block⟩
    have v:Ao k (w.heap.size+1+1) _ _:=⟨(Ar j _ l.lt (Af l g.P.st (by decide))).trans l.out⟩
    have a7:=v.cell 1
    have a8:=v.frozen 1
    obtain ⟨X,i,D,M⟩:=g.pushS (.cells #[.int .i64 3,.string ⟨#[]⟩,.int .i64 (-1),.int .i64 (-1)] 71) (by decide) j K
    clear v l K d V W j I t g
    obtain ⟨N,aY,aZ,cw,ap,aU⟩:=X
    have aL:=Ab aU
    clear aU
    have cx:(k.setCell ⟨w.heap.size+1+1,1,none⟩ (.slice (some ⟨A,0,none⟩) (b.length+1) C)).cell? ⟨w.heap.size+1,1,none⟩=some nd:=ap.row.cell 1
    have aF:=i.row.set 0 nd
    have bE:=i.row.cell 0
    have bF:=i.row.cell 1
    have cy:=i.row.frozen 0
    have ad:=D.setFar (p:=⟨w.heap.size+1+1,0,none⟩) (by simp;omega) nd
    have bG:=aF.cell 0
    have bH:=aF.cell 1
    have ci:=ad.cell 0
    have cj:=ad.cell 1
    have cz:=ad.frozen 0
    have cA:=ad.frozen 1
    have bw:=Ab (EP ap i D M (by omega) (by omega))
    have aG:=Ab (And.intro ap.good.1 (And.intro i.good (show N.length≤20000 from by rw [Aa aL];omega)))
    clear ap i D M aF ad
    subst aK
    go_wp2_with fail
    obtain ⟨bx,bz,aV,bA⟩:=Aa bw
    exact bodyPost_ret (Gu Tryz.results15 rfl bx) rfl ⟨⟨_,_,N,_,aY,aZ,rfl,bz,by rw [List.length_append] at aV ⊢;exact aV,(Aa aG).1,(Aa aG).2.1,(Aa aG).2.2,by simp;omega⟩,bA⟩
end Go.Proofs.YtcpdodmoheebaaaGreatDoor
