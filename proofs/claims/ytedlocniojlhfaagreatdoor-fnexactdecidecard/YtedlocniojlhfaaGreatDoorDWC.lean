/-
  The model's decision. Own work.
-/
import Derived.Test.YtedlocniojlhfaaGreatDoorMXAU
namespace Go.Proofs.YtedlocniojlhfaaGreatDoor
set_option maxRecDepth 100000
set_option maxHeartbeats 6400000
open Go.RowKit
set_option linter.unusedVariables false

theorem dec_gerr_else (a:Option Addr) (n c b off m d:Nat) (e:Option Addr) (k2 f k:Nat) (hkm:k<m) (hm:m≤1048576) (R:Rq) (a1:Option Addr) (n1 c1:Nat) (a2:Option Addr) (n2 c2:Nat) (la:Option Addr) (ln lc:Nat) (w:World) (hb:b<w.heap.size) (nmS:ByteArray) (cnd:Int) (B:Nat) (row:Option Nat) (j:Nat) (s0:w.cell? ⟨b,off+k*4,none⟩=some (.int .i64 3)) (s1:w.cell? ⟨b,off+k*4+1,none⟩=some (.string nmS)) (s2:w.cell? ⟨b,off+k*4+2,none⟩=some (.int .i64 cnd)) (s3:w.cell? ⟨b,off+k*4+3,none⟩=some (.int .i64 j)) (er:Int) (h2:∀ w2,Below w.heap.size w w2→Calls Tryz.prog 49 #[.slice a n c,.int .i64 j,.agg #[.string R.cl,.string R.us,.int .i64 R.lv,.int .i64 R.nw,.slice a1 n1 c1,.slice a2 n2 c2],.slice la ln lc] w2 (MAns (.err er) w2)) :
  Calls Tryz.prog 23 #[.agg #[.slice a n c,.slice (some ⟨b,off,none⟩) m d,.slice e k2 f],.int .i64 k,.agg #[.string R.cl,.string R.us,.int .i64 R.lv,.int .i64 R.nw,.slice a1 n1 c1,.slice a2 n2 c2],.slice la ln lc] w (OcG B row (3,er,[]) w):=by
 have B3:=(((Below.refl w.heap.size w).alloc nl (.cells #[.slice a n c,.slice (some ⟨b,off,none⟩) m d,.slice e k2 f] 38)).alloc (by simp) (.cells #[.string R.cl,.string R.us,.int .i64 R.lv,.int .i64 R.nw,.slice a1 n1 c1,.slice a2 n2 c2] 40)).alloc (by simp;omega) (.cells #[.int .i64 0,.int .i64 0,.slice none 0 0] 33)
 have d0:=(B3.cell (p:=⟨b,off+k*4,none⟩) hb).trans s0
 have d1:=(B3.cell (p:=⟨b,off+k*4+1,none⟩) hb).trans s1
 have d2:=(B3.cell (p:=⟨b,off+k*4+2,none⟩) hb).trans s2
 have d3:=(B3.cell (p:=⟨b,off+k*4+3,none⟩) hb).trans s3
 have B4:=B3.alloc B3.size (.cells #[.int .i64 3,.string nmS,.int .i64 cnd,.int .i64 j] 94)
 have RT:=(((Row.new w #[.slice a n c,.slice (some ⟨b,off,none⟩) m d,.slice e k2 f] 38).alloc (.cells #[.string R.cl,.string R.us,.int .i64 R.lv,.int .i64 R.nw,.slice a1 n1 c1,.slice a2 n2 c2] 40)).alloc (.cells #[.int .i64 0,.int .i64 0,.slice none 0 0] 33)).alloc (.cells #[.int .i64 3,.string nmS,.int .i64 cnd,.int .i64 j] 94)
 have RR:=((Row.new (w.alloc (.cells #[.slice a n c,.slice (some ⟨b,off,none⟩) m d,.slice e k2 f] 38)) #[.string R.cl,.string R.us,.int .i64 R.lv,.int .i64 R.nw,.slice a1 n1 c1,.slice a2 n2 c2] 40).alloc (.cells #[.int .i64 0,.int .i64 0,.slice none 0 0] 33)).alloc (.cells #[.int .i64 3,.string nmS,.int .i64 cnd,.int .i64 j] 94)
 have RO:=(Row.new ((w.alloc (.cells #[.slice a n c,.slice (some ⟨b,off,none⟩) m d,.slice e k2 f] 38)).alloc (.cells #[.string R.cl,.string R.us,.int .i64 R.lv,.int .i64 R.nw,.slice a1 n1 c1,.slice a2 n2 c2] 40)) #[.int .i64 0,.int .i64 0,.slice none 0 0] 33).alloc (.cells #[.int .i64 3,.string nmS,.int .i64 cnd,.int .i64 j] 94)
 have RS:=Row.new (((w.alloc (.cells #[.slice a n c,.slice (some ⟨b,off,none⟩) m d,.slice e k2 f] 38)).alloc (.cells #[.string R.cl,.string R.us,.int .i64 R.lv,.int .i64 R.nw,.slice a1 n1 c1,.slice a2 n2 c2] 40)).alloc (.cells #[.int .i64 0,.int .i64 0,.slice none 0 0] 33)) #[.int .i64 3,.string nmS,.int .i64 cnd,.int .i64 j] 94
 simp only [World.size_alloc] at RR RO RS
 have kin:(k:Int)<(m:Int):=by omega
 have HG:=hide h2
 clear s0 s1 s2 s3 h2
 go_enter Tryz.func23,Tryz.ntmps23
 go_wp2_with fail
 generalize ((((w.alloc (.cells #[.slice a n c,.slice (some ⟨b,off,none⟩) m d,.slice e k2 f] 38)).alloc (.cells #[.string R.cl,.string R.us,.int .i64 R.lv,.int .i64 R.nw,.slice a1 n1 c1,.slice a2 n2 c2] 40)).alloc (.cells #[.int .i64 0,.int .i64 0,.slice none 0 0] 33)).alloc (.cells #[.int .i64 3,.string nmS,.int .i64 cnd,.int .i64 j] 94))=X at *
 have HB:=hide B4
 have LX:=hide (show w.heap.size+1+1+1<X.heap.size from RS.lt)
 clear B3 B4 d0 d1 d2 d3 hb kin hkm hm
 obtain ⟨y0,y1,y2,y3⟩:=row4V RS
 obtain ⟨m0,m1,m2⟩:=rowT3 RT
 obtain ⟨r0,r1,r2,r3,r4,r5⟩:=row6D RR
 have jn:¬ ((j:Int)<0):=by omega
 go_wp2_with fail
 refine (uh HG _ (uh HB)).mono ?_
 rintro r w6 ⟨⟨cd,nmg,txg,xag,xng,xcg,rfl,rfl,hceg⟩,hb4⟩
 have C5:=(Below.refl w6.heap.size w6).alloc nl (.cells #[.int .i64 cd,.int .i64 nmg,.string txg,.slice xag xng xcg] 96)
 have C4:=hb4.trans (C5.mono hb4.size)
 have RFg:=Row.new w6 #[.int .i64 cd,.int .i64 nmg,.string txg,.slice xag xng xcg] 96
 replace RT:=RT.after C4 nl
 replace RR:=RR.after C4 nl
 replace RO:=RO.after C4 nl
 replace RS:=RS.after C4 nl
 replace HB:=hide ((uh HB).trans (C4.mono (uh HB).size))
 clear hb4 C5 C4 HG
 obtain ⟨x0,x1,x2,x3⟩:=row4V RFg
 obtain ⟨o0,o1,o2⟩:=rowT3 RO
 have of:=fun j=>RO.frozen j
 obtain ⟨p0,p1,p2⟩:=rowT3 (((RO.set 0 (.int .i64 3)).set 1 (.int .i64 cd)).set 2 (.slice none 0 0))
 have HBE:=hide ((((uh HB).setCell (p:=⟨w.heap.size+1+1,0,none⟩) (by simp;omega) (.int .i64 3)).setCell (p:=⟨w.heap.size+1+1,1,none⟩) (by simp;omega) (.int .i64 cd)).setCell (p:=⟨w.heap.size+1+1,2,none⟩) (by simp;omega) (.slice none 0 0))
 clear RT RR RO HB
 try dsimp only
 go_wp2_with fail
 exact bodyPost_ret (v:=.agg #[.int .i64 3,.int .i64 cd,.slice none 0 0]) (by simp [results,Tryz.results23,go_sem,p0,p1,p2]) rfl ⟨⟨none,0,rfl,World.ownsRow_nil _ _ _ _⟩,grown_of (uh HBE) _,Nat.zero_le _,fun j h=>absurd h (Nat.not_lt_zero _)⟩

theorem dec_gerr_when (a:Option Addr) (n c b off m d:Nat) (e:Option Addr) (k2 f k:Nat) (hkm:k<m) (hm:m≤1048576) (R:Rq) (a1:Option Addr) (n1 c1:Nat) (a2:Option Addr) (n2 c2:Nat) (la:Option Addr) (ln lc:Nat) (w:World) (hb:b<w.heap.size) (nmS:ByteArray) (B:Nat) (row:Option Nat) (j:Nat) (i:Nat) (s0:w.cell? ⟨b,off+k*4,none⟩=some (.int .i64 2)) (s1:w.cell? ⟨b,off+k*4+1,none⟩=some (.string nmS)) (s2:w.cell? ⟨b,off+k*4+2,none⟩=some (.int .i64 i)) (s3:w.cell? ⟨b,off+k*4+3,none⟩=some (.int .i64 j)) (er:Int) (h2:∀ w2,Below w.heap.size w w2→Calls Tryz.prog 49 #[.slice a n c,.int .i64 j,.agg #[.string R.cl,.string R.us,.int .i64 R.lv,.int .i64 R.nw,.slice a1 n1 c1,.slice a2 n2 c2],.slice la ln lc] w2 (MAns (.err er) w2)) (h1:∀ w2,Below w.heap.size w w2→Calls Tryz.prog 49 #[.slice a n c,.int .i64 i,.agg #[.string R.cl,.string R.us,.int .i64 R.lv,.int .i64 R.nw,.slice a1 n1 c1,.slice a2 n2 c2],.slice la ln lc] w2 (MAns (.ok (.bool true)) w2)) :
  Calls Tryz.prog 23 #[.agg #[.slice a n c,.slice (some ⟨b,off,none⟩) m d,.slice e k2 f],.int .i64 k,.agg #[.string R.cl,.string R.us,.int .i64 R.lv,.int .i64 R.nw,.slice a1 n1 c1,.slice a2 n2 c2],.slice la ln lc] w (OcG B row (3,er,[]) w):=by
 have B3:=(((Below.refl w.heap.size w).alloc nl (.cells #[.slice a n c,.slice (some ⟨b,off,none⟩) m d,.slice e k2 f] 38)).alloc (by simp) (.cells #[.string R.cl,.string R.us,.int .i64 R.lv,.int .i64 R.nw,.slice a1 n1 c1,.slice a2 n2 c2] 40)).alloc (by simp;omega) (.cells #[.int .i64 0,.int .i64 0,.slice none 0 0] 33)
 have d0:=(B3.cell (p:=⟨b,off+k*4,none⟩) hb).trans s0
 have d1:=(B3.cell (p:=⟨b,off+k*4+1,none⟩) hb).trans s1
 have d2:=(B3.cell (p:=⟨b,off+k*4+2,none⟩) hb).trans s2
 have d3:=(B3.cell (p:=⟨b,off+k*4+3,none⟩) hb).trans s3
 have B4:=B3.alloc B3.size (.cells #[.int .i64 2,.string nmS,.int .i64 i,.int .i64 j] 94)
 have RT:=(((Row.new w #[.slice a n c,.slice (some ⟨b,off,none⟩) m d,.slice e k2 f] 38).alloc (.cells #[.string R.cl,.string R.us,.int .i64 R.lv,.int .i64 R.nw,.slice a1 n1 c1,.slice a2 n2 c2] 40)).alloc (.cells #[.int .i64 0,.int .i64 0,.slice none 0 0] 33)).alloc (.cells #[.int .i64 2,.string nmS,.int .i64 i,.int .i64 j] 94)
 have RR:=((Row.new (w.alloc (.cells #[.slice a n c,.slice (some ⟨b,off,none⟩) m d,.slice e k2 f] 38)) #[.string R.cl,.string R.us,.int .i64 R.lv,.int .i64 R.nw,.slice a1 n1 c1,.slice a2 n2 c2] 40).alloc (.cells #[.int .i64 0,.int .i64 0,.slice none 0 0] 33)).alloc (.cells #[.int .i64 2,.string nmS,.int .i64 i,.int .i64 j] 94)
 have RO:=(Row.new ((w.alloc (.cells #[.slice a n c,.slice (some ⟨b,off,none⟩) m d,.slice e k2 f] 38)).alloc (.cells #[.string R.cl,.string R.us,.int .i64 R.lv,.int .i64 R.nw,.slice a1 n1 c1,.slice a2 n2 c2] 40)) #[.int .i64 0,.int .i64 0,.slice none 0 0] 33).alloc (.cells #[.int .i64 2,.string nmS,.int .i64 i,.int .i64 j] 94)
 have RS:=Row.new (((w.alloc (.cells #[.slice a n c,.slice (some ⟨b,off,none⟩) m d,.slice e k2 f] 38)).alloc (.cells #[.string R.cl,.string R.us,.int .i64 R.lv,.int .i64 R.nw,.slice a1 n1 c1,.slice a2 n2 c2] 40)).alloc (.cells #[.int .i64 0,.int .i64 0,.slice none 0 0] 33)) #[.int .i64 2,.string nmS,.int .i64 i,.int .i64 j] 94
 simp only [World.size_alloc] at RR RO RS
 have kin:(k:Int)<(m:Int):=by omega
 have HG:=hide h2
 have HC:=hide h1
 clear s0 s1 s2 s3 h2 h1
 go_enter Tryz.func23,Tryz.ntmps23
 go_wp2_with fail
 generalize ((((w.alloc (.cells #[.slice a n c,.slice (some ⟨b,off,none⟩) m d,.slice e k2 f] 38)).alloc (.cells #[.string R.cl,.string R.us,.int .i64 R.lv,.int .i64 R.nw,.slice a1 n1 c1,.slice a2 n2 c2] 40)).alloc (.cells #[.int .i64 0,.int .i64 0,.slice none 0 0] 33)).alloc (.cells #[.int .i64 2,.string nmS,.int .i64 i,.int .i64 j] 94))=X at *
 have HB:=hide B4
 have LX:=hide (show w.heap.size+1+1+1<X.heap.size from RS.lt)
 clear B3 B4 d0 d1 d2 d3 hb kin hkm hm
 refine (uh HC _ (uh HB)).mono ?_
 rintro r w4 ⟨⟨_,nm,tx,xa,xn,xc,rfl,rfl,hv⟩,hb4⟩
 have C5:=(Below.refl w4.heap.size w4).alloc nl (.cells #[.int .i64 0,.int .i64 nm,.string tx,.slice xa xn xc] 96)
 have C4:=hb4.trans (C5.mono hb4.size)
 have RF:=Row.new w4 #[.int .i64 0,.int .i64 nm,.string tx,.slice xa xn xc] 96
 have HV:=hide (hv.below C5 nl)
 clear hv
 replace RT:=RT.after C4 nl
 replace RR:=RR.after C4 nl
 replace RO:=RO.after C4 nl
 replace RS:=RS.after C4 nl
 replace HB:=hide ((uh HB).trans (C4.mono (uh HB).size))
 clear hb4 C5 C4 HC
 obtain rfl:nm=1:=(uh HV).1
 obtain ⟨x0,x1,x2,x3⟩:=row4V RF
 obtain ⟨t0,t1,t2,t3⟩:=row4V RS
 dsimp only
 obtain ⟨y0,y1,y2,y3⟩:=row4V RS
 obtain ⟨m0,m1,m2⟩:=rowT3 RT
 obtain ⟨r0,r1,r2,r3,r4,r5⟩:=row6D RR
 have jn:¬ ((j:Int)<0):=by omega
 go_wp2_with fail
 refine (uh HG _ (uh HB)).mono ?_
 rintro r w6 ⟨⟨cd,nmg,txg,xag,xng,xcg,rfl,rfl,hceg⟩,hb4⟩
 have C5:=(Below.refl w6.heap.size w6).alloc nl (.cells #[.int .i64 cd,.int .i64 nmg,.string txg,.slice xag xng xcg] 96)
 have C4:=hb4.trans (C5.mono hb4.size)
 have RFg:=Row.new w6 #[.int .i64 cd,.int .i64 nmg,.string txg,.slice xag xng xcg] 96
 replace RT:=RT.after C4 nl
 replace RR:=RR.after C4 nl
 replace RO:=RO.after C4 nl
 replace RS:=RS.after C4 nl
 replace HB:=hide ((uh HB).trans (C4.mono (uh HB).size))
 clear hb4 C5 C4 HG
 obtain ⟨x0,x1,x2,x3⟩:=row4V RFg
 obtain ⟨o0,o1,o2⟩:=rowT3 RO
 have of:=fun j=>RO.frozen j
 obtain ⟨p0,p1,p2⟩:=rowT3 (((RO.set 0 (.int .i64 3)).set 1 (.int .i64 cd)).set 2 (.slice none 0 0))
 have HBE:=hide ((((uh HB).setCell (p:=⟨w.heap.size+1+1,0,none⟩) (by simp;omega) (.int .i64 3)).setCell (p:=⟨w.heap.size+1+1,1,none⟩) (by simp;omega) (.int .i64 cd)).setCell (p:=⟨w.heap.size+1+1,2,none⟩) (by simp;omega) (.slice none 0 0))
 clear RT RR RO HB
 try dsimp only
 go_wp2_with fail
 exact bodyPost_ret (v:=.agg #[.int .i64 3,.int .i64 cd,.slice none 0 0]) (by simp [results,Tryz.results23,go_sem,p0,p1,p2]) rfl ⟨⟨none,0,rfl,World.ownsRow_nil _ _ _ _⟩,grown_of (uh HBE) _,Nat.zero_le _,fun j h=>absurd h (Nat.not_lt_zero _)⟩

end Go.Proofs.YtedlocniojlhfaaGreatDoor
