/-
  DWE, DWF. Own work.
-/
import Derived.Test.YtedlocniojlhfaaGreatDoorMXAU
namespace Go.Proofs.YtedlocniojlhfaaGreatDoor
set_option maxRecDepth 100000
set_option maxHeartbeats 6400000
open Go.RowKit
set_option linter.unusedVariables false

theorem wrap_k {k:Nat} (h:k≤1048576):IntKind.i64.wrap ((k:Int)+1)=(k:Int)+1:=by
 simp [IntKind.wrap,IntKind.bits,IntKind.signed]
 omega

theorem infoM:(Tryz.prog.info? 96).map (fun i=>(i.zero,i.size,i.bytes))=some (some (.agg #[.int .i64 0,.int .i64 0,.string ByteArray.empty,.slice none 0 0]),4,56):=by kernel_rfl

theorem own_aft {w w':World} {base:Nat} {e:TypeId} {size:Nat} {v:Value} {n:Nat} {xs:List Value} (h:w.ownsRow base e size v n xs) (hb:Below w.heap.size w w'):w'.ownsRow base e size v n xs:=h.kept (grown_of hb none) (by cases v.ownBlock <;> simp)

theorem grown_let {w w5 w7 w8:World} {row:Option Nat} {g7:Nat} (h1:Below w.heap.size w w5) (h2:w5.grownBy w7 row) (h3:w7.grownBy w8 (some g7)) (hat:row=some g7∨g7=w5.heap.size):w.grownBy w8 row :=
 ⟨h3.os.trans (h2.os.trans h1.os),h3.tape.trans (h2.tape.trans h1.tape),h3.output.trans (h2.output.trans h1.output),Nat.le_trans h1.size (Nat.le_trans h2.size h3.size),fun k hk hr=>by
  have k5:k<w5.heap.size:=Nat.lt_of_lt_of_le hk h1.size
  have a3:=h3.block k (Nat.lt_of_lt_of_le k5 h2.size) (fun e=>by
   cases e
   rcases hat with q | q
   ·exact hr q.symm
   ·omega)
  exact a3.trans ((h2.block k k5 hr).trans (h1.block k hk))⟩

theorem grown_when {w w5 w8:World} {row:Option Nat} (h1:Below w.heap.size w w5) (h3:w5.grownBy w8 row):w.grownBy w8 row :=
 ⟨h3.os.trans h1.os,h3.tape.trans h1.tape,h3.output.trans h1.output,Nat.le_trans h1.size h3.size,fun k hk hr=>(h3.block k (Nat.lt_of_lt_of_le hk h1.size) hr).trans (h1.block k hk)⟩

theorem grown_set {w w8:World} {row:Option Nat} (h:w.grownBy w8 row) {p:Addr} (hp:w.heap.size≤p.block) (u:Value):w.grownBy (w8.setCell p u) row :=
 ⟨h.os,h.tape,h.output,by simpa using h.size,fun k hk hr=>(heap_setCell_other w8 p k u (by omega)).trans (h.block k hk hr)⟩

theorem dec_when_no (a:Option Addr) (n c b off m d:Nat) (e:Option Addr) (k2 f k:Nat) (hkm:k<m) (hm:m≤1048576) (R:Rq) (a1:Option Addr) (n1 c1:Nat) (a2:Option Addr) (n2 c2:Nat) (la:Option Addr) (ln lc:Nat) (w:World) (hb:b<w.heap.size) (nmS:ByteArray) (gr:Int) (i:Nat) (B:Nat) (s0:w.cell? ⟨b,off+k*4,none⟩=some (.int .i64 2)) (s1:w.cell? ⟨b,off+k*4+1,none⟩=some (.string nmS)) (s2:w.cell? ⟨b,off+k*4+2,none⟩=some (.int .i64 i)) (s3:w.cell? ⟨b,off+k*4+3,none⟩=some (.int .i64 gr)) (hO:∀ q,(Value.slice la ln lc).ownBlock=some q→q<w.heap.size) (q1 q2:Int) (ss:List ByteArray) (h1:∀ w2,Below w.heap.size w w2→Calls Tryz.prog 49 #[.slice a n c,.int .i64 i,.agg #[.string R.cl,.string R.us,.int .i64 R.lv,.int .i64 R.nw,.slice a1 n1 c1,.slice a2 n2 c2],.slice la ln lc] w2 (MAns (.ok (.bool false)) w2)) (h2:∀ w2,Below w.heap.size w w2→Calls Tryz.prog 23 #[.agg #[.slice a n c,.slice (some ⟨b,off,none⟩) m d,.slice e k2 f],.int .i64 ((k:Int)+1),.agg #[.string R.cl,.string R.us,.int .i64 R.lv,.int .i64 R.nw,.slice a1 n1 c1,.slice a2 n2 c2],.slice la ln lc] w2 (OcG B (Value.slice la ln lc).ownBlock (q1,q2,ss) w2)) :
  Calls Tryz.prog 23 #[.agg #[.slice a n c,.slice (some ⟨b,off,none⟩) m d,.slice e k2 f],.int .i64 k,.agg #[.string R.cl,.string R.us,.int .i64 R.lv,.int .i64 R.nw,.slice a1 n1 c1,.slice a2 n2 c2],.slice la ln lc] w (OcG B (Value.slice la ln lc).ownBlock (q1,q2,ss) w):=by
 have B3:=(((Below.refl w.heap.size w).alloc nl (.cells #[.slice a n c,.slice (some ⟨b,off,none⟩) m d,.slice e k2 f] 38)).alloc (by simp) (.cells #[.string R.cl,.string R.us,.int .i64 R.lv,.int .i64 R.nw,.slice a1 n1 c1,.slice a2 n2 c2] 40)).alloc (by simp;omega) (.cells #[.int .i64 0,.int .i64 0,.slice none 0 0] 33)
 have d0:=(B3.cell (p:=⟨b,off+k*4,none⟩) hb).trans s0
 have d1:=(B3.cell (p:=⟨b,off+k*4+1,none⟩) hb).trans s1
 have d2:=(B3.cell (p:=⟨b,off+k*4+2,none⟩) hb).trans s2
 have d3:=(B3.cell (p:=⟨b,off+k*4+3,none⟩) hb).trans s3
 have B4:=B3.alloc B3.size (.cells #[.int .i64 2,.string nmS,.int .i64 i,.int .i64 gr] 94)
 have RT:=(((Row.new w #[.slice a n c,.slice (some ⟨b,off,none⟩) m d,.slice e k2 f] 38).alloc (.cells #[.string R.cl,.string R.us,.int .i64 R.lv,.int .i64 R.nw,.slice a1 n1 c1,.slice a2 n2 c2] 40)).alloc (.cells #[.int .i64 0,.int .i64 0,.slice none 0 0] 33)).alloc (.cells #[.int .i64 2,.string nmS,.int .i64 i,.int .i64 gr] 94)
 have RR:=((Row.new (w.alloc (.cells #[.slice a n c,.slice (some ⟨b,off,none⟩) m d,.slice e k2 f] 38)) #[.string R.cl,.string R.us,.int .i64 R.lv,.int .i64 R.nw,.slice a1 n1 c1,.slice a2 n2 c2] 40).alloc (.cells #[.int .i64 0,.int .i64 0,.slice none 0 0] 33)).alloc (.cells #[.int .i64 2,.string nmS,.int .i64 i,.int .i64 gr] 94)
 have RO:=(Row.new ((w.alloc (.cells #[.slice a n c,.slice (some ⟨b,off,none⟩) m d,.slice e k2 f] 38)).alloc (.cells #[.string R.cl,.string R.us,.int .i64 R.lv,.int .i64 R.nw,.slice a1 n1 c1,.slice a2 n2 c2] 40)) #[.int .i64 0,.int .i64 0,.slice none 0 0] 33).alloc (.cells #[.int .i64 2,.string nmS,.int .i64 i,.int .i64 gr] 94)
 have RS:=Row.new (((w.alloc (.cells #[.slice a n c,.slice (some ⟨b,off,none⟩) m d,.slice e k2 f] 38)).alloc (.cells #[.string R.cl,.string R.us,.int .i64 R.lv,.int .i64 R.nw,.slice a1 n1 c1,.slice a2 n2 c2] 40)).alloc (.cells #[.int .i64 0,.int .i64 0,.slice none 0 0] 33)) #[.int .i64 2,.string nmS,.int .i64 i,.int .i64 gr] 94
 simp only [World.size_alloc] at RR RO RS
 have kin:(k:Int)<(m:Int):=by omega
 have HC:=hide h1
 have HG:=hide h2
 have wk:IntKind.i64.wrap ((k:Int)+1)=(k:Int)+1:=wrap_k (by omega)
 have HO:=hide hO
 clear s0 s1 s2 s3 h1 h2 hO
 go_enter Tryz.func23,Tryz.ntmps23
 go_wp2_with fail
 generalize ((((w.alloc (.cells #[.slice a n c,.slice (some ⟨b,off,none⟩) m d,.slice e k2 f] 38)).alloc (.cells #[.string R.cl,.string R.us,.int .i64 R.lv,.int .i64 R.nw,.slice a1 n1 c1,.slice a2 n2 c2] 40)).alloc (.cells #[.int .i64 0,.int .i64 0,.slice none 0 0] 33)).alloc (.cells #[.int .i64 2,.string nmS,.int .i64 i,.int .i64 gr] 94))=X at *
 have HB:=hide B4
 have LX:=hide (show w.heap.size+1+1+1<X.heap.size from RS.lt)
 clear B3 B4 d0 d1 d2 d3 hb kin hkm hm
 refine (uh HC _ (uh HB)).mono ?_
 rintro r w4 ⟨⟨_,nm,tx,xa,xn,xc,rfl,rfl,hv⟩,hb4⟩
 have C5:=(Below.refl w4.heap.size w4).alloc nl (.cells #[.int .i64 0,.int .i64 nm,.string tx,.slice xa xn xc] 96)
 have C4:=hb4.trans (C5.mono hb4.size)
 have RF:=Row.new w4 #[.int .i64 0,.int .i64 nm,.string tx,.slice xa xn xc] 96
 have HV:=hide (hv.below C5 nl)
 clear hv
 replace RT:=RT.after C4 nl
 replace RR:=RR.after C4 nl
 replace RO:=RO.after C4 nl
 replace RS:=RS.after C4 nl
 replace HB:=hide ((uh HB).trans (C4.mono (uh HB).size))
 clear hb4 C5 C4 HC
 obtain rfl:nm=0:=(uh HV).1
 obtain ⟨x0,x1,x2,x3⟩:=row4V RF
 obtain ⟨t0,t1,t2,t3⟩:=row4V RS
 obtain ⟨m0,m1,m2⟩:=rowT3 RT
 obtain ⟨r0,r1,r2,r3,r4,r5⟩:=row6D RR
 dsimp only
 go_wp2_with fail
 refine (uh HG _ (uh HB)).mono ?_
 rintro r w8 ⟨⟨x,cx,rfl,OO⟩,hg8,hsz⟩
 have HSZ:=hide hsz
 clear hsz
 have RO8:=RO.grown hg8 (fun h=>by have:=uh HO _ h.symm;omega)
 have GR:=grown_when (uh HB) hg8
 clear RT RR RO RS HB hg8 x0 x1 x2 x3 t0 t1 t2 t3 m0 m1 m2 r0 r1 r2 r3 r4 r5
 obtain ⟨o0,o1,o2⟩:=rowT3 RO8
 have of:=fun j=>RO8.frozen j
 obtain ⟨p0,p1,p2⟩:=rowT3 (((RO8.set 0 (.int .i64 q1)).set 1 (.int .i64 q2)).set 2 (.slice x ss.length cx))
 have HBE:=hide (grown_set (grown_set (grown_set GR (p:=⟨w.heap.size+1+1,0,none⟩) (by simp;omega) (.int .i64 q1)) (p:=⟨w.heap.size+1+1,1,none⟩) (by simp;omega) (.int .i64 q2)) (p:=⟨w.heap.size+1+1,2,none⟩) (by simp;omega) (.slice x ss.length cx))
 have ne:∀ q,(Value.slice x ss.length cx).ownBlock=some q→q≠w.heap.size+1+1:=fun q hq h=>own_ne_row RO8 OO (by decide) (by rw [hq,h])
 have OE:=hide (own_set3 (own_set3 (own_set3 OO ⟨w.heap.size+1+1,0,none⟩ (.int .i64 q1) ne) ⟨w.heap.size+1+1,1,none⟩ (.int .i64 q2) ne) ⟨w.heap.size+1+1,2,none⟩ (.slice x ss.length cx) ne)
 clear RO8 OO GR ne
 dsimp only
 go_wp2_with fail
 exact bodyPost_ret (v:=.agg #[.int .i64 q1,.int .i64 q2,.slice x ss.length cx]) (by simp [results,Tryz.results23,go_sem,p0,p1,p2]) rfl ⟨⟨x,cx,rfl,uh OE⟩,uh HBE,uh HSZ⟩

end Go.Proofs.YtedlocniojlhfaaGreatDoor

namespace Go.Proofs.YtedlocniojlhfaaGreatDoor
set_option maxRecDepth 100000
set_option maxHeartbeats 6400000
open Go.RowKit
set_option linter.unusedVariables false

theorem dec_let (a:Option Addr) (n c b off m d:Nat) (e:Option Addr) (k2 f k:Nat) (hkm:k<m) (hm:m≤1048576) (R:Rq) (a1:Option Addr) (n1 c1:Nat) (a2:Option Addr) (n2 c2:Nat) (la:Option Addr) (ln lc:Nat) (w:World) (hb:b<w.heap.size) (nmS:ByteArray) (gr:Int) (i:Nat) (B:Nat) (s0:w.cell? ⟨b,off+k*4,none⟩=some (.int .i64 1)) (s1:w.cell? ⟨b,off+k*4+1,none⟩=some (.string nmS)) (s2:w.cell? ⟨b,off+k*4+2,none⟩=some (.int .i64 i)) (s3:w.cell? ⟨b,off+k*4+3,none⟩=some (.int .i64 gr)) (xs:List Value) (hO:w.ownsRow B 96 4 (.slice la ln lc) ln xs) (hB:B≤w.heap.size) (hln:ln≤1000) (q1 q2:Int) (ss:List ByteArray) (v:Vv) (h1:∀ w2,Below w.heap.size w w2→Calls Tryz.prog 49 #[.slice a n c,.int .i64 i,.agg #[.string R.cl,.string R.us,.int .i64 R.lv,.int .i64 R.nw,.slice a1 n1 c1,.slice a2 n2 c2],.slice la ln lc] w2 (MAns (.ok v) w2)) (h2:∀ w2 num text av nv cv,Below w.heap.size w w2→MVs w2 num text av nv cv v→∀ g7 cap7 w7,w7.ownsRow B 96 4 (.slice (some ⟨g7,0,none⟩) (ln+1) cap7) (ln+1) (xs++[.int .i64 0,.int .i64 num,.string text,.slice av nv cv])→w2.grownBy w7 (Value.slice la ln lc).ownBlock→((Value.slice la ln lc).ownBlock=some g7∨g7=w2.heap.size)→Calls Tryz.prog 23 #[.agg #[.slice a n c,.slice (some ⟨b,off,none⟩) m d,.slice e k2 f],.int .i64 ((k:Int)+1),.agg #[.string R.cl,.string R.us,.int .i64 R.lv,.int .i64 R.nw,.slice a1 n1 c1,.slice a2 n2 c2],.slice (some ⟨g7,0,none⟩) (ln+1) cap7] w7 (OcG B (some g7) (q1,q2,ss) w7)) :
  Calls Tryz.prog 23 #[.agg #[.slice a n c,.slice (some ⟨b,off,none⟩) m d,.slice e k2 f],.int .i64 k,.agg #[.string R.cl,.string R.us,.int .i64 R.lv,.int .i64 R.nw,.slice a1 n1 c1,.slice a2 n2 c2],.slice la ln lc] w (OcG B (Value.slice la ln lc).ownBlock (q1,q2,ss) w):=by
 have B3:=(((Below.refl w.heap.size w).alloc nl (.cells #[.slice a n c,.slice (some ⟨b,off,none⟩) m d,.slice e k2 f] 38)).alloc (by simp) (.cells #[.string R.cl,.string R.us,.int .i64 R.lv,.int .i64 R.nw,.slice a1 n1 c1,.slice a2 n2 c2] 40)).alloc (by simp;omega) (.cells #[.int .i64 0,.int .i64 0,.slice none 0 0] 33)
 have d0:=(B3.cell (p:=⟨b,off+k*4,none⟩) hb).trans s0
 have d1:=(B3.cell (p:=⟨b,off+k*4+1,none⟩) hb).trans s1
 have d2:=(B3.cell (p:=⟨b,off+k*4+2,none⟩) hb).trans s2
 have d3:=(B3.cell (p:=⟨b,off+k*4+3,none⟩) hb).trans s3
 have B4:=B3.alloc B3.size (.cells #[.int .i64 1,.string nmS,.int .i64 i,.int .i64 gr] 94)
 have RT:=(((Row.new w #[.slice a n c,.slice (some ⟨b,off,none⟩) m d,.slice e k2 f] 38).alloc (.cells #[.string R.cl,.string R.us,.int .i64 R.lv,.int .i64 R.nw,.slice a1 n1 c1,.slice a2 n2 c2] 40)).alloc (.cells #[.int .i64 0,.int .i64 0,.slice none 0 0] 33)).alloc (.cells #[.int .i64 1,.string nmS,.int .i64 i,.int .i64 gr] 94)
 have RR:=((Row.new (w.alloc (.cells #[.slice a n c,.slice (some ⟨b,off,none⟩) m d,.slice e k2 f] 38)) #[.string R.cl,.string R.us,.int .i64 R.lv,.int .i64 R.nw,.slice a1 n1 c1,.slice a2 n2 c2] 40).alloc (.cells #[.int .i64 0,.int .i64 0,.slice none 0 0] 33)).alloc (.cells #[.int .i64 1,.string nmS,.int .i64 i,.int .i64 gr] 94)
 have RO:=(Row.new ((w.alloc (.cells #[.slice a n c,.slice (some ⟨b,off,none⟩) m d,.slice e k2 f] 38)).alloc (.cells #[.string R.cl,.string R.us,.int .i64 R.lv,.int .i64 R.nw,.slice a1 n1 c1,.slice a2 n2 c2] 40)) #[.int .i64 0,.int .i64 0,.slice none 0 0] 33).alloc (.cells #[.int .i64 1,.string nmS,.int .i64 i,.int .i64 gr] 94)
 have RS:=Row.new (((w.alloc (.cells #[.slice a n c,.slice (some ⟨b,off,none⟩) m d,.slice e k2 f] 38)).alloc (.cells #[.string R.cl,.string R.us,.int .i64 R.lv,.int .i64 R.nw,.slice a1 n1 c1,.slice a2 n2 c2] 40)).alloc (.cells #[.int .i64 0,.int .i64 0,.slice none 0 0] 33)) #[.int .i64 1,.string nmS,.int .i64 i,.int .i64 gr] 94
 simp only [World.size_alloc] at RR RO RS
 have kin:(k:Int)<(m:Int):=by omega
 have HC:=hide h1
 have HG:=hide h2
 have wk:IntKind.i64.wrap ((k:Int)+1)=(k:Int)+1:=wrap_k (by omega)
 have HO:=hide hO
 have HOL:=hide (fun q hq=>(hO.lt q hq).2)
 obtain ⟨ti,hti,hz0,hz1,hz2⟩:=info_parts infoM
 clear s0 s1 s2 s3 h1 h2 hO
 go_enter Tryz.func23,Tryz.ntmps23
 go_wp2_with fail
 generalize ((((w.alloc (.cells #[.slice a n c,.slice (some ⟨b,off,none⟩) m d,.slice e k2 f] 38)).alloc (.cells #[.string R.cl,.string R.us,.int .i64 R.lv,.int .i64 R.nw,.slice a1 n1 c1,.slice a2 n2 c2] 40)).alloc (.cells #[.int .i64 0,.int .i64 0,.slice none 0 0] 33)).alloc (.cells #[.int .i64 1,.string nmS,.int .i64 i,.int .i64 gr] 94))=X at *
 have HB:=hide B4
 have LX:=hide (show w.heap.size+1+1+1<X.heap.size from RS.lt)
 clear B3 B4 d0 d1 d2 d3 hb kin hkm hm
 refine (uh HC _ (uh HB)).mono ?_
 rintro r w4 ⟨⟨_,nm,tx,xa,xn,xc,rfl,rfl,hv⟩,hb4⟩
 have C5:=(Below.refl w4.heap.size w4).alloc nl (.cells #[.int .i64 0,.int .i64 nm,.string tx,.slice xa xn xc] 96)
 have C4:=hb4.trans (C5.mono hb4.size)
 have RF:=Row.new w4 #[.int .i64 0,.int .i64 nm,.string tx,.slice xa xn xc] 96
 have HV:=hide (hv.below C5 nl)
 clear hv
 replace RT:=RT.after C4 nl
 replace RR:=RR.after C4 nl
 replace RO:=RO.after C4 nl
 replace RS:=RS.after C4 nl
 replace HB:=hide ((uh HB).trans (C4.mono (uh HB).size))
 clear hb4 C5 C4 HC
 obtain ⟨x0,x1,x2,x3⟩:=row4V RF
 obtain ⟨t0,t1,t2,t3⟩:=row4V RS
 have CA:=(Below.refl _ (w4.alloc (.cells #[.int .i64 0,.int .i64 nm,.string tx,.slice xa xn xc] 96))).alloc nl (.cells #[.int .i64 0,.int .i64 nm,.string tx,.slice xa xn xc] 96)
 have NW:=World.news_of_block (heap_alloc_new (w4.alloc (.cells #[.int .i64 0,.int .i64 nm,.string tx,.slice xa xn xc] 96)) (.cells #[.int .i64 0,.int .i64 nm,.string tx,.slice xa xn xc] 96))
 have O5:=own_aft (uh HO) ((uh HB).trans (CA.mono (uh HB).size))
 have HV6:=hide ((uh HV).below CA nl)
 have HB6:=hide ((uh HB).trans (CA.mono (uh HB).size))
 have RT6:=RT.after CA nl
 have RR6:=RR.after CA nl
 have RO6:=RO.after CA nl
 have RS6:=RS.after CA nl
 have z5:=(uh HB6).size
 simp only [World.size_alloc] at NW z5
 clear CA RT RR RO RS RF HB HV
 dsimp only
 go_wp2_with (at_builtin;refine wpList_append_lies _ rfl _ _ 93 rfl B 96 ti (.agg #[.int .i64 0,.int .i64 0,.string ByteArray.empty,.slice none 0 0]) 4 56 Tryz.underlying93 hti hz0 hz1 hz2 rfl (by decide) (.slice la ln lc) ln xs rfl O5 ⟨w4.heap.size+1,0,none⟩ 1 1 [.int .i64 0,.int .i64 nm,.string tx,.slice xa xn xc] rfl rfl NW ?c2 (by decide) ?c3 ?c4 ?c5 (w4.heap.size+1+1) (by simp) ?_)
 case c2=>intro u hu;simp at hu;rcases hu with rfl | rfl | rfl | rfl <;> rfl
 case c3=>unfold maxLen;omega
 case c4=>omega
 case c5=>simp only [World.size_alloc];omega
 intro g7 cap7 w7 O7 hgrow hat hgl
 have ne1:∀ b0:Nat,w.heap.size≤b0→some b0≠(Value.slice la ln lc).ownBlock:=fun b0 h1 h=>by have:=uh HOL b0 h.symm;omega
 have RT7:=RT6.grown hgrow (ne1 _ nl)
 have RR7:=RR6.grown hgrow (ne1 _ (by omega))
 have RO7:=RO6.grown hgrow (ne1 _ (by omega))
 have RS7:=RS6.grown hgrow (ne1 _ (by omega))
 have HR:=hide (uh HG _ _ _ _ _ _ (uh HB6) (uh HV6) g7 cap7 w7 O7 hgrow (by simpa using hat))
 have GB:=hide (fun w8 (h:w7.grownBy w8 (some g7))=>grown_let (uh HB6) hgrow h (by simpa using hat))
 have l6:=RO6.lt
 simp only [World.size_alloc] at l6
 have HN:=hide (show some (w.heap.size+1+1)≠some g7 from fun h=>by
  cases h
  rcases hat with q | q
  ·exact ne1 _ (by omega) q.symm
  ·omega)
 clear RT6 RR6 RO6 RS6 O5 O7 hgrow hat hgl NW HB6 HV6 HG x0 x1 x2 x3 t0 t1 t2 t3 ne1 l6 z5 hti hz0 hz1 hz2
 obtain ⟨m0,m1,m2⟩:=rowT3 RT7
 obtain ⟨r0,r1,r2,r3,r4,r5⟩:=row6D RR7
 obtain ⟨t0,t1,t2,t3⟩:=row4V RS7
 go_wp2_with fail
 refine (uh HR).mono ?_
 rintro r w8 ⟨⟨x,cx,rfl,OO⟩,hg8,hsz⟩
 have HSZ:=hide hsz
 clear hsz
 have RO8:=RO7.grown hg8 (uh HN)
 have GR:=uh GB _ hg8
 clear RT7 RR7 RS7 RO7 hg8 t0 t1 t2 t3 m0 m1 m2 r0 r1 r2 r3 r4 r5 HR GB HN
 obtain ⟨o0,o1,o2⟩:=rowT3 RO8
 have of:=fun j=>RO8.frozen j
 obtain ⟨p0,p1,p2⟩:=rowT3 (((RO8.set 0 (.int .i64 q1)).set 1 (.int .i64 q2)).set 2 (.slice x ss.length cx))
 have HBE:=hide (grown_set (grown_set (grown_set GR (p:=⟨w.heap.size+1+1,0,none⟩) (by simp;omega) (.int .i64 q1)) (p:=⟨w.heap.size+1+1,1,none⟩) (by simp;omega) (.int .i64 q2)) (p:=⟨w.heap.size+1+1,2,none⟩) (by simp;omega) (.slice x ss.length cx))
 have ne:∀ q,(Value.slice x ss.length cx).ownBlock=some q→q≠w.heap.size+1+1:=fun q hq h=>own_ne_row RO8 OO (by decide) (by rw [hq,h])
 have OE:=hide (own_set3 (own_set3 (own_set3 OO ⟨w.heap.size+1+1,0,none⟩ (.int .i64 q1) ne) ⟨w.heap.size+1+1,1,none⟩ (.int .i64 q2) ne) ⟨w.heap.size+1+1,2,none⟩ (.slice x ss.length cx) ne)
 clear RO8 OO GR ne
 dsimp only
 go_wp2_with fail
 exact bodyPost_ret (v:=.agg #[.int .i64 q1,.int .i64 q2,.slice x ss.length cx]) (by simp [results,Tryz.results23,go_sem,p0,p1,p2]) rfl ⟨⟨x,cx,rfl,uh OE⟩,uh HBE,uh HSZ⟩

end Go.Proofs.YtedlocniojlhfaaGreatDoor
