/-
  The law of Decide, walked. Own work.
-/
import Derived.Test.YtedlocniojlhfaaGreatDoorMXAX
namespace Go.Proofs.YtedlocniojlhfaaGreatDoor
set_option maxRecDepth 100000
set_option maxHeartbeats 6400000
open Go.RowKit
set_option linter.unusedVariables false

theorem rowTouch {w w':World} {b lo hi:Nat} {cs:Array Value} {t:TypeId} (h:Row w b cs t) (T:Touch lo hi w w') (hd:b<lo∨hi≤b):Row w' b cs t:=⟨(T.block b h.lt hd).trans h.out⟩

theorem Wd.touch {w w':World} {x:Addr} {n lo hi:Nat} {t:TypeId} (h:Wd w x n t) (T:Touch lo hi w w') (hd:x.block<lo∨hi≤x.block):Wd w' x n t:=by
 obtain ⟨q,cs,rfl,r,z⟩:=h
 exact ⟨q,cs,rfl,rowTouch r T hd,z⟩

theorem below_set3 {B F:Nat} {X w5:World} {cs:Array Value} {t:TypeId} (G:Below B X w5) (r:Row w5 F cs t) (h:B≤F) (u0 u1 u2:Value):Below B X (((w5.setCell ⟨F,0,none⟩ u0).setCell ⟨F,1,none⟩ u1).setCell ⟨F,2,none⟩ u2) :=
 ((G.setCell (p:=⟨F,0,none⟩) h u0).setCell (p:=⟨F,1,none⟩) h u1).setCell (p:=⟨F,2,none⟩) h u2

theorem fnExactDecide_walk (a b f:Option Addr) (n c m d p g:Nat) (N:List Nd) (L:List St) (T:List Int) (R:Rq) (a1:Option Addr) (n1 c1:Nat) (a2:Option Addr) (n2 c2:Nat) (aT aN aA aS aO aZ aW:Addr) (w:World) (h0:EnvD w a b f n c m d p g N L T R a1 n1 c1 a2 n2 c2 aT aN aA aS aO aZ aW) (hcl:R.cl.size≤maxLen) (hus:R.us.size≤maxLen) (hlv:I64 R.lv) (hnw:I64 R.nw) (hnum:∀ x∈N,I64 x.num) :
  Calls Tryz.prog 3 #[.agg #[.slice a n c,.slice b m d,.slice f p g],.agg #[.string R.cl,.string R.us,.int .i64 R.lv,.int .i64 R.nw,.slice a1 n1 c1,.slice a2 n2 c2]] w fun e w'=>e=.returned (.bool true)∧Below w.heap.size w w':=by
 have RT:=(Row.new w #[.slice a n c,.slice b m d,.slice f p g] 26).alloc (.cells #[.string R.cl,.string R.us,.int .i64 R.lv,.int .i64 R.nw,.slice a1 n1 c1,.slice a2 n2 c2] 29)
 have RR:=Row.new (w.alloc (.cells #[.slice a n c,.slice b m d,.slice f p g] 26)) #[.string R.cl,.string R.us,.int .i64 R.lv,.int .i64 R.nw,.slice a1 n1 c1,.slice a2 n2 c2] 29
 simp only [World.size_alloc] at RR
 have B0:=((Below.refl w.heap.size w).alloc nl (.cells #[.slice a n c,.slice b m d,.slice f p g] 26)).alloc (by simp) (.cells #[.string R.cl,.string R.us,.int .i64 R.lv,.int .i64 R.nw,.slice a1 n1 c1,.slice a2 n2 c2] 29)
 have E0:=h0.below B0 nl
 have HE:=hide h0
 go_enter Tryz.func3,Tryz.ntmps3
 go_wp2_with fail
 refine (szTyped_any _ _ _ _ _ _ _ _ _ N L T _ E0.nd E0.st E0.it).mono ?_
 rintro e w1 ⟨⟨r,rfl,hr⟩,hb1⟩
 have RT1:=RT.after hb1 nl
 have RR1:=RR.after hb1 nl
 have B1:=B0.trans (hb1.mono B0.size)
 clear RT RR B0 E0 hb1 h0
 dsimp only
 by_cases hr0:r<0
 ·clear hr
  go_wp2_with fail
  go_ret
  exact ⟨rfl,B1⟩
 obtain ⟨r0,r1,hs⟩:=hr.resolve_left (by omega)
 have Hs:=hide hs
 obtain ⟨m0,m1,m2⟩:=rowT3 RT1
 obtain ⟨y0,y1,y2,y3,y4,y5⟩:=row6D RR1
 clear hs hr
 go_wp2_with fail
 refine (szRequest_any R.cl R.us R.lv R.nw a1 n1 c1 R.s1 a2 n2 c2 R.s2 r _ hcl hus ((uh HE).q1.below B1 nl) ((uh HE).q2.below B1 nl) r0 r1).mono ?_
 rintro e w2 ⟨⟨t,rfl,ht⟩,hb2⟩
 have RT2:=RT1.after hb2 nl
 have RR2:=RR1.after hb2 nl
 have B2:=B1.trans (hb2.mono B1.size)
 clear RT1 RR1 B1 hb2 m0 m1 m2 y0 y1 y2 y3 y4 y5 r0 r1 hr0
 dsimp only
 by_cases ht0:t<0
 ·clear ht
  go_wp2_with fail
  go_ret
  exact ⟨rfl,B2⟩
 obtain ⟨_,k1,k2⟩:=ht.resolve_left (by omega)
 have Hk:=hide (And.intro k1 k2)
 have HA:=hide (show ArgD N R from ⟨fun x hx=>⟨((uh Hs).1.1.2 x hx).2.1,hnum x hx⟩,⟨by rw [← (uh HE).q1.len];exact k1,by rw [← (uh HE).q2.len];exact k2⟩,⟨hcl,hus⟩,hlv,hnw⟩)
 clear ht hnum k1 k2 hcl hus hlv hnw
 go_wp2_with fail
 have D:=(Below.refl w2.heap.size w2).drew
 have Da:=D.alloc D.size (.cells #[.int .i64 0,.int .i64 0,.slice none 0 0] 33)
 have RZ:=Row.new w2.drew #[.int .i64 0,.int .i64 0,.slice none 0 0] 33
 simp only [World.size_drew] at RZ
 have keep:∀ w',Below w2.heap.size w2 w'→((fun w'=>(w'.cell? ⟨w.heap.size,0,none⟩=some (.slice a n c)∧w'.cell? ⟨w.heap.size,1,none⟩=some (.slice b m d)∧w'.cell? ⟨w.heap.size,2,none⟩=some (.slice f p g))∧w'.cell? ⟨w.heap.size+1,0,none⟩=some (.string R.cl)∧w'.cell? ⟨w.heap.size+1,1,none⟩=some (.string R.us)∧w'.cell? ⟨w.heap.size+1,2,none⟩=some (.int .i64 R.lv)∧w'.cell? ⟨w.heap.size+1,3,none⟩=some (.int .i64 R.nw)∧w'.cell? ⟨w.heap.size+1,4,none⟩=some (.slice a1 n1 c1)∧w'.cell? ⟨w.heap.size+1,5,none⟩=some (.slice a2 n2 c2)) w'):=fun w' hb=>⟨rowT3 (RT2.after hb nl),row6D (RR2.after hb nl)⟩
 have KP:=hide keep
 have HX:=hide (fun (w':World) (hb:Below w2.heap.size w2 w')=>(uh HE).below (B2.trans (hb.mono B2.size)) nl)
 have q1:=keep _ D
 have q2:=keep _ Da
 clear keep
 go_region_held3 (fun w'=>(w'.cell? ⟨w.heap.size,0,none⟩=some (.slice a n c)∧w'.cell? ⟨w.heap.size,1,none⟩=some (.slice b m d)∧w'.cell? ⟨w.heap.size,2,none⟩=some (.slice f p g))∧w'.cell? ⟨w.heap.size+1,0,none⟩=some (.string R.cl)∧w'.cell? ⟨w.heap.size+1,1,none⟩=some (.string R.us)∧w'.cell? ⟨w.heap.size+1,2,none⟩=some (.int .i64 R.lv)∧w'.cell? ⟨w.heap.size+1,3,none⟩=some (.int .i64 R.nw)∧w'.cell? ⟨w.heap.size+1,4,none⟩=some (.slice a1 n1 c1)∧w'.cell? ⟨w.heap.size+1,5,none⟩=some (.slice a2 n2 c2)) (first | assumption | fail)
  (first
   | (go_at_call 7;refine (toT_any (uh HX _ D) (uh Hs)).mono ?_;rintro e w3 ⟨x1,x2,x3,rfl,C3,hb3,M3⟩;have G3:=D.trans (hb3.mono D.size);have q3:=uh KP _ G3;have q3a:=uh KP _ (G3.alloc G3.size (.cells #[.int .i64 0,.int .i64 0,.slice none 0 0] 33)))
   | (go_at_call 7;refine (toT_any (uh HX _ Da) (uh Hs)).mono ?_;rintro e w3 ⟨x1,x2,x3,rfl,C3,hb3,M3⟩;have G3:=Da.trans (hb3.mono Da.size);have q3:=uh KP _ G3;have RZ3:=RZ.after hb3 (by simp))
   | (go_at_call 8;refine (toR_any (uh HX _ G3) (uh Hk).1 (uh Hk).2).mono ?_;rintro e w4 ⟨z1,z2,rfl,C4,hb4,M4⟩;have G4:=G3.trans (hb4.mono G3.size);have q4:=uh KP _ G4;have RZ4:=RZ3.after hb4 nl;have A34:=hb4)
   | (go_at_call 8;refine (toR_any (uh HX _ G3) (uh Hk).1 (uh Hk).2).mono ?_;rintro e w4 ⟨z1,z2,rfl,C4,hb4,M4⟩;have G4:=G3.trans (hb4.mono G3.size);have q4:=uh KP _ G4;have q4a:=uh KP _ (G4.alloc G4.size (.cells #[.int .i64 0,.int .i64 0,.slice none 0 0] 33));have A34:=hb4)
   | (go_at_call 8;refine (toR_any (uh HX _ (G3.alloc G3.size (.cells #[.int .i64 0,.int .i64 0,.slice none 0 0] 33))) (uh Hk).1 (uh Hk).2).mono ?_;rintro e w4 ⟨z1,z2,rfl,C4,hb4,M4⟩;have A34:=((Below.refl w3.heap.size w3).alloc nl (.cells #[.int .i64 0,.int .i64 0,.slice none 0 0] 33)).trans (hb4.mono (by simp));have G4:=G3.trans (A34.mono G3.size);have q4:=uh KP _ G4;have RZ4:=(Row.new w3 #[.int .i64 0,.int .i64 0,.slice none 0 0] 33).after hb4 nl)
   | (go_at_call 6;have RZ4':=RZ4;refine (sDec_any (uh HA) (C3.below A34 nl) C4).mono ?_;rintro r w5 ⟨⟨o1,o2,ss⟩,hdc,⟨⟨x,cx,rfl,OO⟩,hb5⟩,hlz,hsz⟩;have G5:=G4.trans (hb5.mono G4.size);have q5:=uh KP _ G5;have A45:=hb5;have RZ5:=RZ4'.after hb5 nl;obtain ⟨u0,u1,u2⟩:=rowT3 RZ5;have uf:=(fun j=>RZ5.frozen j);have G6:=below_set3 G5 RZ5 (by have:=G3.size;have:=G4.size;omega) (.int .i64 o1) (.int .i64 o2) (.slice x ss.length cx);have q6:=uh KP _ G6)
   | (go_at_call 6;refine (sDec_any (uh HA) (C3.below A34 nl) C4).mono ?_;rintro r w5 ⟨⟨o1,o2,ss⟩,hdc,⟨⟨x,cx,rfl,OO⟩,hb5⟩,hlz,hsz⟩;have G5:=G4.trans (hb5.mono G4.size);have q5:=uh KP _ G5;have A45:=hb5;have q5a:=uh KP _ (G5.alloc G5.size (.cells #[.int .i64 0,.int .i64 0,.slice none 0 0] 33));have G6:=G5.alloc G5.size (.cells #[.int .i64 o1,.int .i64 o2,.slice x ss.length cx] 33);have q6:=uh KP _ G6)
   | (go_at_call 6;refine (sDec_any (uh HA) ((C3.below A34 nl).below ((Below.refl w4.heap.size w4).alloc nl (.cells #[.int .i64 0,.int .i64 0,.slice none 0 0] 33)) nl) (C4.below ((Below.refl w4.heap.size w4).alloc nl (.cells #[.int .i64 0,.int .i64 0,.slice none 0 0] 33)) nl)).mono ?_;rintro r w5 ⟨⟨o1,o2,ss⟩,hdc,⟨⟨x,cx,rfl,OO⟩,hb5⟩,hlz,hsz⟩;have A45:=((Below.refl w4.heap.size w4).alloc nl (.cells #[.int .i64 0,.int .i64 0,.slice none 0 0] 33)).trans (hb5.mono (by simp));have G5:=G4.trans (A45.mono G4.size);have q5:=uh KP _ G5;have RZ5:=(Row.new w4 #[.int .i64 0,.int .i64 0,.slice none 0 0] 33).after hb5 nl;obtain ⟨u0,u1,u2⟩:=rowT3 RZ5;have uf:=(fun j=>RZ5.frozen j);have G6:=below_set3 G5 RZ5 (by have:=G3.size;have:=G4.size;omega) (.int .i64 o1) (.int .i64 o2) (.slice x ss.length cx);have q6:=uh KP _ G6))
 all_goals first
 | (have RW:=Row.new w5 #[.int .i64 o1,.int .i64 o2,.slice x ss.length cx] 33
    have OW:=OwnS.of (owns_mono (World.ownsRow.alloc OO (.cells #[.int .i64 o1,.int .i64 o2,.slice x ss.length cx] 33)) (Nat.zero_le _)) hsz
    have HDC:=hide hdc
    have HLZ:=hide hlz
    have B6:=B2.trans (G6.mono B2.size)
    have RT6:=RT2.after G6 nl
    have RR6:=RR2.after G6 nl
    clear KP HX D Da RZ q1 q2 q3 q4 q5 q6 G3 G4 G5 A34 A45 C3 C4 M3 M4 hb3 hb4 hb5 OO hsz hlz q3a q4a q5a G6 RT2 RR2 B2 hdc
    generalize w5.alloc (Obj.cells #[Value.int IntKind.i64 o1,Value.int IntKind.i64 o2,Value.slice x ss.length cx] 33)=X1 at *
    generalize w5.heap.size=F at *)
 | (have RW:=((RZ5.set 0 (.int .i64 o1)).set 1 (.int .i64 o2)).set 2 (.slice x ss.length cx)
    have ne:∀ q,(Value.slice x ss.length cx).ownBlock=some q→q≠w4.heap.size:=fun q hq h=>own_ne_row RZ5 OO (by decide) (by rw [hq,h])
    have OW:=OwnS.of (owns_mono (own_set3 (own_set3 (own_set3 OO ⟨w4.heap.size,0,none⟩ (.int .i64 o1) ne) ⟨w4.heap.size,1,none⟩ (.int .i64 o2) ne) ⟨w4.heap.size,2,none⟩ (.slice x ss.length cx) ne) (Nat.zero_le _)) hsz
    have HDC:=hide hdc
    have HLZ:=hide hlz
    have B6:=B2.trans (G6.mono B2.size)
    have RT6:=RT2.after G6 nl
    have RR6:=RR2.after G6 nl
    clear KP HX D Da RZ q1 q2 q3 q4 q5 q6 G3 G4 G5 A34 A45 C3 C4 M3 M4 hb3 hb4 hb5 OO hsz hlz RZ5 u0 u1 u2 uf ne G6 RT2 RR2 B2 hdc q3a q4a
    generalize ((w5.setCell ⟨w4.heap.size,0,none⟩ (Value.int IntKind.i64 o1)).setCell ⟨w4.heap.size,1,none⟩ (Value.int IntKind.i64 o2)).setCell ⟨w4.heap.size,2,none⟩ (Value.slice x ss.length cx)=X1 at *
    generalize w4.heap.size=F at *)
 | (have RW:=((RZ5.set 0 (.int .i64 o1)).set 1 (.int .i64 o2)).set 2 (.slice x ss.length cx)
    have ne:∀ q,(Value.slice x ss.length cx).ownBlock=some q→q≠w3.heap.size:=fun q hq h=>own_ne_row RZ5 OO (by decide) (by rw [hq,h])
    have OW:=OwnS.of (owns_mono (own_set3 (own_set3 (own_set3 OO ⟨w3.heap.size,0,none⟩ (.int .i64 o1) ne) ⟨w3.heap.size,1,none⟩ (.int .i64 o2) ne) ⟨w3.heap.size,2,none⟩ (.slice x ss.length cx) ne) (Nat.zero_le _)) hsz
    have HDC:=hide hdc
    have HLZ:=hide hlz
    have B6:=B2.trans (G6.mono B2.size)
    have RT6:=RT2.after G6 nl
    have RR6:=RR2.after G6 nl
    clear KP HX D Da RZ q1 q2 q3 q4 q5 q6 G3 G4 G5 A34 A45 C3 C4 M3 M4 hb3 hb4 hb5 OO hsz hlz RZ5 u0 u1 u2 uf ne G6 RT2 RR2 B2 hdc q3a RZ4 RZ4'
    generalize ((w5.setCell ⟨w3.heap.size,0,none⟩ (Value.int IntKind.i64 o1)).setCell ⟨w3.heap.size,1,none⟩ (Value.int IntKind.i64 o2)).setCell ⟨w3.heap.size,2,none⟩ (Value.slice x ss.length cx)=X1 at *
    generalize w3.heap.size=F at *)
 | (have RW:=((RZ5.set 0 (.int .i64 o1)).set 1 (.int .i64 o2)).set 2 (.slice x ss.length cx)
    have ne:∀ q,(Value.slice x ss.length cx).ownBlock=some q→q≠w2.heap.size:=fun q hq h=>own_ne_row RZ5 OO (by decide) (by rw [hq,h])
    have OW:=OwnS.of (owns_mono (own_set3 (own_set3 (own_set3 OO ⟨w2.heap.size,0,none⟩ (.int .i64 o1) ne) ⟨w2.heap.size,1,none⟩ (.int .i64 o2) ne) ⟨w2.heap.size,2,none⟩ (.slice x ss.length cx) ne) (Nat.zero_le _)) hsz
    have HDC:=hide hdc
    have HLZ:=hide hlz
    have B6:=B2.trans (G6.mono B2.size)
    have RT6:=RT2.after G6 nl
    have RR6:=RR2.after G6 nl
    clear KP HX D Da RZ q1 q2 q3 q4 q5 q6 G3 G4 G5 A34 A45 C3 C4 M3 M4 hb3 hb4 hb5 OO hsz hlz RZ5 u0 u1 u2 uf ne G6 RT2 RR2 B2 hdc RZ3 RZ4 RZ4'
    generalize ((w5.setCell ⟨w2.heap.size,0,none⟩ (Value.int IntKind.i64 o1)).setCell ⟨w2.heap.size,1,none⟩ (Value.int IntKind.i64 o2)).setCell ⟨w2.heap.size,2,none⟩ (Value.slice x ss.length cx)=X1 at *
    generalize w2.heap.size=F at *)
 all_goals
  obtain ⟨m0,m1,m2⟩:=rowT3 RT6
  obtain ⟨y0,y1,y2,y3,y4,y5⟩:=row6D RR6
  go_wp2_with fail
  refine (toT_any ((uh HE).below B6 nl) (uh Hs)).mono ?_
  rintro e w6 ⟨t1,t2,t3,rfl,CT,hb6,MT⟩
  have A6:=(Below.refl w6.heap.size w6).alloc nl (.cells #[.slice (some t1) n n,.slice (some t2) m m,.slice (some t3) p p] 38)
  have G6:=hb6.trans (A6.mono hb6.size)
  have RX:=Row.new w6 #[.slice (some t1) n n,.slice (some t2) m m,.slice (some t3) p p] 38
  have L1:w.heap.size+1<X1.heap.size:=RR6.lt
  have LF:F<X1.heap.size:=RW.lt
  have L2:X1.heap.size≤w6.heap.size:=hb6.size
  replace RT6:=RT6.after G6 nl
  replace RR6:=RR6.after G6 nl
  replace RW:=RW.after G6 nl
  replace OW:=OW.below G6 OW.top
  replace B6:=B6.trans (G6.mono B6.size)
  replace CT:=CT.below A6 nl
  replace MT:=MT.below A6
  clear m0 m1 m2 y0 y1 y2 y3 y4 y5
  clear G6 A6 hb6
  obtain ⟨m0,m1,m2⟩:=rowT3 RT6
  obtain ⟨y0,y1,y2,y3,y4,y5⟩:=row6D RR6
  dsimp only
  go_wp2_with fail
  refine (toR_any ((uh HE).below B6 nl) (uh Hk).1 (uh Hk).2).mono ?_
  rintro e w8 ⟨s1,s2,rfl,CR,hb8,MR⟩
  have A8:=(Below.refl w8.heap.size w8).alloc nl (.cells #[.string R.cl,.string R.us,.int .i64 R.lv,.int .i64 R.nw,.slice (some s1) n1 n1,.slice (some s2) n2 n2] 40)
  have G8:=hb8.trans (A8.mono hb8.size)
  have RY:=Row.new w8 #[.string R.cl,.string R.us,.int .i64 R.lv,.int .i64 R.nw,.slice (some s1) n1 n1,.slice (some s2) n2 n2] 40
  have L3:w6.heap.size+1≤w8.heap.size:=by have:=hb8.size;simpa using this
  simp only [World.size_alloc] at MR
  replace RT6:=RT6.after G8 nl
  replace RR6:=RR6.after G8 nl
  replace RW:=RW.after G8 nl
  replace RX:=RX.after G8 nl
  replace OW:=OW.below G8 OW.top
  replace CT:=CT.below G8 nl
  replace MT:=MT.below G8
  replace B6:=B6.trans (G8.mono B6.size)
  replace CR:=CR.below A8 nl
  clear m0 m1 m2 y0 y1 y2 y3 y4 y5
  clear G8 A8 hb8
  obtain ⟨v0,v1,v2⟩:=rowT3 RX
  obtain ⟨u0,u1,u2,u3,u4,u5⟩:=row6D RY
  dsimp only
  go_wp2_with fail
  refine (iDec_any (uh HA) ((uh HE).below B6 nl) CT CR (uh HDC)).mono ?_
  rintro r w10 ⟨⟨xg,cg,rfl,OO⟩,hb10⟩
  have A10:=(Below.refl w10.heap.size w10).alloc nl (.cells #[.int .i64 o1,.int .i64 o2,.slice xg ss.length cg] 33)
  have G10:=hb10.trans (A10.mono hb10.size)
  have RG:=Row.new w10 #[.int .i64 o1,.int .i64 o2,.slice xg ss.length cg] 33
  have OG:=(OwnS.of OO OW.sizes).below A10 nl
  have L4:w8.heap.size+1≤w10.heap.size:=by have:=hb10.size;simpa using this
  simp only [World.size_alloc] at OG
  replace RT6:=RT6.after G10 nl
  replace RR6:=RR6.after G10 nl
  replace RW:=RW.after G10 nl
  replace RX:=RX.after G10 nl
  replace RY:=RY.after G10 nl
  replace OW:=OW.below G10 OW.top
  replace CT:=CT.below G10 nl
  replace CR:=CR.below G10 nl
  replace MT:=MT.below G10
  replace B6:=B6.trans (G10.mono B6.size)
  clear v0 v1 v2 u0 u1 u2 u3 u4 u5
  clear G10 A10 hb10 OO
  obtain ⟨v0,v1,v2⟩:=rowT3 RW
  obtain ⟨u0,u1,u2⟩:=rowT3 RG
  dsimp only
  go_wp2_with fail
  refine (eqOutcome_same o1 o2 _ _ _ _ _ ss _ OG.strs OW.strs).mono ?_
  rintro e w11 ⟨rfl,hb11⟩
  replace RT6:=RT6.after hb11 nl
  replace RR6:=RR6.after hb11 nl
  replace RW:=RW.after hb11 nl
  replace RX:=RX.after hb11 nl
  replace RY:=RY.after hb11 nl
  replace RG:=RG.after hb11 nl
  replace OW:=OW.below hb11 OW.top
  replace OG:=OG.below hb11 OG.top
  replace CT:=CT.below hb11 nl
  replace CR:=CR.below hb11 nl
  replace MT:=MT.below hb11
  replace B6:=B6.trans (hb11.mono B6.size)
  clear v0 v1 v2 u0 u1 u2
  clear hb11
  dsimp only
  go_wp2_with fail
  have D:=(Below.refl w11.heap.size w11).drew
  have keep:∀ w',Below w11.heap.size w11 w'→((fun w'=>(w'.cell? ⟨w6.heap.size,0,none⟩=some (.slice (some t1) n n)∧w'.cell? ⟨w6.heap.size,1,none⟩=some (.slice (some t2) m m)∧w'.cell? ⟨w6.heap.size,2,none⟩=some (.slice (some t3) p p))∧w'.cell? ⟨w.heap.size,0,none⟩=some (.slice a n c)∧w'.cell? ⟨w.heap.size,1,none⟩=some (.slice b m d)∧w'.cell? ⟨w.heap.size,2,none⟩=some (.slice f p g)) w'):=fun w' hb=>⟨rowT3 (RX.after hb nl),rowT3 (RT6.after hb nl)⟩
  have KP:=hide keep
  have EX:=(uh HE).below (B6.trans (D.mono B6.size)) nl
  have q1:=keep _ D
  clear keep
  go_region_held3 (fun w'=>(w'.cell? ⟨w6.heap.size,0,none⟩=some (.slice (some t1) n n)∧w'.cell? ⟨w6.heap.size,1,none⟩=some (.slice (some t2) m m)∧w'.cell? ⟨w6.heap.size,2,none⟩=some (.slice (some t3) p p))∧w'.cell? ⟨w.heap.size,0,none⟩=some (.slice a n c)∧w'.cell? ⟨w.heap.size,1,none⟩=some (.slice b m d)∧w'.cell? ⟨w.heap.size,2,none⟩=some (.slice f p g)) (first | assumption | fail)
   (first
    | (go_at_call 7;refine (toT_any EX (uh Hs)).mono ?_;rintro e w12 ⟨e1,e2,e3,rfl,Cb,hba,_⟩;have Ga:=D.trans (hba.mono D.size);have qa:=uh KP _ Ga)
    | (go_at_call 11;refine (eqTyped_same _ _ _ _ _ _ _ _ _ _ _ _ _ _ _ N L T _ (CT.below Ga nl).1 Cb.1 (CT.below Ga nl).2.1 Cb.2.1 (CT.below Ga nl).2.2.1 Cb.2.2.1).mono ?_;rintro e w13 ⟨rfl,hb13⟩;have G13:=Ga.trans (hb13.mono Ga.size);have qb:=uh KP _ G13))
  replace RT6:=RT6.after G13 nl
  replace RR6:=RR6.after G13 nl
  replace RW:=RW.after G13 nl
  replace RX:=RX.after G13 nl
  replace RY:=RY.after G13 nl
  replace RG:=RG.after G13 nl
  replace OW:=OW.below G13 OW.top
  replace OG:=OG.below G13 OG.top
  replace CT:=CT.below G13 nl
  replace CR:=CR.below G13 nl
  replace MT:=MT.below G13
  replace B6:=B6.trans (G13.mono B6.size)
  clear D KP EX q1 qa qb Ga G13 Cb hba hb13
  go_wp2_with fail
  have D:=(Below.refl w13.heap.size w13).drew
  have keep:∀ w',Below w13.heap.size w13 w'→((fun w'=>(w'.cell? ⟨w8.heap.size,0,none⟩=some (.string R.cl)∧w'.cell? ⟨w8.heap.size,1,none⟩=some (.string R.us)∧w'.cell? ⟨w8.heap.size,2,none⟩=some (.int .i64 R.lv)∧w'.cell? ⟨w8.heap.size,3,none⟩=some (.int .i64 R.nw)∧w'.cell? ⟨w8.heap.size,4,none⟩=some (.slice (some s1) n1 n1)∧w'.cell? ⟨w8.heap.size,5,none⟩=some (.slice (some s2) n2 n2))∧w'.cell? ⟨w.heap.size+1,0,none⟩=some (.string R.cl)∧w'.cell? ⟨w.heap.size+1,1,none⟩=some (.string R.us)∧w'.cell? ⟨w.heap.size+1,2,none⟩=some (.int .i64 R.lv)∧w'.cell? ⟨w.heap.size+1,3,none⟩=some (.int .i64 R.nw)∧w'.cell? ⟨w.heap.size+1,4,none⟩=some (.slice a1 n1 c1)∧w'.cell? ⟨w.heap.size+1,5,none⟩=some (.slice a2 n2 c2)) w'):=fun w' hb=>⟨row6D (RY.after hb nl),row6D (RR6.after hb nl)⟩
  have KP:=hide keep
  have EX:=(uh HE).below (B6.trans (D.mono B6.size)) nl
  have q1:=keep _ D
  clear keep
  go_region_held3 (fun w'=>(w'.cell? ⟨w8.heap.size,0,none⟩=some (.string R.cl)∧w'.cell? ⟨w8.heap.size,1,none⟩=some (.string R.us)∧w'.cell? ⟨w8.heap.size,2,none⟩=some (.int .i64 R.lv)∧w'.cell? ⟨w8.heap.size,3,none⟩=some (.int .i64 R.nw)∧w'.cell? ⟨w8.heap.size,4,none⟩=some (.slice (some s1) n1 n1)∧w'.cell? ⟨w8.heap.size,5,none⟩=some (.slice (some s2) n2 n2))∧w'.cell? ⟨w.heap.size+1,0,none⟩=some (.string R.cl)∧w'.cell? ⟨w.heap.size+1,1,none⟩=some (.string R.us)∧w'.cell? ⟨w.heap.size+1,2,none⟩=some (.int .i64 R.lv)∧w'.cell? ⟨w.heap.size+1,3,none⟩=some (.int .i64 R.nw)∧w'.cell? ⟨w.heap.size+1,4,none⟩=some (.slice a1 n1 c1)∧w'.cell? ⟨w.heap.size+1,5,none⟩=some (.slice a2 n2 c2)) (first | assumption | fail)
   (first
    | (go_at_call 8;refine (toR_any EX (uh Hk).1 (uh Hk).2).mono ?_;rintro e w14 ⟨e1,e2,rfl,Cb,hba,_⟩;have Ga:=D.trans (hba.mono D.size);have qa:=uh KP _ Ga)
    | (go_at_call 12;refine (eqRequest_same _ _ _ _ _ _ _ R.s1 _ _ _ R.s2 _ _ _ _ _ (CR.below Ga nl).1.1 (CR.below Ga nl).1.2 Cb.1.1 Cb.1.2).mono ?_;rintro e w15 ⟨rfl,hb15⟩;have G15:=Ga.trans (hb15.mono Ga.size);have qb:=uh KP _ G15))
  replace RT6:=RT6.after G15 nl
  replace RR6:=RR6.after G15 nl
  replace RW:=RW.after G15 nl
  replace RX:=RX.after G15 nl
  replace RY:=RY.after G15 nl
  replace RG:=RG.after G15 nl
  replace OW:=OW.below G15 OW.top
  replace OG:=OG.below G15 OG.top
  replace CT:=CT.below G15 nl
  replace CR:=CR.below G15 nl
  replace MT:=MT.below G15
  replace B6:=B6.trans (G15.mono B6.size)
  clear D KP EX q1 qa qb Ga G15 Cb hba hb15
  obtain ⟨v0,v1,v2⟩:=rowT3 RX
  obtain ⟨u0,u1,u2,u3,u4,u5⟩:=row6D RY
  obtain ⟨_,hn,hm,hp⟩:True∧n≤1048576∧m≤1048576∧p≤1048576:=⟨trivial,(uh Hs).1.1.1,(uh Hs).1.2.1,(uh Hs).2⟩
  go_wp2_with fail
  refine (markTyped_z X1.heap.size w6.heap.size t1 t2 t3 n m p _ MT (Nat.le_of_lt RX.lt) hn hm hp).mono ?_
  rintro e w16 ⟨⟨y,rfl,hy⟩,T16⟩
  replace RT6:=rowTouch RT6 T16 (.inl (by omega))
  replace RR6:=rowTouch RR6 T16 (.inl (by omega))
  replace RW:=rowTouch RW T16 (.inl (by omega))
  replace RY:=rowTouch RY T16 (.inr (by omega))
  replace RG:=rowTouch RG T16 (.inr (by omega))
  replace OW:=OW.touch T16 (.inl nl)
  replace OG:=OG.touch T16 (.inr (by omega))
  have W1:=CR.2.1.touch T16 (.inr (by have:=MR.1.1;omega))
  have W2:=CR.2.2.touch T16 (.inr (by have:=MR.2.1;omega))
  replace B6:=below_touch B6 T16 (by omega) B6.size
  clear v0 v1 v2 u0 u1 u2 u3 u4 u5
  obtain ⟨u0,u1,u2,u3,u4,u5⟩:=row6D RY
  clear CT MT CR T16 RX
  dsimp only
  go_wp2_with fail
  refine (markRequest_z R.cl R.us R.lv R.nw s1 s2 n1 n2 (w6.heap.size+1) w8.heap.size y _ W1 W2 MR.1 MR.2 (Nat.le_of_lt RY.lt) hy (uh Hk).1 (uh Hk).2).mono ?_
  rintro e w17 ⟨⟨z,rfl,hz⟩,T17⟩
  replace RT6:=rowTouch RT6 T17 (.inl (by omega))
  replace RR6:=rowTouch RR6 T17 (.inl (by omega))
  replace RW:=rowTouch RW T17 (.inl (by omega))
  replace RG:=rowTouch RG T17 (.inr (by omega))
  replace OW:=OW.touch T17 (.inl (by omega))
  replace OG:=OG.touch T17 (.inr (by omega))
  replace B6:=below_touch B6 T17 (by omega) B6.size
  clear u0 u1 u2 u3 u4 u5
  clear T17 W1 W2 RY MR hy
  have znn:¬ ((z:Int)<0):=by omega
  obtain ⟨v0,v1,v2⟩:=rowT3 RW
  obtain ⟨u0,u1,u2⟩:=rowT3 RG
  dsimp only
  go_wp2_with fail
  refine (eqOutcome_same o1 o2 _ _ _ _ _ ss _ OG.strs OW.strs).mono ?_
  rintro e w18 ⟨rfl,hb18⟩
  replace RT6:=RT6.after hb18 nl
  replace RR6:=RR6.after hb18 nl
  replace RW:=RW.after hb18 nl
  replace RG:=RG.after hb18 nl
  replace OW:=OW.below hb18 OW.top
  replace OG:=OG.below hb18 OG.top
  replace B6:=B6.trans (hb18.mono B6.size)
  clear v0 v1 v2 u0 u1 u2
  clear hb18 znn hz
  obtain ⟨u0,u1,u2⟩:=rowT3 RG
  dsimp only
  go_wp2_with fail
  refine (markOutcome_any o1 o2 _ _ _ _ _ ss _ OG (uh HLZ)).mono ?_
  rintro e w19 ⟨rfl,OM,T19⟩
  replace RT6:=rowTouch RT6 T19 (.inl (by omega))
  replace RR6:=rowTouch RR6 T19 (.inl (by omega))
  replace RW:=rowTouch RW T19 (.inl (by omega))
  replace RG:=rowTouch RG T19 (.inr (by omega))
  replace OW:=OW.touch T19 (.inl (by omega))
  replace B6:=below_touch B6 T19 (by omega) B6.size
  clear OG T19
  clear u0 u1 u2
  obtain ⟨u0,u1,u2⟩:=rowT3 RG
  dsimp only
  go_wp2_with fail
  refine (heldOutcome_any o1 o2 _ _ _ _ OM.strs (uh HLZ)).mono ?_
  rintro e w20 ⟨rfl,hb20⟩
  replace RT6:=RT6.after hb20 nl
  replace RR6:=RR6.after hb20 nl
  replace RW:=RW.after hb20 nl
  replace RG:=RG.after hb20 nl
  replace OW:=OW.below hb20 OW.top
  replace OM:=OM.below hb20 OM.top
  replace B6:=B6.trans (hb20.mono B6.size)
  clear hb20
  have hq:¬ ((1:Int)+(ss.length:Int)<0):=by omega
  clear u0 u1 u2
  dsimp only
  go_wp2_with fail
  have D:=(Below.refl w20.heap.size w20).drew
  have Da:=D.alloc D.size (.cells #[.int .i64 0,.int .i64 0,.slice none 0 0] 33)
  have RZ:=Row.new w20.drew #[.int .i64 0,.int .i64 0,.slice none 0 0] 33
  simp only [World.size_drew] at RZ
  have keep:∀ w',Below w20.heap.size w20 w'→((fun w'=>(w'.cell? ⟨w.heap.size,0,none⟩=some (.slice a n c)∧w'.cell? ⟨w.heap.size,1,none⟩=some (.slice b m d)∧w'.cell? ⟨w.heap.size,2,none⟩=some (.slice f p g))∧w'.cell? ⟨w.heap.size+1,0,none⟩=some (.string R.cl)∧w'.cell? ⟨w.heap.size+1,1,none⟩=some (.string R.us)∧w'.cell? ⟨w.heap.size+1,2,none⟩=some (.int .i64 R.lv)∧w'.cell? ⟨w.heap.size+1,3,none⟩=some (.int .i64 R.nw)∧w'.cell? ⟨w.heap.size+1,4,none⟩=some (.slice a1 n1 c1)∧w'.cell? ⟨w.heap.size+1,5,none⟩=some (.slice a2 n2 c2)) w'):=fun w' hb=>⟨rowT3 (RT6.after hb nl),row6D (RR6.after hb nl)⟩
  have KP:=hide keep
  have HX:=hide (fun (w':World) (hb:Below w20.heap.size w20 w')=>(uh HE).below (B6.trans (hb.mono B6.size)) nl)
  have q1:=keep _ D
  have q2:=keep _ Da
  clear keep
  go_region_held3 (fun w'=>(w'.cell? ⟨w.heap.size,0,none⟩=some (.slice a n c)∧w'.cell? ⟨w.heap.size,1,none⟩=some (.slice b m d)∧w'.cell? ⟨w.heap.size,2,none⟩=some (.slice f p g))∧w'.cell? ⟨w.heap.size+1,0,none⟩=some (.string R.cl)∧w'.cell? ⟨w.heap.size+1,1,none⟩=some (.string R.us)∧w'.cell? ⟨w.heap.size+1,2,none⟩=some (.int .i64 R.lv)∧w'.cell? ⟨w.heap.size+1,3,none⟩=some (.int .i64 R.nw)∧w'.cell? ⟨w.heap.size+1,4,none⟩=some (.slice a1 n1 c1)∧w'.cell? ⟨w.heap.size+1,5,none⟩=some (.slice a2 n2 c2)) (first | assumption | fail)
   (first
    | (go_at_call 7;refine (toT_any (uh HX _ D) (uh Hs)).mono ?_;rintro e w3 ⟨x1,x2,x3,rfl,C3,hb3,M3⟩;have G3:=D.trans (hb3.mono D.size);have q3:=uh KP _ G3;have q3a:=uh KP _ (G3.alloc G3.size (.cells #[.int .i64 0,.int .i64 0,.slice none 0 0] 33)))
    | (go_at_call 7;refine (toT_any (uh HX _ Da) (uh Hs)).mono ?_;rintro e w3 ⟨x1,x2,x3,rfl,C3,hb3,M3⟩;have G3:=Da.trans (hb3.mono Da.size);have q3:=uh KP _ G3;have RZ3:=RZ.after hb3 (by simp))
    | (go_at_call 8;refine (toR_any (uh HX _ G3) (uh Hk).1 (uh Hk).2).mono ?_;rintro e w4 ⟨z1,z2,rfl,C4,hb4,M4⟩;have G4:=G3.trans (hb4.mono G3.size);have q4:=uh KP _ G4;have RZ4:=RZ3.after hb4 nl;have A34:=hb4)
    | (go_at_call 8;refine (toR_any (uh HX _ G3) (uh Hk).1 (uh Hk).2).mono ?_;rintro e w4 ⟨z1,z2,rfl,C4,hb4,M4⟩;have G4:=G3.trans (hb4.mono G3.size);have q4:=uh KP _ G4;have q4a:=uh KP _ (G4.alloc G4.size (.cells #[.int .i64 0,.int .i64 0,.slice none 0 0] 33));have A34:=hb4)
    | (go_at_call 8;refine (toR_any (uh HX _ (G3.alloc G3.size (.cells #[.int .i64 0,.int .i64 0,.slice none 0 0] 33))) (uh Hk).1 (uh Hk).2).mono ?_;rintro e w4 ⟨z1,z2,rfl,C4,hb4,M4⟩;have A34:=((Below.refl w3.heap.size w3).alloc nl (.cells #[.int .i64 0,.int .i64 0,.slice none 0 0] 33)).trans (hb4.mono (by simp));have G4:=G3.trans (A34.mono G3.size);have q4:=uh KP _ G4;have RZ4:=(Row.new w3 #[.int .i64 0,.int .i64 0,.slice none 0 0] 33).after hb4 nl)
    | (go_at_call 9;have RZ4':=RZ4;refine (iDec_any (uh HA) (uh HX _ G4) (C3.below A34 nl) C4 (uh HDC)).mono ?_;rintro r w5 ⟨⟨xh,ch,rfl,OO⟩,hb5⟩;have G5:=G4.trans (hb5.mono G4.size);have q5:=uh KP _ G5;have A45:=hb5;have RZ5:=RZ4'.after hb5 nl;obtain ⟨u0,u1,u2⟩:=rowT3 RZ5;have uf:=(fun j=>RZ5.frozen j);have G6:=below_set3 G5 RZ5 (by have:=G3.size;have:=G4.size;omega) (.int .i64 o1) (.int .i64 o2) (.slice xh ss.length ch);have q6:=uh KP _ G6)
    | (go_at_call 9;refine (iDec_any (uh HA) (uh HX _ G4) (C3.below A34 nl) C4 (uh HDC)).mono ?_;rintro r w5 ⟨⟨xh,ch,rfl,OO⟩,hb5⟩;have G5:=G4.trans (hb5.mono G4.size);have q5:=uh KP _ G5;have A45:=hb5;have q5a:=uh KP _ (G5.alloc G5.size (.cells #[.int .i64 0,.int .i64 0,.slice none 0 0] 33));have G6:=G5.alloc G5.size (.cells #[.int .i64 o1,.int .i64 o2,.slice xh ss.length ch] 33);have q6:=uh KP _ G6)
    | (go_at_call 9;refine (iDec_any (uh HA) (uh HX _ (G4.alloc G4.size (.cells #[.int .i64 0,.int .i64 0,.slice none 0 0] 33))) ((C3.below A34 nl).below ((Below.refl w4.heap.size w4).alloc nl (.cells #[.int .i64 0,.int .i64 0,.slice none 0 0] 33)) nl) (C4.below ((Below.refl w4.heap.size w4).alloc nl (.cells #[.int .i64 0,.int .i64 0,.slice none 0 0] 33)) nl) (uh HDC)).mono ?_;rintro r w5 ⟨⟨xh,ch,rfl,OO⟩,hb5⟩;have A45:=((Below.refl w4.heap.size w4).alloc nl (.cells #[.int .i64 0,.int .i64 0,.slice none 0 0] 33)).trans (hb5.mono (by simp));have G5:=G4.trans (A45.mono G4.size);have q5:=uh KP _ G5;have RZ5:=(Row.new w4 #[.int .i64 0,.int .i64 0,.slice none 0 0] 33).after hb5 nl;obtain ⟨u0,u1,u2⟩:=rowT3 RZ5;have uf:=(fun j=>RZ5.frozen j);have G6:=below_set3 G5 RZ5 (by have:=G3.size;have:=G4.size;omega) (.int .i64 o1) (.int .i64 o2) (.slice xh ss.length ch);have q6:=uh KP _ G6))
  all_goals first
  | (have RH:=Row.new w5 #[.int .i64 o1,.int .i64 o2,.slice xh ss.length ch] 33
     have HS:=Strs.of_owns (World.ownsRow.alloc OO (.cells #[.int .i64 o1,.int .i64 o2,.slice xh ss.length ch] 33)) OW.sizes
     replace RW:=RW.after G6 nl
     replace RG:=RG.after G6 nl
     replace OW:=OW.below G6 OW.top
     replace OM:=OM.below G6 OM.top
     replace B6:=B6.trans (G6.mono B6.size)
     clear KP HX D Da RZ q1 q2 q3 q4 q5 q6 G3 G4 G5 G6 A34 A45 C3 C4 M3 M4 hb3 hb4 hb5 OO RT6 RR6 q3a q4a q5a)
  | (have RH:=((RZ5.set 0 (.int .i64 o1)).set 1 (.int .i64 o2)).set 2 (.slice xh ss.length ch)
     have ne:∀ q,(Value.slice xh ss.length ch).ownBlock=some q→q≠w4.heap.size:=fun q hq h=>own_ne_row RZ5 OO (by decide) (by rw [hq,h])
     have HS:=Strs.of_owns (own_set3 (own_set3 (own_set3 OO ⟨w4.heap.size,0,none⟩ (.int .i64 o1) ne) ⟨w4.heap.size,1,none⟩ (.int .i64 o2) ne) ⟨w4.heap.size,2,none⟩ (.slice xh ss.length ch) ne) OW.sizes
     replace RW:=RW.after G6 nl
     replace RG:=RG.after G6 nl
     replace OW:=OW.below G6 OW.top
     replace OM:=OM.below G6 OM.top
     replace B6:=B6.trans (G6.mono B6.size)
     clear KP HX D Da RZ q1 q2 q3 q4 q5 q6 G3 G4 G5 G6 A34 A45 C3 C4 M3 M4 hb3 hb4 hb5 OO RT6 RR6 RZ5 u0 u1 u2 uf ne q3a q4a)
  | (have RH:=((RZ5.set 0 (.int .i64 o1)).set 1 (.int .i64 o2)).set 2 (.slice xh ss.length ch)
     have ne:∀ q,(Value.slice xh ss.length ch).ownBlock=some q→q≠w3.heap.size:=fun q hq h=>own_ne_row RZ5 OO (by decide) (by rw [hq,h])
     have HS:=Strs.of_owns (own_set3 (own_set3 (own_set3 OO ⟨w3.heap.size,0,none⟩ (.int .i64 o1) ne) ⟨w3.heap.size,1,none⟩ (.int .i64 o2) ne) ⟨w3.heap.size,2,none⟩ (.slice xh ss.length ch) ne) OW.sizes
     replace RW:=RW.after G6 nl
     replace RG:=RG.after G6 nl
     replace OW:=OW.below G6 OW.top
     replace OM:=OM.below G6 OM.top
     replace B6:=B6.trans (G6.mono B6.size)
     clear KP HX D Da RZ q1 q2 q3 q4 q5 q6 G3 G4 G5 G6 A34 A45 C3 C4 M3 M4 hb3 hb4 hb5 OO RT6 RR6 RZ5 u0 u1 u2 uf ne q3a RZ4 RZ4')
  | (have RH:=((RZ5.set 0 (.int .i64 o1)).set 1 (.int .i64 o2)).set 2 (.slice xh ss.length ch)
     have ne:∀ q,(Value.slice xh ss.length ch).ownBlock=some q→q≠w20.heap.size:=fun q hq h=>own_ne_row RZ5 OO (by decide) (by rw [hq,h])
     have HS:=Strs.of_owns (own_set3 (own_set3 (own_set3 OO ⟨w20.heap.size,0,none⟩ (.int .i64 o1) ne) ⟨w20.heap.size,1,none⟩ (.int .i64 o2) ne) ⟨w20.heap.size,2,none⟩ (.slice xh ss.length ch) ne) OW.sizes
     replace RW:=RW.after G6 nl
     replace RG:=RG.after G6 nl
     replace OW:=OW.below G6 OW.top
     replace OM:=OM.below G6 OM.top
     replace B6:=B6.trans (G6.mono B6.size)
     clear KP HX D Da RZ q1 q2 q3 q4 q5 q6 G3 G4 G5 G6 A34 A45 C3 C4 M3 M4 hb3 hb4 hb5 OO RT6 RR6 RZ5 u0 u1 u2 uf ne RZ3 RZ4 RZ4')
  all_goals
   obtain ⟨v0,v1,v2⟩:=rowT3 RH
   obtain ⟨u0,u1,u2⟩:=rowT3 RW
   go_wp2_with fail
   refine (eqOutcome_same o1 o2 _ _ _ _ _ ss _ HS OW.strs).mono ?_
   rintro e w21 ⟨rfl,hb21⟩
   replace RG:=RG.after hb21 nl
   replace OM:=OM.below hb21 OM.top
   replace B6:=B6.trans (hb21.mono B6.size)
   clear hb21 HS OW RW RH
   clear v0 v1 v2 u0 u1 u2
   obtain ⟨u0,u1,u2⟩:=rowT3 RG
   dsimp only
   go_wp2_with fail
   refine (heldOutcome_any o1 o2 _ _ _ _ OM.strs (uh HLZ)).mono ?_
   rintro e w22 ⟨rfl,hb22⟩
   replace B6:=B6.trans (hb22.mono B6.size)
   dsimp only
   go_wp2_with fail
   go_ret
   exact ⟨rfl,B6⟩

end Go.Proofs.YtedlocniojlhfaaGreatDoor
