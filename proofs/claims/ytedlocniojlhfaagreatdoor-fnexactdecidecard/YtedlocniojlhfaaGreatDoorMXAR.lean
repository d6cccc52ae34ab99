/-
  DVH, DVI, DVJ, DVL, DVM, JI. Own work.
-/
import Derived.Test.YtedlocniojlhfaaGreatDoorMXAP
import Derived.Test.YtedlocniojlhfaaGreatDoorMXAQ
import Derived.Test.YtedlocniojlhfaaGreatDoorMXAG
import Derived.Test.YtedlocniojlhfaaGreatDoorMXAT
namespace Go.Proofs.YtedlocniojlhfaaGreatDoor
set_option maxRecDepth 100000
set_option maxHeartbeats 1600000
open Go.RowKit
set_option linter.unusedVariables false

variable {aS aO aZ aW:Addr} {G:Nat→Prop}

def Ex.mem (G:Nat→Prop) (w:World):Ex→Prop
 | .int _ n=>I64 n
 | .set _ a n c ss=>Strs w a n c ss∧ss.length≤1048576∧∀ ad,a=some ad→0<n→G ad.block
 | .un _ _ k=>k.mem G w
 | .bin _ _ k l=>k.mem G w∧l.mem G w
 | .ite _ k l m=>k.mem G w∧l.mem G w∧m.mem G w
 | _=>True

theorem Ex.mem_below {w w':World} {B:Nat} (hb:Below B w w') (hB:w.heap.size≤B):∀ (e:Ex),e.mem G w→e.mem G w'
 | .int ..,h=>h
 | .text ..,h=>h
 | .bool ..,h=>h
 | .set ..,h=>⟨Strs.below h.1 hb hB,h.2⟩
 | .name ..,h=>h
 | .attr ..,h=>h
 | .lett ..,h=>h
 | .un _ _ k,h=>k.mem_below hb hB h
 | .bin _ _ k l,h=>⟨k.mem_below hb hB h.1,l.mem_below hb hB h.2⟩
 | .ite _ k l m,h=>⟨k.mem_below hb hB h.1,l.mem_below hb hB h.2.1,m.mem_below hb hB h.2.2⟩

structure EvM (G:Nat→Prop) (aS aO aZ aW:Addr) (eb:Nat) (R:Rq) (a1:Option Addr) (n1 c1:Nat) (a2:Option Addr) (n2 c2:Nat) (la:Option Addr) (lc:Nat) (ls:List Vv) (w:World):Prop where
 row:Row w eb #[.string R.cl,.string R.us,.int .i64 R.lv,.int .i64 R.nw,.slice a1 n1 c1,.slice a2 n2 c2,.slice la ls.length lc] 62
 s1:Strs w a1 n1 c1 R.s1
 s2:Strs w a2 n2 c2 R.s2
 l1:R.s1.length≤1048576
 l2:R.s2.length≤1048576
 g1:∀ ad,a1=some ad→0<n1→G ad.block
 g2:∀ ad,a2=some ad→0<n2→G ad.block
 fresh:∀ b,w.heap.size≤b→G b
 lv:I64 R.lv
 nw:I64 R.nw
 small:ls.length≤1000
 lets:∀ j,(h:j<ls.length)→∃ b off x,la=some ⟨b,off,none⟩∧b<w.heap.size∧w.cell? ⟨b,off+j,none⟩=some x∧VIs G w x ls[j]
 sent:Sent w aS aO aZ aW

theorem EvM.below {eb:Nat} {R:Rq} {a1:Option Addr} {n1 c1:Nat} {a2:Option Addr} {n2 c2:Nat} {la:Option Addr} {lc:Nat} {ls:List Vv} {w w':World} (h:EvM G aS aO aZ aW eb R a1 n1 c1 a2 n2 c2 la lc ls w) (hb:Below w.heap.size w w'):EvM G aS aO aZ aW eb R a1 n1 c1 a2 n2 c2 la lc ls w' :=
 ⟨h.row.after hb nl,h.s1.below hb nl,h.s2.below hb nl,h.l1,h.l2,h.g1,h.g2,fun b hb2=>h.fresh b (Nat.le_trans hb.size hb2),h.lv,h.nw,h.small,fun j hj=>by
  obtain ⟨b,off,x,h1,h2,h3,h4⟩:=h.lets j hj
  exact ⟨b,off,x,h1,Nat.lt_of_lt_of_le h2 hb.size,(hb.cell (p:=⟨b,off+j,none⟩) h2).trans h3,h4.below hb nl⟩,h.sent.below hb nl⟩

theorem row7 {w:World} {b:Nat} {v0 v1 v2 v3 v4 v5 v6:Value} {t:TypeId} (R:Row w b #[v0,v1,v2,v3,v4,v5,v6] t):w.cell? ⟨b,0,none⟩=some v0∧w.cell? ⟨b,1,none⟩=some v1∧w.cell? ⟨b,2,none⟩=some v2∧w.cell? ⟨b,3,none⟩=some v3∧w.cell? ⟨b,4,none⟩=some v4∧w.cell? ⟨b,5,none⟩=some v5∧w.cell? ⟨b,6,none⟩=some v6:=⟨R.cell 0,R.cell 1,R.cell 2,R.cell 3,R.cell 4,R.cell 5,R.cell 6⟩

theorem VC.weak {eb:Nat} {P Q:World→Prop} {x:Value} {o:Ev} (h:VC G aS aO aZ aW eb Q x o) (hPQ:∀ W,P W→Q W):VC G aS aO aZ aW eb P x o:=fun W hW=>h W (hPQ W hW)

theorem value_int (eb:Nat) (P:World→Prop) (i n:Int) (hn:I64 n):VC G aS aO aZ aW eb P (.iface 150 (.agg #[.int .i64 i,.int .i64 n])) (.ok (.int n)):=by
 intro W hW
 have ta0:=ta_hit (T:=150) Tryz.underlying150 111
 have B0:=(Below.refl W.heap.size W).alloc nl (.cells #[.int .i64 i,.int .i64 n] 150)
 go_enter Tryz.func60,Tryz.ntmps60
 go_wp2_with fail
 exact bodyPost_ret (v:=.tuple #[.iface 151 (.int .i64 n),.nilIface]) (by simp [results,Tryz.results60,go_sem]) rfl ⟨⟨_,rfl,rfl,hn⟩,B0⟩

theorem value_text (eb:Nat) (P:World→Prop) (i:Int) (s:ByteArray):VC G aS aO aZ aW eb P (.iface 153 (.agg #[.int .i64 i,.string s])) (.ok (.text s)):=by
 intro W hW
 have ta0:=ta_miss (S:=153) (T:=150) Tryz.underlying150 Tryz.zeroValue150 (by decide) 111
 have ta1:=ta_hit (T:=153) Tryz.underlying153 111
 have B0:=(Below.refl W.heap.size W).alloc nl (.cells #[.int .i64 i,.string s] 153)
 go_enter Tryz.func60,Tryz.ntmps60
 go_wp2_with fail
 exact bodyPost_ret (v:=.tuple #[.iface 154 (.string s),.nilIface]) (by simp [results,Tryz.results60,go_sem]) rfl ⟨⟨_,rfl,rfl⟩,B0⟩

theorem value_bool (eb:Nat) (P:World→Prop) (i:Int) (b:Bool):VC G aS aO aZ aW eb P (.iface 156 (.agg #[.int .i64 i,.bool b])) (.ok (.bool b)):=by
 intro W hW
 have ta0:=ta_miss (S:=156) (T:=150) Tryz.underlying150 Tryz.zeroValue150 (by decide) 111
 have ta1:=ta_miss (S:=156) (T:=153) Tryz.underlying153 Tryz.zeroValue153 (by decide) 111
 have ta2:=ta_hit (T:=156) Tryz.underlying156 111
 have B0:=(Below.refl W.heap.size W).alloc nl (.cells #[.int .i64 i,.bool b] 156)
 go_enter Tryz.func60,Tryz.ntmps60
 go_wp2_with fail
 exact bodyPost_ret (v:=.tuple #[.iface 119 (.bool b),.nilIface]) (by simp [results,Tryz.results60,go_sem]) rfl ⟨⟨_,rfl,rfl⟩,B0⟩

theorem value_set (eb:Nat) (P:World→Prop) (i:Int) (a:Option Addr) (n c:Nat) (ss:List ByteArray) (hS:∀ W,P W→Strs W a n c ss∧ss.length≤1048576∧∀ ad,a=some ad→0<n→G ad.block):VC G aS aO aZ aW eb P (.iface 158 (.agg #[.int .i64 i,.slice a n c])) (.ok (.set ss)):=by
 intro W hW
 have ta0:=ta_miss (S:=158) (T:=150) Tryz.underlying150 Tryz.zeroValue150 (by decide) 111
 have ta1:=ta_miss (S:=158) (T:=153) Tryz.underlying153 Tryz.zeroValue153 (by decide) 111
 have ta2:=ta_miss (S:=158) (T:=156) Tryz.underlying156 Tryz.zeroValue156 (by decide) 111
 have ta3:=ta_hit (T:=158) Tryz.underlying158 111
 have B0:=(Below.refl W.heap.size W).alloc nl (.cells #[.int .i64 i,.slice a n c] 158)
 go_enter Tryz.func60,Tryz.ntmps60
 go_wp2_with fail
 exact bodyPost_ret (v:=.tuple #[.iface 146 (.slice a n c),.nilIface]) (by simp [results,Tryz.results60,go_sem]) rfl ⟨⟨_,rfl,_,_,_,rfl,(hS W hW).1.below B0 nl,(hS W hW).2⟩,B0⟩

theorem value_attr (eb:Nat) (P:World→Prop) (R:Rq) (a1:Option Addr) (n1 c1:Nat) (a2:Option Addr) (n2 c2:Nat) (la:Option Addr) (lc:Nat) (ls:List Vv) (hE:∀ W,P W→EvM G aS aO aZ aW eb R a1 n1 c1 a2 n2 c2 la lc ls W) (i n:Int) (hn:0≤n∧n<6):VC G aS aO aZ aW eb P (.iface 159 (.agg #[.int .i64 i,.int .i64 n])) (.ok (attrV R n)):=by
 intro W hW
 have ta0:=ta_miss (S:=159) (T:=150) Tryz.underlying150 Tryz.zeroValue150 (by decide) 111
 have ta1:=ta_miss (S:=159) (T:=153) Tryz.underlying153 Tryz.zeroValue153 (by decide) 111
 have ta2:=ta_miss (S:=159) (T:=156) Tryz.underlying156 Tryz.zeroValue156 (by decide) 111
 have ta3:=ta_miss (S:=159) (T:=158) Tryz.underlying158 Tryz.zeroValue158 (by decide) 111
 have ta4:=ta_hit (T:=159) Tryz.underlying159 111
 have B0:=(Below.refl W.heap.size W).alloc nl (.cells #[.int .i64 i,.int .i64 n] 159)
 have M0:=(hE W hW).below B0
 obtain ⟨r0,r1,r2,r3,r4,r5,r6⟩:=row7 M0.row
 have E0:=Row.new W #[.int .i64 i,.int .i64 n] 159
 have BD:=(Below.refl (W.alloc (.cells #[.int .i64 i,.int .i64 n] 159)).heap.size (W.alloc (.cells #[.int .i64 i,.int .i64 n] 159))).drew
 have MD:=M0.below BD
 have HC:=hide (attrValue_any R.cl R.us R.lv R.nw a1 n1 c1 R.s1 a2 n2 c2 R.s2 _ MD.lv MD.nw MD.s1 MD.s2 MD.l1 MD.l2 MD.g1 MD.g2 n hn)
 have ED:=E0.after BD nl
 clear hE hW hn
 go_enter Tryz.func60,Tryz.ntmps60
 go_wp2_with fail
 have s6:(W.alloc (.cells #[.int .i64 i,.int .i64 n] 159)).drew.cell? ⟨eb,0,none⟩=some (.string R.cl)∧(W.alloc (.cells #[.int .i64 i,.int .i64 n] 159)).drew.cell? ⟨eb,1,none⟩=some (.string R.us)∧(W.alloc (.cells #[.int .i64 i,.int .i64 n] 159)).drew.cell? ⟨eb,2,none⟩=some (.int .i64 R.lv)∧(W.alloc (.cells #[.int .i64 i,.int .i64 n] 159)).drew.cell? ⟨eb,3,none⟩=some (.int .i64 R.nw)∧(W.alloc (.cells #[.int .i64 i,.int .i64 n] 159)).drew.cell? ⟨eb,4,none⟩=some (.slice a1 n1 c1)∧(W.alloc (.cells #[.int .i64 i,.int .i64 n] 159)).drew.cell? ⟨eb,5,none⟩=some (.slice a2 n2 c2)∧(W.alloc (.cells #[.int .i64 i,.int .i64 n] 159)).drew.cell? ⟨W.heap.size,1,none⟩=some (.int .i64 n):=⟨r0,r1,r2,r3,r4,r5,E0.cell 1⟩
 go_region_held3 (fun w'=>w'.cell? ⟨eb,0,none⟩=some (.string R.cl)∧w'.cell? ⟨eb,1,none⟩=some (.string R.us)∧w'.cell? ⟨eb,2,none⟩=some (.int .i64 R.lv)∧w'.cell? ⟨eb,3,none⟩=some (.int .i64 R.nw)∧w'.cell? ⟨eb,4,none⟩=some (.slice a1 n1 c1)∧w'.cell? ⟨eb,5,none⟩=some (.slice a2 n2 c2)∧w'.cell? ⟨W.heap.size,1,none⟩=some (.int .i64 n)) (first | assumption | go_keep) ((go_at_call 86;refine (uh HC).mono ?_;rintro r w1 ⟨⟨x,rfl,hx⟩,hb1⟩;have MM:=MD.below hb1;obtain ⟨m0,m1,m2,m3,m4,m5,m6⟩:=row7 MM.row;have s7:w1.cell? ⟨eb,0,none⟩=some (.string R.cl)∧w1.cell? ⟨eb,1,none⟩=some (.string R.us)∧w1.cell? ⟨eb,2,none⟩=some (.int .i64 R.lv)∧w1.cell? ⟨eb,3,none⟩=some (.int .i64 R.nw)∧w1.cell? ⟨eb,4,none⟩=some (.slice a1 n1 c1)∧w1.cell? ⟨eb,5,none⟩=some (.slice a2 n2 c2)∧w1.cell? ⟨W.heap.size,1,none⟩=some (.int .i64 n):=⟨m0,m1,m2,m3,m4,m5,(ED.after hb1 nl).cell 1⟩;obtain ⟨tx,ux,rfl⟩:=hx.form))
 all_goals
  go_wp2_with fail
  exact bodyPost_ret (v:=.tuple #[.iface tx ux,.nilIface]) (by simp [results,Tryz.results60,go_sem]) rfl ⟨⟨_,rfl,hx⟩,(B0.trans (BD.mono B0.size)).trans (hb1.mono (Nat.le_trans B0.size BD.size))⟩

theorem value_lett (eb:Nat) (P:World→Prop) (R:Rq) (a1:Option Addr) (n1 c1:Nat) (a2:Option Addr) (n2 c2:Nat) (la:Option Addr) (lc:Nat) (ls:List Vv) (hE:∀ W,P W→EvM G aS aO aZ aW eb R a1 n1 c1 a2 n2 c2 la lc ls W) (i:Int) (n:Nat) (hn:n<ls.length):VC G aS aO aZ aW eb P (.iface 161 (.agg #[.int .i64 i,.int .i64 n])) (.ok ls[n]):=by
 intro W hW
 have ta0:=ta_miss (S:=161) (T:=150) Tryz.underlying150 Tryz.zeroValue150 (by decide) 111
 have ta1:=ta_miss (S:=161) (T:=153) Tryz.underlying153 Tryz.zeroValue153 (by decide) 111
 have ta2:=ta_miss (S:=161) (T:=156) Tryz.underlying156 Tryz.zeroValue156 (by decide) 111
 have ta3:=ta_miss (S:=161) (T:=158) Tryz.underlying158 Tryz.zeroValue158 (by decide) 111
 have ta4:=ta_miss (S:=161) (T:=159) Tryz.underlying159 Tryz.zeroValue159 (by decide) 111
 have ta5:=ta_hit (T:=161) Tryz.underlying161 111
 have B0:=(Below.refl W.heap.size W).alloc nl (.cells #[.int .i64 i,.int .i64 n] 161)
 have M0:=(hE W hW).below B0
 obtain ⟨r0,r1,r2,r3,r4,r5,r6⟩:=row7 M0.row
 have hsm:=M0.small
 have iln:(n:Int)<(ls.length:Int):=by omega
 obtain ⟨b,off,x,rfl,hb,hc,hx⟩:=M0.lets n hn
 obtain ⟨tx,ux,rfl⟩:=hx.form
 have BD:=(Below.refl (W.alloc (.cells #[.int .i64 i,.int .i64 n] 161)).heap.size (W.alloc (.cells #[.int .i64 i,.int .i64 n] 161))).drew
 have HX:=hide (hx.below BD nl)
 have E0:=Row.new W #[.int .i64 i,.int .i64 n] 161
 have q6:(W.alloc (.cells #[.int .i64 i,.int .i64 n] 161)).drew.cell? ⟨eb,6,none⟩=some (.slice (some ⟨b,off,none⟩) ls.length lc):=r6
 have qc:(W.alloc (.cells #[.int .i64 i,.int .i64 n] 161)).drew.cell? ⟨b,off+n,none⟩=some (.iface tx ux):=hc
 have qe:(W.alloc (.cells #[.int .i64 i,.int .i64 n] 161)).drew.cell? ⟨W.heap.size,1,none⟩=some (.int .i64 n):=E0.cell 1
 clear hE hW hx M0
 go_enter Tryz.func60,Tryz.ntmps60
 go_wp2_with fail
 go_region
 all_goals
  go_wp2_with fail
  exact bodyPost_ret (v:=.tuple #[.iface tx ux,.nilIface]) (by simp [results,Tryz.results60,go_sem]) rfl ⟨⟨_,rfl,uh HX⟩,B0.trans (BD.mono B0.size)⟩

theorem value_un (eb:Nat) (P:World→Prop) (hP:Stays P) (i op:Int) (t1:TypeId) (u1:Value) (o:Ev) (HV:Hid (∀ W,P W→Calls Tryz.prog 87 #[.pointer (some ⟨eb,0,none⟩),.agg #[.int .i64 i,.int .i64 op,.iface t1 u1]] W (VAns G aS aO aZ aW o W))):VC G aS aO aZ aW eb P (.iface 163 (.agg #[.int .i64 i,.int .i64 op,.iface t1 u1])) o:=by
 intro W hW
 have ta0:=ta_miss (S:=163) (T:=150) Tryz.underlying150 Tryz.zeroValue150 (by decide) 111
 have ta1:=ta_miss (S:=163) (T:=153) Tryz.underlying153 Tryz.zeroValue153 (by decide) 111
 have ta2:=ta_miss (S:=163) (T:=156) Tryz.underlying156 Tryz.zeroValue156 (by decide) 111
 have ta3:=ta_miss (S:=163) (T:=158) Tryz.underlying158 Tryz.zeroValue158 (by decide) 111
 have ta4:=ta_miss (S:=163) (T:=159) Tryz.underlying159 Tryz.zeroValue159 (by decide) 111
 have ta5:=ta_miss (S:=163) (T:=161) Tryz.underlying161 Tryz.zeroValue161 (by decide) 111
 have ta6:=ta_hit (T:=163) Tryz.underlying163 111
 have B0:=(Below.refl W.heap.size W).alloc nl (.cells #[.int .i64 i,.int .i64 op,.iface t1 u1] 163)
 have P0:=hP _ _ hW B0
 clear hP hW
 go_enter Tryz.func60,Tryz.ntmps60
 go_wp2_with fail
 refine (uh HV _ P0).mono ?_
 intro r w1 hr
 obtain ⟨x1,e1,rfl,hA⟩:=hr.form
 have HA:=hide hA
 clear hA hr
 dsimp only
 go_wp2_with fail
 exact bodyPost_ret (v:=.tuple #[x1,e1]) (by simp [results,Tryz.results60,go_sem]) rfl ((uh HA).back B0)

theorem value_bin (eb:Nat) (P:World→Prop) (hP:Stays P) (i op:Int) (t1:TypeId) (u1:Value) (t2:TypeId) (u2:Value) (o:Ev) (HV:Hid (∀ W,P W→Calls Tryz.prog 88 #[.pointer (some ⟨eb,0,none⟩),.agg #[.int .i64 i,.int .i64 op,.iface t1 u1,.iface t2 u2]] W (VAns G aS aO aZ aW o W))):VC G aS aO aZ aW eb P (.iface 166 (.agg #[.int .i64 i,.int .i64 op,.iface t1 u1,.iface t2 u2])) o:=by
 intro W hW
 have ta0:=ta_miss (S:=166) (T:=150) Tryz.underlying150 Tryz.zeroValue150 (by decide) 111
 have ta1:=ta_miss (S:=166) (T:=153) Tryz.underlying153 Tryz.zeroValue153 (by decide) 111
 have ta2:=ta_miss (S:=166) (T:=156) Tryz.underlying156 Tryz.zeroValue156 (by decide) 111
 have ta3:=ta_miss (S:=166) (T:=158) Tryz.underlying158 Tryz.zeroValue158 (by decide) 111
 have ta4:=ta_miss (S:=166) (T:=159) Tryz.underlying159 Tryz.zeroValue159 (by decide) 111
 have ta5:=ta_miss (S:=166) (T:=161) Tryz.underlying161 Tryz.zeroValue161 (by decide) 111
 have ta6:=ta_miss (S:=166) (T:=163) Tryz.underlying163 Tryz.zeroValue163 (by decide) 111
 have ta7:=ta_hit (T:=166) Tryz.underlying166 111
 have B0:=(Below.refl W.heap.size W).alloc nl (.cells #[.int .i64 i,.int .i64 op,.iface t1 u1,.iface t2 u2] 166)
 have P0:=hP _ _ hW B0
 clear hP hW
 go_enter Tryz.func60,Tryz.ntmps60
 go_wp2_with fail
 refine (uh HV _ P0).mono ?_
 intro r w1 hr
 obtain ⟨x1,e1,rfl,hA⟩:=hr.form
 have HA:=hide hA
 clear hA hr
 dsimp only
 go_wp2_with fail
 exact bodyPost_ret (v:=.tuple #[x1,e1]) (by simp [results,Tryz.results60,go_sem]) rfl ((uh HA).back B0)

theorem value_ite (eb:Nat) (P:World→Prop) (hP:Stays P) (i:Int) (t1:TypeId) (u1:Value) (t2:TypeId) (u2:Value) (t3:TypeId) (u3:Value) (o:Ev) (HV:Hid (∀ W,P W→Calls Tryz.prog 89 #[.pointer (some ⟨eb,0,none⟩),.agg #[.int .i64 i,.iface t1 u1,.iface t2 u2,.iface t3 u3]] W (VAns G aS aO aZ aW o W))):VC G aS aO aZ aW eb P (.iface 169 (.agg #[.int .i64 i,.iface t1 u1,.iface t2 u2,.iface t3 u3])) o:=by
 intro W hW
 have ta0:=ta_miss (S:=169) (T:=150) Tryz.underlying150 Tryz.zeroValue150 (by decide) 111
 have ta1:=ta_miss (S:=169) (T:=153) Tryz.underlying153 Tryz.zeroValue153 (by decide) 111
 have ta2:=ta_miss (S:=169) (T:=156) Tryz.underlying156 Tryz.zeroValue156 (by decide) 111
 have ta3:=ta_miss (S:=169) (T:=158) Tryz.underlying158 Tryz.zeroValue158 (by decide) 111
 have ta4:=ta_miss (S:=169) (T:=159) Tryz.underlying159 Tryz.zeroValue159 (by decide) 111
 have ta5:=ta_miss (S:=169) (T:=161) Tryz.underlying161 Tryz.zeroValue161 (by decide) 111
 have ta6:=ta_miss (S:=169) (T:=163) Tryz.underlying163 Tryz.zeroValue163 (by decide) 111
 have ta7:=ta_miss (S:=169) (T:=166) Tryz.underlying166 Tryz.zeroValue166 (by decide) 111
 have ta8:=ta_hit (T:=169) Tryz.underlying169 111
 have B0:=(Below.refl W.heap.size W).alloc nl (.cells #[.int .i64 i,.iface t1 u1,.iface t2 u2,.iface t3 u3] 169)
 have P0:=hP _ _ hW B0
 clear hP hW
 go_enter Tryz.func60,Tryz.ntmps60
 go_wp2_with fail
 refine (uh HV _ P0).mono ?_
 intro r w1 hr
 obtain ⟨x1,e1,rfl,hA⟩:=hr.form
 have HA:=hide hA
 clear hA hr
 dsimp only
 go_wp2_with fail
 exact bodyPost_ret (v:=.tuple #[x1,e1]) (by simp [results,Tryz.results60,go_sem]) rfl ((uh HA).back B0)

theorem evE_iteO (R:Rq) (ls:List Vv) (i:Int) (k l m:Ex):evE R ls (.ite i k l m)=iteO (evE R ls k) (evE R ls l) (evE R ls m):=by
 rw [evE]
 generalize evE R ls k=o1
 cases o1 with
 | err c=>rfl
 | ok v=>cases v <;> rfl

theorem value_any (eb:Nat) (R:Rq) (a1:Option Addr) (n1 c1:Nat) (a2:Option Addr) (n2 c2:Nat) (la:Option Addr) (lc:Nat) (ls:List Vv) (ts:List Int) (hls:ls.map Vv.ty=ts):∀ (e:Ex),e.typed→∀ t,tyE ts e=some t→VC G aS aO aZ aW eb (fun W=>EvM G aS aO aZ aW eb R a1 n1 c1 a2 n2 c2 la lc ls W∧e.mem G W) e.val (evE R ls e)
 | .int i n,_,t,ht=>fun W hW=>value_int eb (fun _=>True) i n hW.2 W trivial
 | .text i s,_,t,ht=>value_text eb _ i s
 | .bool i b,_,t,ht=>value_bool eb _ i b
 | .set i a n c ss,_,t,ht=>value_set eb _ i a n c ss (fun W hW=>hW.2)
 | .name ..,he,_,_=>absurd he id
 | .attr i n,he,t,ht=>value_attr eb _ R a1 n1 c1 a2 n2 c2 la lc ls (fun W hW=>hW.1) i n he
 | .lett i n,he,t,ht=>by
  rw [tyE] at ht
  by_cases h0:0≤n
  ·rw [if_pos h0] at ht
   obtain ⟨k,rfl⟩:∃ k:Nat,n=k:=⟨n.toNat,by omega⟩
   have hk:k<ls.length:=by
    have:=(List.getElem?_eq_some_iff.1 ht).1
    rw [← hls,List.length_map] at this
    omega
   have:=value_lett (aS:=aS) (aO:=aO) (aZ:=aZ) (aW:=aW) (G:=G) eb (fun W=>EvM G aS aO aZ aW eb R a1 n1 c1 a2 n2 c2 la lc ls W∧(Ex.lett i k).mem G W) R a1 n1 c1 a2 n2 c2 la lc ls (fun W hW=>hW.1) i k hk
   have e:evE R ls (.lett i k)=.ok ls[k]:=by rw [evE,Int.toNat_natCast,List.getElem?_eq_getElem hk]
   rw [e]
   exact this
  ·rw [if_neg h0] at ht;cases ht
 | .un i op k,he,t,ht=>by
  rw [tyE] at ht
  cases hk:tyE ts k with
  | none=>rw [hk] at ht;cases ht
  | some a =>
   rw [hk] at ht
   have V:=value_any eb R a1 n1 c1 a2 n2 c2 la lc ls ts hls k he.2 a hk
   obtain ⟨t1,u1,v1⟩:=k.form
   rw [v1] at V
   have st:Stays (fun W=>EvM G aS aO aZ aW eb R a1 n1 c1 a2 n2 c2 la lc ls W∧(Ex.un i op k).mem G W):=fun W W' h hb=>⟨h.1.below hb,Ex.mem_below hb nl _ h.2⟩
   show VC G aS aO aZ aW eb _ (.iface 163 (.agg #[.int .i64 i,.int .i64 op,k.val])) _
   rw [v1]
   exact value_un eb _ st i op t1 u1 _ (hide (unary_any eb _ st (fun W h=>h.1.sent) i op t1 u1 (evE R ls k) (hide (V.weak (fun W h=>h))) (fun v hv=>⟨t,by rw [evE_ty hls k a hk v hv];exact ht⟩)))
 | .bin i op k l,he,t,ht=>by
  rw [tyE] at ht
  cases hk:tyE ts k with
  | none=>rw [hk] at ht;cases ht
  | some a =>
   rw [hk] at ht
   cases hl:tyE ts l with
   | none=>rw [hl] at ht;cases ht
   | some b =>
    rw [hl] at ht
    dsimp only at ht
    have V:=value_any eb R a1 n1 c1 a2 n2 c2 la lc ls ts hls k he.2.1 a hk
    have U:=value_any eb R a1 n1 c1 a2 n2 c2 la lc ls ts hls l he.2.2 b hl
    obtain ⟨t1,u1,v1⟩:=k.form
    obtain ⟨t2,u2,v2⟩:=l.form
    rw [v1] at V
    rw [v2] at U
    have st:Stays (fun W=>EvM G aS aO aZ aW eb R a1 n1 c1 a2 n2 c2 la lc ls W∧(Ex.bin i op k l).mem G W):=fun W W' h hb=>⟨h.1.below hb,Ex.mem_below hb nl _ h.2⟩
    show VC G aS aO aZ aW eb _ (.iface 166 (.agg #[.int .i64 i,.int .i64 op,k.val,l.val])) _
    rw [v1,v2]
    refine value_bin eb _ st i op t1 u1 t2 u2 _ (hide (binary_any eb _ st (fun W h=>h.1.sent) (fun W h=>h.1.fresh) i op t1 u1 t2 u2 (evE R ls k) (evE R ls l) (hide (V.weak (fun W h=>⟨h.1,h.2.1⟩))) (hide (U.weak (fun W h=>⟨h.1,h.2.2⟩))) (fun v hv ho=>?_) (fun v u hv hu=>⟨t,by rw [evE_ty hls k a hk v hv,evE_ty hls l b hl u hu];exact ht⟩)))
    rw [evE_ty hls k a hk v hv]
    rcases tyOp2_inv ht with g | g | g | g | g | g | g
    ·omega
    ·omega
    ·omega
    ·omega
    ·omega
    ·omega
    ·exact g.2.1
 | .ite i k l m,he,t,ht=>by
  rw [tyE] at ht
  cases hk:tyE ts k with
  | none=>rw [hk] at ht;cases ht
  | some a =>
   rw [hk] at ht
   cases hl:tyE ts l with
   | none=>rw [hl] at ht;cases ht
   | some b =>
    rw [hl] at ht
    cases hm:tyE ts m with
    | none=>rw [hm] at ht;cases ht
    | some d =>
     rw [hm] at ht
     dsimp only at ht
     have V:=value_any eb R a1 n1 c1 a2 n2 c2 la lc ls ts hls k he.1 a hk
     have U:=value_any eb R a1 n1 c1 a2 n2 c2 la lc ls ts hls l he.2.1 b hl
     have X:=value_any eb R a1 n1 c1 a2 n2 c2 la lc ls ts hls m he.2.2 d hm
     obtain ⟨t1,u1,v1⟩:=k.form
     obtain ⟨t2,u2,v2⟩:=l.form
     obtain ⟨t3,u3,v3⟩:=m.form
     rw [v1] at V
     rw [v2] at U
     rw [v3] at X
     have st:Stays (fun W=>EvM G aS aO aZ aW eb R a1 n1 c1 a2 n2 c2 la lc ls W∧(Ex.ite i k l m).mem G W):=fun W W' h hb=>⟨h.1.below hb,Ex.mem_below hb nl _ h.2⟩
     show VC G aS aO aZ aW eb _ (.iface 169 (.agg #[.int .i64 i,k.val,l.val,m.val])) _
     rw [v1,v2,v3,evE_iteO]
     refine value_ite eb _ st i t1 u1 t2 u2 t3 u3 _ (hide (choice_any eb _ st i t1 u1 t2 u2 t3 u3 (evE R ls k) (evE R ls l) (evE R ls m) (hide (V.weak (fun W h=>⟨h.1,h.2.1⟩))) (hide (U.weak (fun W h=>⟨h.1,h.2.2.1⟩))) (hide (X.weak (fun W h=>⟨h.1,h.2.2.2⟩))) (fun v hv=>?_)))
     rw [evE_ty hls k a hk v hv]
     obtain ⟨h1,h0⟩:=nz_some ht
     simp only [tyOp] at h1
     by_cases c1:a=1∧b=d
     ·exact c1.1
     ·rw [if_neg c1] at h1;exact absurd h1.symm h0

end Go.Proofs.YtedlocniojlhfaaGreatDoor

namespace Go.Proofs.YtedlocniojlhfaaGreatDoor
set_option maxRecDepth 100000
set_option maxHeartbeats 3200000
open Go.RowKit
set_option linter.unusedVariables false

variable {aS aO aZ aW:Addr} {G:Nat→Prop}

inductive Dr where
 | out (k:Int) (sc:List ByteArray)
 | err (c:Int)

noncomputable def decG (R:Rq) (ls:List Vv) (Es:List Ex) (g:Int):Dr:=if g=-1 then .out 1 [] else match Es[g.toNat]? with
 | some e=>(match evE R ls e with
  | .ok (.set ss)=>.out 2 ss
  | .ok _=>.err 4
  | .err c=>.err c)
 | none=>.err 4

noncomputable def decL (R:Rq) (Es:List Ex):List Vv→List St→Dr
 | ls,[]=>.err 4
 | ls,s::L=>if s.cond=-1 then decG R ls Es s.grant else match Es[s.cond.toNat]? with
  | none=>.err 4
  | some e=>match evE R ls e with
   | .err c=>.err c
   | .ok v=>if s.kind=1 then decL R Es (ls++[v]) L else match v with
    | .bool true=>decG R ls Es s.grant
    | _=>decL R Es ls L

def DAns (aS aO aZ aW:Addr) (B:Nat) (o:Dr) (w:World) (r:Ending) (w':World):Prop :=
 (match o with
  | .out k sc=>∃ x cx,r=.returned (.tuple #[.agg #[.int .i64 k,.int .i64 0,.slice x sc.length cx],.nilIface])∧w'.ownsRow B 9 1 (.slice x sc.length cx) sc.length (sc.map Value.string)
  | .err c=>∃ e,r=.returned (.tuple #[.agg #[.int .i64 0,.int .i64 0,.slice none 0 0],e])∧ErrIs aS aO aZ aW w' e c)∧Below B w w'

theorem decision_none (eb:Nat) (W:World):Calls Tryz.prog 59 #[.pointer (some ⟨eb,0,none⟩),.nilIface] W (DAns aS aO aZ aW W.heap.size (.out 1 []) W):=by
 go_enter Tryz.func59,Tryz.ntmps59
 go_wp2_with fail
 refine bodyPost_ret (v:=.tuple #[.agg #[.int .i64 1,.int .i64 0,.slice none 0 0],.nilIface]) (by simp [results,Tryz.results59,go_sem]) rfl ?_
 exact ⟨⟨none,0,rfl,World.ownsRow_nil _ _ _ _⟩,(Below.refl _ _).alloc nl _⟩

theorem row3D {w:World} {b:Nat} {v0 v1 v2:Value} {t:TypeId} (R:Row w b #[v0,v1,v2] t):w.cell? ⟨b,0,none⟩=some v0∧w.cell? ⟨b,1,none⟩=some v1∧w.cell? ⟨b,2,none⟩=some v2:=⟨R.cell 0,R.cell 1,R.cell 2⟩

theorem owns_low {w:World} {B B':Nat} {e:TypeId} {size n:Nat} {v:Value} {xs:List Value} (h:w.ownsRow B e size v n xs) (hB:B'≤B):w.ownsRow B' e size v n xs:=by
 refine ⟨h.1,?_⟩
 rcases h.2 with q | ⟨g,cap,cur,h1,h2,h3⟩
 ·exact .inl q
 ·exact .inr ⟨g,cap,cur,h1,Nat.le_trans hB h2,h3⟩

theorem Row.ne {w:World} {b b':Nat} {cs cs':Array Value} {t t':TypeId} (R:Row w b cs t) (R':Row w b' cs' t') (h:t≠t'):b≠b':=fun e=>by
 subst e
 have:=R.out.symm.trans R'.out
 simp at this
 exact h this.2

theorem ErrIs.set {w:World} {b:Nat} {cs:Array Value} {t:TypeId} {v:Value} {c:Int} (h:ErrIs aS aO aZ aW w v c) (R:Row w b cs t) (ht:t≠204) (i:Nat) (u:Value):ErrIs aS aO aZ aW (w.setCell ⟨b,i,none⟩ u) v c:=by
 obtain ⟨h1,pb,at_,a,h2,h3,h4⟩:=h
 exact ⟨h1,pb,at_,a,h2,⟨h3.row.setFar (fun e=>R.ne h3.row ht e.symm) u⟩,h4⟩

def giveO (o:Ev):Dr:=match o with
 | .ok (.set ss)=>.out 2 ss
 | .ok _=>.err 4
 | .err c=>.err c

theorem decision_tree (eb:Nat) (P:World→Prop) (hP:Stays P) (t1:TypeId) (u1:Value) (o1:Ev) (V1:Hid (VC G aS aO aZ aW eb P (.iface t1 u1) o1)) (ht:∀ v,o1=.ok v→v.ty=4) (W:World) (hW:P W) :
  Calls Tryz.prog 59 #[.pointer (some ⟨eb,0,none⟩),.iface t1 u1] W (DAns aS aO aZ aW W.heap.size (giveO o1) W):=by
 have R0:=Row.new W #[.int .i64 0,.int .i64 0,.slice none 0 0] 33
 have B0:=(Below.refl W.heap.size W).alloc nl (.cells #[.int .i64 0,.int .i64 0,.slice none 0 0] 33)
 have P0:=hP W _ hW B0
 have HT:=hide ht
 have tms:=tm_set
 clear ht hP
 go_enter Tryz.func59,Tryz.ntmps59
 go_wp2_with fail
 refine (uh V1 _ P0).mono ?_
 rintro r w1 ⟨hr,hb1⟩
 have B1:=B0.trans (hb1.mono B0.size)
 have R1:=R0.after hb1 nl
 cases o1 with
 | err c =>
  obtain ⟨x,e,rfl,hE⟩:=hr
  obtain ⟨ue,rfl⟩:=hE.form
  obtain ⟨c0,c1,c2⟩:=row3D R1
  have f0:=fun j=>R1.frozen j
  have R2:=R1.set 0 (.int .i64 0)
  have f1:=fun j=>R2.frozen j
  have R3:=R2.set 1 (.int .i64 0)
  have f2:=fun j=>R3.frozen j
  have R4:=R3.set 2 (.slice none 0 0)
  obtain ⟨s0,s1,s2⟩:=row3D R4
  have E4:=((hE.set R1 (by decide) 0 (.int .i64 0)).set R2 (by decide) 1 (.int .i64 0)).set R3 (by decide) 2 (.slice none 0 0)
  have B4:=((B1.setCell (p:=⟨W.heap.size,0,none⟩) nl (.int .i64 0)).setCell (p:=⟨W.heap.size,1,none⟩) nl (.int .i64 0)).setCell (p:=⟨W.heap.size,2,none⟩) nl (.slice none 0 0)
  dsimp only
  go_wp2_with fail
  exact bodyPost_ret (v:=.tuple #[.agg #[.int .i64 0,.int .i64 0,.slice none 0 0],.iface 202 ue]) (by simp [results,Tryz.results59,go_sem,s0,s1,s2]) rfl ⟨⟨_,rfl,E4⟩,B4⟩
 | ok v =>
  obtain ⟨x,rfl,hv⟩:=hr
  obtain ⟨ss,rfl⟩:=Vv.set_of (uh HT v rfl)
  obtain ⟨a,n,c,rfl,hS,hl,_⟩:=hv
  have HC:=hide (cloneS_any a n c ss w1 hS hl)
  clear HT hS
  dsimp only
  go_wp2_with fail
  refine (uh HC).mono ?_
  rintro r w2 ⟨⟨x,cx,rfl,O2⟩,hb2⟩
  have B2:=B1.trans (hb2.mono B1.size)
  have R2:=R1.after hb2 nl
  obtain ⟨c0,c1,c2⟩:=row3D R2
  have f0:=fun j=>R2.frozen j
  have R3:=R2.set 0 (.int .i64 2)
  have f1:=fun j=>R3.frozen j
  have R4:=R3.set 1 (.int .i64 0)
  have f2:=fun j=>R4.frozen j
  have R5:=R4.set 2 (.slice x ss.length cx)
  obtain ⟨s0,s1,s2⟩:=row3D R5
  have z1:=R1.lt
  have O5:=own_set3 (own_set3 (own_set3 O2 ⟨W.heap.size,0,none⟩ (.int .i64 2) (fun q hq=>by have:=(O2.lt q hq).1;show q≠W.heap.size;omega)) ⟨W.heap.size,1,none⟩ (.int .i64 0) (fun q hq=>by have:=(O2.lt q hq).1;show q≠W.heap.size;omega)) ⟨W.heap.size,2,none⟩ (.slice x ss.length cx) (fun q hq=>by have:=(O2.lt q hq).1;show q≠W.heap.size;omega)
  have B5:=((B2.setCell (p:=⟨W.heap.size,0,none⟩) nl (.int .i64 2)).setCell (p:=⟨W.heap.size,1,none⟩) nl (.int .i64 0)).setCell (p:=⟨W.heap.size,2,none⟩) nl (.slice x ss.length cx)
  dsimp only
  go_wp2_with fail
  exact bodyPost_ret (v:=.tuple #[.agg #[.int .i64 2,.int .i64 0,.slice x ss.length cx],.nilIface]) (by simp [results,Tryz.results59,go_sem,s0,s1,s2]) rfl ⟨⟨_,_,rfl,owns_low O5 (by omega)⟩,B5⟩

end Go.Proofs.YtedlocniojlhfaaGreatDoor

namespace Go.Proofs.YtedlocniojlhfaaGreatDoor
open Go.RowKit
set_option linter.unusedVariables false

variable {aS aO aZ aW:Addr} {G:Nat→Prop}

def goodB (eb:Nat) (la:Option Addr) (b:Nat):Prop:=b≠eb∧∀ ad,la=some ad→ad.block≠b

theorem Strs.kept {w w':World} {a:Option Addr} {n c:Nat} {ss:List ByteArray} (h:Strs w a n c ss) (hg:∀ ad,a=some ad→0<n→G ad.block) (hk:∀ b,b<w.heap.size→G b→w'.heap[b]?=w.heap[b]?) (hz:w.heap.size≤w'.heap.size):Strs w' a n c ss :=
 ⟨h.len,h.cap,h.small,h.sizes,fun j hj=>by
  obtain ⟨b,off,ha,hb,hc⟩:=h.cells j hj
  exact ⟨b,off,ha,by omega,(World.cell?_of_block (w:=w) (hk b hb (hg _ ha (by omega)))).trans hc⟩⟩

theorem VIs.kept {G':Nat→Prop} {w w':World} {x:Value} {v:Vv} (h:VIs G w x v) (hk:∀ b,b<w.heap.size→G b→w'.heap[b]?=w.heap[b]?) (hz:w.heap.size≤w'.heap.size) (hGG:∀ b,b<w.heap.size→G b→G' b):VIs G' w' x v:=by
 cases v with
 | bool b=>exact h
 | int n=>exact h
 | text s=>exact h
 | set ss =>
  obtain ⟨a,n,c,h1,h2,h3,h4⟩:=h
  refine ⟨a,n,c,h1,h2.kept h4 hk hz,h3,fun ad e h0=>hGG _ ?_ (h4 ad e h0)⟩
  obtain ⟨b,off,ha,hb,_⟩:=h2.cells 0 h0
  rw [e] at ha
  cases ha
  exact hb

structure EvO (aS aO aZ aW:Addr) (B eb:Nat) (R:Rq) (a1:Option Addr) (n1 c1:Nat) (a2:Option Addr) (n2 c2:Nat) (la:Option Addr) (lc:Nat) (ls:List Vv) (xs:List Value) (w:World):Prop where
 M:EvM (goodB eb la) aS aO aZ aW eb R a1 n1 c1 a2 n2 c2 la lc ls w
 own:w.ownsRow B 116 1 (.slice la ls.length lc) ls.length xs
 low:B≤eb

theorem EvO.below {B eb:Nat} {R:Rq} {a1:Option Addr} {n1 c1:Nat} {a2:Option Addr} {n2 c2:Nat} {la:Option Addr} {lc:Nat} {ls:List Vv} {xs:List Value} {w w':World} (h:EvO aS aO aZ aW B eb R a1 n1 c1 a2 n2 c2 la lc ls xs w) (hb:Below w.heap.size w w'):EvO aS aO aZ aW B eb R a1 n1 c1 a2 n2 c2 la lc ls xs w' :=
 ⟨h.M.below hb,ownsRow_below h.own hb nl,h.low⟩

theorem EvO.push {B eb:Nat} {R:Rq} {a1:Option Addr} {n1 c1:Nat} {a2:Option Addr} {n2 c2:Nat} {la:Option Addr} {lc:Nat} {ls:List Vv} {xs:List Value} {w w3:World} {o:Obj} {x:Value} {v:Vv} {g cap:Nat} (h:EvO aS aO aZ aW B eb R a1 n1 c1 a2 n2 c2 la lc ls xs w) (hx:VIs (goodB eb la) w x v) (hl:ls.length<1000)
  (O3:w3.ownsRow B 116 1 (.slice (some ⟨g,0,none⟩) (ls.length+1) cap) (ls.length+1) (xs++[x])) (hgrow:(w.alloc o).grownBy w3 (Value.slice la ls.length lc).ownBlock) (hat:(Value.slice la ls.length lc).ownBlock=some g∨g=w.heap.size+1)
  (hsent:∀ w',Below B w w'→Sent w' aS aO aZ aW) :
  Row w3 eb #[.string R.cl,.string R.us,.int .i64 R.lv,.int .i64 R.nw,.slice a1 n1 c1,.slice a2 n2 c2,.slice la ls.length lc] 62∧EvO aS aO aZ aW B eb R a1 n1 c1 a2 n2 c2 (some ⟨g,0,none⟩) cap (ls++[v]) (xs++[x]) (w3.setCell ⟨eb,6,none⟩ (.slice (some ⟨g,0,none⟩) (ls.length+1) cap)) ∧
  Below B w (w3.setCell ⟨eb,6,none⟩ (.slice (some ⟨g,0,none⟩) (ls.length+1) cap))∧(∀ b,b<w.heap.size→goodB eb la b→(w3.setCell ⟨eb,6,none⟩ (.slice (some ⟨g,0,none⟩) (ls.length+1) cap)).heap[b]?=w.heap[b]?):=by
 have za:(w.alloc o).heap.size=w.heap.size+1:=by simp
 have zz:w.heap.size≤w3.heap.size:=by have:=hgrow.size;omega
 have heb:=h.M.row.lt
 have hlow:=h.low
 have own0:∀ q,(Value.slice la ls.length lc).ownBlock=some q→∃ ad,la=some ad∧ad.block=q:=fun q hq=>by
  cases la with
  | none=>cases hq
  | some ad=>exact ⟨ad,rfl,by simpa [Value.ownBlock] using hq⟩
 have nla:(Value.slice la ls.length lc).ownBlock≠some eb:=own_ne_row h.M.row h.own (by decide)
 have R3:=(h.M.row.alloc o).grown hgrow (fun e=>nla e.symm)
 have kb:∀ b,b<w.heap.size→goodB eb la b→(w3.setCell ⟨eb,6,none⟩ (.slice (some ⟨g,0,none⟩) (ls.length+1) cap)).heap[b]?=w.heap[b]?:=fun b h1 h2 =>
  (heap_setCell_other w3 ⟨eb,6,none⟩ b _ h2.1).trans ((hgrow.block b (by rw [za];omega) (fun e=>by obtain ⟨ad,e1,e2⟩:=own0 b e.symm;exact h2.2 ad e1 e2)).trans (Below.heap_alloc w o b h1))
 have z4:w.heap.size≤(w3.setCell ⟨eb,6,none⟩ (.slice (some ⟨g,0,none⟩) (ls.length+1) cap)).heap.size:=by simpa using zz
 have ng:g≠eb:=by
  have:=own_ne_row R3 O3 (by decide)
  intro e;exact this (by rw [e];rfl)
 have gg:∀ b,b<w.heap.size→goodB eb la b→goodB eb (some ⟨g,0,none⟩) b:=fun b h1 h2=>⟨h2.1,fun ad e=>by
  cases e
  rcases hat with q | q
  ·obtain ⟨ad,e1,e2⟩:=own0 g q
   exact e2 ▸ h2.2 ad e1
  ·show g≠b;omega⟩
 have BB:=(((Below.refl B w).alloc (by omega) o).grown hgrow (by omega) (fun q hq=>(h.own.lt q hq).1)).setCell (p:=⟨eb,6,none⟩) hlow (.slice (some ⟨g,0,none⟩) (ls.length+1) cap)
 have hlen:(ls++[v]).length=ls.length+1:=by simp
 have O4:=own_set3 O3 ⟨eb,6,none⟩ (.slice (some ⟨g,0,none⟩) (ls.length+1) cap) (fun q hq=>by
  have e:g=q:=by simpa [Value.ownBlock] using hq
  subst e
  exact ng)
 have gl3:=(O3.lt g rfl).2
 refine ⟨R3,⟨⟨?_,h.M.s1.kept h.M.g1 kb z4,h.M.s2.kept h.M.g2 kb z4,h.M.l1,h.M.l2,fun ad e h0=>?_,fun ad e h0=>?_,fun b hb=>⟨fun e=>?_,fun ad e=>?_⟩,h.M.lv,h.M.nw,by rw [hlen];omega,fun j hj=>?_,hsent _ BB⟩,by rw [hlen];exact O4,hlow⟩,BB,kb⟩
 ·rw [hlen]
  exact R3.set 6 (.slice (some ⟨g,0,none⟩) (ls.length+1) cap)
 ·obtain ⟨b,off,ha,hb,_⟩:=h.M.s1.cells 0 h0
  rw [e] at ha
  cases ha
  exact gg _ hb (h.M.g1 _ e h0)
 ·obtain ⟨b,off,ha,hb,_⟩:=h.M.s2.cells 0 h0
  rw [e] at ha
  cases ha
  exact gg _ hb (h.M.g2 _ e h0)
 ·simp at hb;omega
 ·cases e
  simp at hb
  show g≠b
  omega
 ·have xl:xs.length=ls.length:=by have:=h.own.1;omega
  obtain ⟨y,cy,ey,hy⟩:=owns_form2 O4
  cases ey
  obtain ⟨g',eg,_,hc⟩:=hy (by omega)
  cases eg
  by_cases hj2:j<ls.length
  ·obtain ⟨b,off,z,h1,h2,h3,h4⟩:=h.M.lets j hj2
   have hxj:xs[j]?=some z:=by
    obtain ⟨y2,c2',e2,hy2⟩:=owns_form2 h.own
    cases e2
    obtain ⟨g2,e3,_,hc2⟩:=hy2 (by omega)
    rw [e3] at h1
    cases h1
    have hjx:j<xs.length:=by omega
    have:=hc2 j xs[j] (List.getElem?_eq_getElem hjx)
    rw [Nat.zero_add] at h3
    rw [h3] at this
    rw [List.getElem?_eq_getElem hjx]
    exact this.symm
   refine ⟨g,0,z,rfl,by simpa using gl3,?_,?_⟩
   ·rw [Nat.zero_add]
    exact hc j z (by rw [List.getElem?_append_left (by omega)];exact hxj)
   ·rw [List.getElem_append_left hj2]
    exact h4.kept kb z4 gg
  ·have ej:j=ls.length:=by rw [hlen] at hj;omega
   subst ej
   refine ⟨g,0,x,rfl,by simpa using gl3,?_,?_⟩
   ·rw [Nat.zero_add]
    exact hc _ x (by rw [← xl];simp)
   ·have e1:(ls++[v])[ls.length]=v:=by simp
    rw [e1]
    exact hx.kept kb z4 gg

end Go.Proofs.YtedlocniojlhfaaGreatDoor

namespace Go.Proofs.YtedlocniojlhfaaGreatDoor
open Go.RowKit
set_option linter.unusedVariables false

variable {aS aO aZ aW:Addr} {G:Nat→Prop}

theorem Ex.mem_weak {G':Nat→Prop} {w:World} (hG:∀ b,G b→G' b):∀ (e:Ex),e.mem G w→e.mem G' w
 | .int ..,h=>h
 | .text ..,h=>h
 | .bool ..,h=>h
 | .set ..,h=>⟨h.1,h.2.1,fun ad e h0=>hG _ (h.2.2 ad e h0)⟩
 | .name ..,h=>h
 | .attr ..,h=>h
 | .lett ..,h=>h
 | .un _ _ k,h=>k.mem_weak hG h
 | .bin _ _ k l,h=>⟨k.mem_weak hG h.1,l.mem_weak hG h.2⟩
 | .ite _ k l m,h=>⟨k.mem_weak hG h.1,l.mem_weak hG h.2.1,m.mem_weak hG h.2.2⟩

theorem ck_at {Es:List Ex} {L:List St} {st0 st stF:CkS} {k:Nat} (h:ckAll Es st0 L=some stF) (hk:k<L.length) (ha:ckAll Es st0 (L.take k)=some st):∃ s2 s3,ckCond Es st L[k]=some s2∧ckGrant Es s2 L[k]=some s3∧ckAll Es st0 (L.take (k+1))=some s3:=by
 have hq:ckAll Es st0 (L.take (k+1))≠none:=fun e=>by
  have:=ckAll_none Es L _ _ e
  rw [h] at this;cases this
 have e1:ckAll Es st0 (L.take (k+1))=ckStep Es st L[k]:=by rw [List.take_succ_eq_append_getElem hk,ckAll_snoc,ha];rfl
 rw [e1] at hq ⊢
 rw [ckStep] at hq ⊢
 cases hc:ckCond Es st L[k] with
 | none=>rw [hc] at hq;exact absurd rfl hq
 | some s2 =>
  rw [hc] at hq
  rw [Option.bind_some] at hq ⊢
  cases hg:ckGrant Es s2 L[k] with
  | none=>rw [hg] at hq;exact absurd rfl hq
  | some s3=>exact ⟨s2,s3,rfl,hg,rfl⟩

theorem cond_let {Es:List Ex} {st s2:CkS} {s:St} {m:Nat} {e:Ex} (h:ckCond Es st s=some s2) (h1:s.cond=(m:Nat)) (h2:Es[m]?=some e) (hk:s.kind=1):∃ t,tyE st.2.1 e=some t∧s2.2.1=st.2.1++[t]:=by
 rw [ckCond,if_neg (by omega),h1,Int.toNat_natCast,h2] at h
 dsimp only at h
 unfold ckE at h
 rw [if_pos hk] at h
 cases ht:tyE st.2.1 e with
 | none=>rw [ht] at h;cases h
 | some t =>
  rw [ht] at h
  dsimp only at h
  split at h
  ·cases h
  ·cases h;exact ⟨t,rfl,rfl⟩

theorem cond_when {Es:List Ex} {st s2:CkS} {s:St} {m:Nat} {e:Ex} (h:ckCond Es st s=some s2) (h1:s.cond=(m:Nat)) (h2:Es[m]?=some e) (hk:s.kind≠1):tyE st.2.1 e=some 1∧s2.2.1=st.2.1:=by
 rw [ckCond,if_neg (by omega),h1,Int.toNat_natCast,h2] at h
 dsimp only at h
 unfold ckE at h
 rw [if_neg hk] at h
 cases ht:tyE st.2.1 e with
 | none=>rw [ht] at h;cases h
 | some t =>
  rw [ht] at h
  dsimp only at h
  split at h
  ·rename_i q;cases h;subst q;exact ⟨rfl,rfl⟩
  ·cases h

theorem cond_none {Es:List Ex} {st s2:CkS} {s:St} (h:ckCond Es st s=some s2) (h1:s.cond=-1):s2=st:=by
 rw [ckCond,if_pos h1] at h
 cases h;rfl

theorem grant_ty {Es:List Ex} {s2 s3:CkS} {s:St} {m:Nat} {e:Ex} (h:ckGrant Es s2 s=some s3) (h1:s.grant=(m:Nat)) (h2:Es[m]?=some e):tyE s2.2.1 e=some 4:=by
 rw [ckGrant,if_neg (by omega),h1,Int.toNat_natCast,h2] at h
 dsimp only at h
 unfold ckG at h
 cases ht:tyE s2.2.1 e with
 | none=>rw [ht] at h;cases h
 | some t =>
  rw [ht] at h
  dsimp only at h
  split at h
  ·rename_i q;subst q;rfl
  ·cases h

theorem decL_none {R:Rq} {Es:List Ex} {ls:List Vv} {s:St} {L:List St} (h:s.cond=-1):decL R Es ls (s::L)=decG R ls Es s.grant:=by rw [decL,if_pos h]

theorem decL_tree {R:Rq} {Es:List Ex} {ls:List Vv} {s:St} {L:List St} {m:Nat} {e:Ex} (h:s.cond=(m:Nat)) (he:Es[m]?=some e):decL R Es ls (s::L)=(match evE R ls e with
  | .err c=>.err c
  | .ok v=>if s.kind=1 then decL R Es (ls++[v]) L else match v with
   | .bool true=>decG R ls Es s.grant
   | _=>decL R Es ls L):=by
 rw [decL,if_neg (by omega),h,Int.toNat_natCast,he]
 all_goals
  dsimp only
  generalize evE R ls e=o
  cases o with
  | err c=>rfl
  | ok v =>
   cases v with
   | bool b=>cases b <;> rfl
   | int _=>rfl
   | text _=>rfl
   | set _=>rfl

theorem decG_none {R:Rq} {ls:List Vv} {Es:List Ex} {g:Int} (h:g=-1):decG R ls Es g=.out 1 []:=by rw [decG,if_pos h]
theorem decG_tree {R:Rq} {ls:List Vv} {Es:List Ex} {g:Int} {m:Nat} {e:Ex} (h:g=(m:Nat)) (he:Es[m]?=some e):decG R ls Es g=giveO (evE R ls e):=by
 rw [decG,if_neg (by omega),h,Int.toNat_natCast,he]
 dsimp only
 generalize evE R ls e=o
 cases o with
 | err c=>rfl
 | ok v=>cases v <;> rfl

theorem decision_any (eb:Nat) (R:Rq) (a1:Option Addr) (n1 c1:Nat) (a2:Option Addr) (n2 c2:Nat) (la:Option Addr) (lc:Nat) (ls:List Vv) (ts:List Int) (hls:ls.map Vv.ty=ts) (Es:List Ex) (g:Int) (hg:okP Es g) (ht:∀ (m:Nat) e,g=(m:Nat)→Es[m]?=some e→tyE ts e=some 4) (W:World) (hM:EvM G aS aO aZ aW eb R a1 n1 c1 a2 n2 c2 la lc ls W) (hmem:∀ e∈Es,e.mem G W) :
  Calls Tryz.prog 59 #[.pointer (some ⟨eb,0,none⟩),optV Es g] W (DAns aS aO aZ aW W.heap.size (decG R ls Es g) W):=by
 rcases hg with e1 | ⟨m,e,e1,e2,e3,_⟩
 ·rw [decG_none e1,e1,optV_none]
  exact decision_none eb W
 ·have hty:=ht m e e1 e2
  have eo:optV Es g=e.val:=by rw [e1,optV,if_neg (by omega),Int.toNat_natCast,e2]
  rw [decG_tree e1 e2,eo]
  have V:=value_any (aS:=aS) (aO:=aO) (aZ:=aZ) (aW:=aW) (G:=G) eb R a1 n1 c1 a2 n2 c2 la lc ls ts hls e e3 4 hty
  obtain ⟨t1,u1,v1⟩:=e.form
  rw [v1] at V ⊢
  exact decision_tree eb _ (fun W W' h hb=>⟨h.1.below hb,Ex.mem_below hb nl _ h.2⟩) t1 u1 (evE R ls e) (hide V) (fun v hv=>evE_ty hls e 4 hty v hv) W ⟨hM,hmem e (List.mem_of_getElem? e2)⟩

theorem DAns.form3 {B:Nat} {o:Dr} {w w':World} {r:Ending} (h:DAns aS aO aZ aW B o w r w'):∃ k x n cx e,r=.returned (.tuple #[.agg #[.int .i64 k,.int .i64 0,.slice x n cx],e])∧DAns aS aO aZ aW B o w (.returned (.tuple #[.agg #[.int .i64 k,.int .i64 0,.slice x n cx],e])) w':=by
 obtain ⟨h1,h2⟩:=h
 cases o with
 | out k sc=>obtain ⟨x,cx,rfl,h3⟩:=h1;exact ⟨_,_,_,_,_,rfl,⟨_,_,rfl,h3⟩,h2⟩
 | err c=>obtain ⟨e,rfl,h3⟩:=h1;exact ⟨_,_,_,_,_,rfl,⟨_,rfl,h3⟩,h2⟩

theorem DAns.store {B rb:Nat} {o:Dr} {w0 w w':World} {z0 z1 z2 e:Value} {cs:Array Value} (h:DAns aS aO aZ aW w.heap.size o w (.returned (.tuple #[.agg #[z0,z1,z2],e])) w') (R:Row w' rb cs 33) (hrb:rb<w.heap.size) (hB:B≤rb) (hb:Below B w0 w) :
  DAns aS aO aZ aW B o w0 (.returned (.tuple #[.agg #[z0,z1,z2],e])) (((w'.setCell ⟨rb,0,none⟩ z0).setCell ⟨rb,1,none⟩ z1).setCell ⟨rb,2,none⟩ z2):=by
 obtain ⟨h1,h2⟩:=h
 have R1:=R.set 0 z0
 have R2:=R1.set 1 z1
 refine ⟨?_,(((hb.trans (h2.mono (by omega))).setCell (p:=⟨rb,0,none⟩) hB z0).setCell (p:=⟨rb,1,none⟩) hB z1).setCell (p:=⟨rb,2,none⟩) hB z2⟩
 cases o with
 | out k sc =>
  obtain ⟨x,cx,e1,h3⟩:=h1
  refine ⟨x,cx,e1,owns_low (own_set3 (own_set3 (own_set3 h3 ⟨rb,0,none⟩ z0 (fun q hq=>?_)) ⟨rb,1,none⟩ z1 (fun q hq=>?_)) ⟨rb,2,none⟩ z2 (fun q hq=>?_)) (by omega)⟩
  all_goals (have:=(h3.lt q hq).1;show q≠rb;omega)
 | err c =>
  obtain ⟨e2,e1,h3⟩:=h1
  exact ⟨e2,e1,((h3.set R (by decide) 0 z0).set R1 (by decide) 1 z1).set R2 (by decide) 2 z2⟩

end Go.Proofs.YtedlocniojlhfaaGreatDoor

namespace Go.Proofs.YtedlocniojlhfaaGreatDoor
set_option maxRecDepth 100000
set_option maxHeartbeats 6400000
open Go.RowKit
set_option linter.unusedVariables false

variable {aS aO aZ aW:Addr}

noncomputable def nextL (R:Rq) (Es:List Ex) (ls:List Vv) (L:List St) (o:Ev):Dr:=match o with
 | .err c=>.err c
 | .ok v=>decL R Es (ls++[v]) L

noncomputable def nextW (R:Rq) (Es:List Ex) (ls:List Vv) (L:List St) (d:Dr) (o:Ev):Dr:=match o with
 | .err c=>.err c
 | .ok v=>match v with
  | .bool true=>d
  | _=>decL R Es ls L

theorem decL_let {R:Rq} {Es:List Ex} {ls:List Vv} {s:St} {L:List St} {m:Nat} {e:Ex} (h:s.cond=(m:Nat)) (he:Es[m]?=some e) (hk:s.kind=1):decL R Es ls (s::L)=nextL R Es ls L (evE R ls e):=by
 rw [decL_tree h he]
 generalize evE R ls e=o
 cases o with
 | err c=>rfl
 | ok v=>exact if_pos hk

theorem decL_when {R:Rq} {Es:List Ex} {ls:List Vv} {s:St} {L:List St} {m:Nat} {e:Ex} (h:s.cond=(m:Nat)) (he:Es[m]?=some e) (hk:s.kind≠1):decL R Es ls (s::L)=nextW R Es ls L (decG R ls Es s.grant) (evE R ls e):=by
 rw [decL_tree h he]
 generalize evE R ls e=o
 cases o with
 | err c=>rfl
 | ok v=>exact if_neg hk

theorem infoV:(Tryz.prog.info? 116).map (fun i=>(i.zero,i.size,i.bytes))=some (some .nilIface,1,16):=by kernel_rfl

theorem decide_any (w0:World) (hs0:Sent w0 aS aO aZ aW) (B eb:Nat) (hB0:w0.heap.size≤B) (R:Rq) (a1:Option Addr) (n1 c1:Nat) (a2:Option Addr) (n2 c2:Nat) (Es:List Ex) (L:List St) (m g kv:Nat) (cur:Array Value) (w:World)
  (hm:L.length=m) (hm6:m≤600) (hlast:∃ j,∃ h:j<L.length,L[j].cond=-1) (hmem:∀ e∈Es,e.mem (fun b=>b<w0.heap.size) w0) (stF:CkS) (hck:ckAll Es (attN,[],[]) L=some stF) (hok:∀ s∈L,okP Es s.cond∧okP Es s.grant)
  (hw:Below w0.heap.size w0 w) (hO:EvO aS aO aZ aW B eb R a1 n1 c1 a2 n2 c2 none 0 [] [] w) (Rg:Row w g cur 113) (hcur:∀ (r:Nat) (u:Value),(stC Es 0 L)[r]?=some u→cur[r]?=some u) (hge:g≠eb) :
  Calls Tryz.prog 30 #[.pointer (some ⟨eb,0,none⟩),.slice (some ⟨g,0,none⟩) m kv] w (DAns aS aO aZ aW B (decL R Es [] L) w):=by
 obtain ⟨iv,hiv,vz0,vz1,vz2⟩:=info_parts infoV
 have tmb:=tm_bool
 have HM:=hide hm
 have HL:=hide hlast
 have HME:=hide hmem
 have HCK:=hide hck
 have HOK:=hide hok
 have HCU:=hide hcur
 have HS0:=hide hs0
 have Hw:=hide hw
 have R0:=Row.new w #[.int .i64 0,.int .i64 0,.slice none 0 0] 33
 have C0:=(Below.refl w.heap.size w).alloc nl (.cells #[.int .i64 0,.int .i64 0,.slice none 0 0] 33)
 have O0:=hO.below C0
 have G0:=Rg.after C0 nl
 have hBw:B≤w.heap.size:=by have:=hO.low;have:=hO.M.row.lt;omega
 have hge2:w.heap.size≠eb:=by have:=hO.M.row.lt;omega
 have B0:=C0.mono hBw
 have hlow:=hO.low
 have HGE:=hide hge
 clear hm hlast hmem hck hok hcur hw hs0 hO Rg
 go_enter Tryz.func30,Tryz.ntmps30
 go_wp2_with fail
 generalize w.alloc (.cells #[.int .i64 0,.int .i64 0,.slice none 0 0] 33)=W1 at R0 C0 O0 G0 B0 ⊢
 generalize hrb:w.heap.size=rb at R0 hBw hge2 C0 ⊢
 clear C0 hrb
 go_loopw [12] (fun i wr=>∃ (k:Nat) (ls:List Vv) (la:Option Addr) (lc:Nat) (xs:List Value),k≤m∧i=.int .i64 k∧Hid ((∃ ns tt,ckAll Es (attN,[],[]) (L.take k)=some (ns,ls.map Vv.ty,tt))∧decL R Es [] L=decL R Es ls (L.drop k)∧ls.length≤k∧∀ j,(h:j<L.length)→j<k→L[j].cond≠-1)∧EvO aS aO aZ aW B eb R a1 n1 c1 a2 n2 c2 la lc ls xs wr∧Row wr g cur 113∧Row wr rb #[.int .i64 0,.int .i64 0,.slice none 0 0] 33∧Below B w wr) (fun i _=>m - (intOf i).toNat)
 case atStart=>exact ⟨0,[],none,0,[],Nat.zero_le _,rfl,hide ⟨⟨attN,[],rfl⟩,rfl,nl,fun j _ h=>absurd h (by omega)⟩,O0,G0,R0,B0⟩
 case round =>
  obtain ⟨k,ls,la,lc,xs,hk,rfl,HI,Ok,Gk,Rk,Bk⟩:=hrel
  by_cases hlt:k<m
  ·have ilt:(k:Int)<(m:Int):=by omega
   have hkl:k<L.length:=by rw [uh HM];exact hlt
   have at5:∀ r,r<5→∀ u,(stmV Es k L[k])[r]?=some u→wr.cell? ⟨g,k*5+r,none⟩=some u:=fun r hr u hu=>by
    rw [Gk.cell]
    refine uh HCU _ _ ?_
    rw [stC_at Es L 0 k hkl r hr,Nat.zero_add]
    exact hu
   have q0:=at5 0 (by decide) _ rfl
   have q1:=at5 1 (by decide) _ rfl
   have q2:=at5 2 (by decide) _ rfl
   have q3:=at5 3 (by decide) _ rfl
   have q4:=at5 4 (by decide) _ rfl
   simp only [Nat.add_zero] at q0
   obtain ⟨⟨ns,tt,hcka⟩,hdec,hlsk,hall⟩:=uh HI
   obtain ⟨s2,s3,hc2,hg2,hck3⟩:=ck_at (uh HCK) hkl hcka
   have hg2l:=(ckGrant_len hg2).2
   obtain ⟨ok1,ok2⟩:=uh HOK L[k] (List.getElem_mem hkl)
   have hdec2:decL R Es [] L=decL R Es ls (L[k]::L.drop (k+1)):=by rw [hdec,List.getElem_cons_drop]
   have hLow:Below w0.heap.size w0 wr:=(uh Hw).trans (Bk.mono hB0)
   have hmemk:∀ W,Below wr.heap.size wr W→∀ e∈Es,e.mem (goodB eb la) W:=fun W hW e he=>by
    have h1:=Ex.mem_below (hLow.trans (hW.mono hLow.size)) nl e (uh HME e he)
    refine Ex.mem_weak (fun b hb=>⟨by omega,fun ad e2=>?_⟩) e h1
    have:=(Ok.own.lt ad.block (by rw [e2];rfl)).1
    omega
   have HALL:=hide (show L[k].cond≠-1→∀ j,(h:j<L.length)→j<k+1→L[j].cond≠-1 from fun h0 j hj h1=>by
    by_cases ej:j=k
    ·subst ej;exact h0
    ·exact hall j hj (by omega))
   have HLK:=hide hlsk
   have Hlt:=hide hlt
   clear at5 hall hdec hlsk HI hcka
   have HDC:=hide hdec2
   have HC2:=hide hc2
   have HG2:=hide hg2
   have HCK3:=hide hck3
   have HG2L:=hide hg2l
   have HMK:=hide hmemk
   have HOK1:=hide ok1
   have HOK2:=hide ok2
   clear hdec2 hc2 hg2 hck3 hg2l hmemk ok1 ok2 hlt
   have v4:=formV_opt Es L[k].grant
   have hrbl:=Rk.lt
   have HSN:=hide (fun (W:World) (hW:Below B wr W)=>(uh HS0).below (hLow.trans (hW.mono hB0)) nl)
   generalize hsk:L[k]=s at q0 q1 q2 q3 q4 HALL HDC HC2 HG2 HOK1 HOK2 v4
   clear hsk
   rcases uh HOK1 with e1 | ⟨mm,e,e1,e2,e3,_⟩
   ·have HD1:=hide ((uh HDC).trans (decL_none e1))
    have e4:=cond_none (uh HC2) e1
    have HDE:=hide (fun (W:World) (hM:EvM (goodB eb la) aS aO aZ aW eb R a1 n1 c1 a2 n2 c2 la lc ls W) (hme:∀ e∈Es,e.mem (goodB eb la) W)=>decision_any eb R a1 n1 c1 a2 n2 c2 la lc ls (ls.map Vv.ty) rfl Es s.grant (uh HOK2) (fun mq eq z1 z2=>by have:=grant_ty (uh HG2) z1 z2;rw [e4] at this;exact this) W hM hme)
    have ec:optV Es s.cond=.nilIface:=by rw [e1,optV_none]
    rw [ec] at q3
    clear e4 ec e1
    generalize optV Es s.grant=o4 at q4 HDE v4
    generalize s.kind=kd at q1
    generalize s.name=nm at q2
    rcases v4 with rfl | ⟨t4,u4,rfl⟩
    ·have CS:=(Below.refl wr.heap.size wr).alloc nl (.cells #[.int .i64 k,.int .i64 kd,.string nm,.nilIface,.nilIface] 113)
     have SR:=Row.new wr #[.int .i64 k,.int .i64 kd,.string nm,.nilIface,.nilIface] 113
     obtain ⟨y0,y1,y2,y3,y4,_⟩:=row5 SR
     have OD:=Ok.below CS
     have RD:=Rk.after CS nl
     have GD:=Gk.after CS nl
     have BD:=Bk.trans (CS.mono (by have:=Ok.low;have:=Ok.M.row.lt;omega))

     have HCC:=hide (uh HDE _ OD.M (uh HMK _ CS))
     have hrw:=RD.lt
     go_wp2_with fail
     refine (uh HCC).mono ?_
     intro r w9 hr
     obtain ⟨z0,zx,zn,zc,er,rfl,hA⟩:=hr.form3
     have R9:=RD.after hA.2 nl
     obtain ⟨x0,x1,x2⟩:=row3D R9
     have f0:=fun j=>R9.frozen j
     have f1:=fun j=>(R9.set 0 (.int .i64 z0)).frozen j
     have f2:=fun j=>((R9.set 0 (.int .i64 z0)).set 1 (.int .i64 0)).frozen j
     obtain ⟨p0,p1,p2⟩:=row3D (((R9.set 0 (.int .i64 z0)).set 1 (.int .i64 0)).set 2 (.slice zx zn zc))
     have HA:=hide (hA.store R9 hrw hBw BD)
     clear hA hr HCC
     dsimp only
     go_wp2_with fail
     refine bodyPost_ret (v:=.tuple #[.agg #[.int .i64 z0,.int .i64 0,.slice zx zn zc],er]) (by simp [results,Tryz.results30,go_sem,p0,p1,p2]) rfl ?_
     rw [uh HD1]
     exact uh HA
    ·have CS:=(Below.refl wr.heap.size wr).alloc nl (.cells #[.int .i64 k,.int .i64 kd,.string nm,.nilIface,.iface t4 u4] 113)
     have SR:=Row.new wr #[.int .i64 k,.int .i64 kd,.string nm,.nilIface,.iface t4 u4] 113
     obtain ⟨y0,y1,y2,y3,y4,_⟩:=row5 SR
     have OD:=Ok.below CS
     have RD:=Rk.after CS nl
     have GD:=Gk.after CS nl
     have BD:=Bk.trans (CS.mono (by have:=Ok.low;have:=Ok.M.row.lt;omega))

     have HCC:=hide (uh HDE _ OD.M (uh HMK _ CS))
     have hrw:=RD.lt
     go_wp2_with fail
     refine (uh HCC).mono ?_
     intro r w9 hr
     obtain ⟨z0,zx,zn,zc,er,rfl,hA⟩:=hr.form3
     have R9:=RD.after hA.2 nl
     obtain ⟨x0,x1,x2⟩:=row3D R9
     have f0:=fun j=>R9.frozen j
     have f1:=fun j=>(R9.set 0 (.int .i64 z0)).frozen j
     have f2:=fun j=>((R9.set 0 (.int .i64 z0)).set 1 (.int .i64 0)).frozen j
     obtain ⟨p0,p1,p2⟩:=row3D (((R9.set 0 (.int .i64 z0)).set 1 (.int .i64 0)).set 2 (.slice zx zn zc))
     have HA:=hide (hA.store R9 hrw hBw BD)
     clear hA hr HCC
     dsimp only
     go_wp2_with fail
     refine bodyPost_ret (v:=.tuple #[.agg #[.int .i64 z0,.int .i64 0,.slice zx zn zc],er]) (by simp [results,Tryz.results30,go_sem,p0,p1,p2]) rfl ?_
     rw [uh HD1]
     exact uh HA
   ·have HE2:=hide e2
    have HAL:=hide (uh HALL (by omega))
    have eo:optV Es s.cond=e.val:=by rw [e1,optV,if_neg (by omega),Int.toNat_natCast,e2]
    rw [eo] at q3
    obtain ⟨t3,u3,v3⟩:=e.form
    rw [v3] at q3
    clear eo
    by_cases hk1:s.kind=1
    ·obtain ⟨t,ht,hs2⟩:=cond_let (uh HC2) e1 e2 hk1
     have HV:=hide (value_any (aS:=aS) (aO:=aO) (aZ:=aZ) (aW:=aW) (G:=goodB eb la) eb R a1 n1 c1 a2 n2 c2 la lc ls (ls.map Vv.ty) rfl e e3 t ht)
     have HTY:=hide (show ∀ v,evE R ls e=.ok v→(ls++[v]).map Vv.ty=ls.map Vv.ty++[t] from fun v hv=>by rw [List.map_append,← evE_ty rfl e t ht v hv];rfl)
     have HNX:=hide (show ∀ v,evE R ls e=.ok v→∃ ns tt,ckAll Es (attN,[],[]) (L.take (k+1))=some (ns,(ls++[v]).map Vv.ty,tt) from fun v hv=>⟨s3.1,s3.2.2,by rw [uh HCK3,uh HTY v hv];exact congrArg some (Prod.ext rfl (Prod.ext ((uh HG2L).trans hs2) rfl))⟩)
     have HDT:=hide ((uh HDC).trans (decL_let e1 e2 hk1))
     rw [v3] at HV
     generalize evE R ls e=oe at HV HTY HNX HDT
     rw [hk1] at q1
     have HDE:=hide trivial
     obtain ⟨kd,hkd⟩:∃ kd:Int,kd=1:=⟨_,rfl⟩
     rw [← hkd] at q1
     have ek1:(kd == 1)=true:=by rw [hkd];rfl
     clear hkd ht hs2 hk1 e1 e2
     generalize optV Es s.grant=o4 at q4 v4
     generalize s.name=nm at q2
     rcases v4 with rfl | ⟨t4,u4,rfl⟩
     ·have CS:=(Below.refl wr.heap.size wr).alloc nl (.cells #[.int .i64 k,.int .i64 kd,.string nm,.iface t3 u3,.nilIface] 113)
      have SR:=Row.new wr #[.int .i64 k,.int .i64 kd,.string nm,.iface t3 u3,.nilIface] 113
      obtain ⟨y0,y1,y2,y3,y4,_⟩:=row5 SR
      have OD:=Ok.below CS
      have RD:=Rk.after CS nl
      have GD:=Gk.after CS nl
      have BD:=Bk.trans (CS.mono (by have:=Ok.low;have:=Ok.M.row.lt;omega))

      have HVW:=hide (uh HV _ ⟨OD.M,uh HMK _ CS e (List.mem_of_getElem? (uh HE2))⟩)
      go_wp2_with fail
      refine (uh HVW).mono ?_
      rintro r w2 ⟨hr,hb2⟩
      have O2:=OD.below hb2
      have R2:=RD.after hb2 nl
      have G2:=GD.after hb2 nl
      have B2:=BD.trans (hb2.mono (by have:=OD.low;have:=OD.M.row.lt;omega))
      have CS2:=CS.trans (hb2.mono CS.size)
      obtain ⟨l0,l1,l2,l3,l4,_⟩:=row5 (SR.after hb2 nl)
      clear HVW
      cases oe with
      | err c =>
       obtain ⟨x,er,rfl,hE⟩:=hr
       obtain ⟨ue,rfl⟩:=hE.form
       have HEQ:=hide (uh HDT)
       obtain ⟨x0,x1,x2⟩:=row3D R2
       have f0:=fun j=>R2.frozen j
       have R3:=R2.set 0 (.int .i64 0)
       have f1:=fun j=>R3.frozen j
       have R4:=R3.set 1 (.int .i64 0)
       have f2:=fun j=>R4.frozen j
       have R5:=R4.set 2 (.slice none 0 0)
       obtain ⟨p0,p1,p2⟩:=row3D R5
       have E5:=((hE.set R2 (by decide) 0 (.int .i64 0)).set R3 (by decide) 1 (.int .i64 0)).set R4 (by decide) 2 (.slice none 0 0)
       have B5:=((B2.setCell (p:=⟨rb,0,none⟩) hBw (.int .i64 0)).setCell (p:=⟨rb,1,none⟩) hBw (.int .i64 0)).setCell (p:=⟨rb,2,none⟩) hBw (.slice none 0 0)
       dsimp only
       go_wp2_with fail
       refine bodyPost_ret (v:=.tuple #[.agg #[.int .i64 0,.int .i64 0,.slice none 0 0],.iface 202 ue]) (by simp [results,Tryz.results30,go_sem,p0,p1,p2]) rfl ?_
       rw [uh HEQ]
       exact ⟨⟨_,rfl,E5⟩,B5⟩
      | ok v =>
       obtain ⟨x,rfl,hv⟩:=hr
       obtain ⟨tx,ux,hxf⟩:=hv.form
       subst hxf
       have HVI:=hide hv
       clear hv
       have hsz2:B≤w2.heap.size:=by have:=O2.low;have:=O2.M.row.lt;omega
       have hlen:ls.length<1000:=by have:=uh HLK;have:=uh Hlt;omega
       have heb2:=O2.M.row.lt
       obtain ⟨r0,r1,r2,r3,r4,r5,r6⟩:=row7 O2.M.row
       have rf:=fun j=>O2.M.row.frozen j
       have HEQ:=hide (show decL R Es [] L=decL R Es (ls++[v]) (L.drop (k+1)) from uh HDT)
       have HN:=hide (uh HNX v (by first | rfl | trivial))
       have gne:∀ q,(Value.slice la ls.length lc).ownBlock=some q→∃ ad,la=some ad∧ad.block=q:=fun q hq=>by
        cases la with
        | none=>cases hq
        | some ad=>exact ⟨ad,rfl,by simpa [Value.ownBlock] using hq⟩
       have goodg:goodB eb la g:=⟨uh HGE,fun ad e9 h9=>own_ne_row G2 O2.own (by decide) (by rw [e9,← h9];rfl)⟩
       have goodr:goodB eb la rb:=⟨hge2,fun ad e9 h9=>own_ne_row R2 O2.own (by decide) (by rw [e9,← h9];rfl)⟩
       have HGD:=hide (And.intro goodg goodr)
       have HSN2:=hide (fun (w':World) (hW':Below B w2 w')=>uh HSN w' ((CS2.mono (by have:=Ok.low;have:=Ok.M.row.lt;omega)).trans hW'))
       clear gne goodg goodr HDT HNX HTY
       dsimp only
       go_wp2_with (at_builtin;refine wpList_append_lies _ rfl _ _ 60 rfl B 116 iv .nilIface 1 16 Tryz.underlying60 hiv vz0 vz1 vz2 rfl (by decide) _ _ _ rfl (World.ownsRow.alloc O2.own _) ⟨w2.heap.size,0,none⟩ 1 1 [.iface tx ux] rfl rfl ?c1 ?c2 (by decide) ?c3 ?c4 ?c5 (w2.heap.size+1) (by simp) ?_)
       case c1=>exact one_cell _ _ _ _ (by simp)
       case c2=>intro u hu;simp at hu;subst hu;rfl
       case c3=>unfold maxLen;omega
       case c4=>omega
       case c5=>simp;omega
       intro g7 cap7 w7 O7 hgrow hat hgl
       obtain ⟨R7,O8,B8,K8⟩:=O2.push (uh HVI) hlen O7 hgrow hat (uh HSN2)
       have m6:w7.cell? ⟨eb,6,none⟩=some (.slice la ls.length lc):=R7.cell 6
       have mf:=fun j=>R7.frozen j
       have G8:Row _ g cur 113:=⟨(K8 g G2.lt (uh HGD).1).trans G2.out⟩
       have R8:Row _ rb #[.int .i64 0,.int .i64 0,.slice none 0 0] 33:=⟨(K8 rb R2.lt (uh HGD).2).trans R2.out⟩
       have B9:=B2.trans B8
       have HLL:=hide (show (ls++[v]).length≤k+1 by rw [List.length_append];have:=uh HLK;simp;omega)
       clear hgrow hat O7 K8 B8
       go_wp2_with fail
       go_roundw
       case rel=>exact ⟨k+1,ls++[v],some ⟨g7,0,none⟩,cap7,xs++[.iface tx ux],uh Hlt,by go_num,hide ⟨uh HN,uh HEQ,uh HLL,uh HAL⟩,O8,G8,R8,B9⟩
       case measure=>have:=uh Hlt;simp [intOf];omega
     ·have CS:=(Below.refl wr.heap.size wr).alloc nl (.cells #[.int .i64 k,.int .i64 kd,.string nm,.iface t3 u3,.iface t4 u4] 113)
      have SR:=Row.new wr #[.int .i64 k,.int .i64 kd,.string nm,.iface t3 u3,.iface t4 u4] 113
      obtain ⟨y0,y1,y2,y3,y4,_⟩:=row5 SR
      have OD:=Ok.below CS
      have RD:=Rk.after CS nl
      have GD:=Gk.after CS nl
      have BD:=Bk.trans (CS.mono (by have:=Ok.low;have:=Ok.M.row.lt;omega))

      have HVW:=hide (uh HV _ ⟨OD.M,uh HMK _ CS e (List.mem_of_getElem? (uh HE2))⟩)
      go_wp2_with fail
      refine (uh HVW).mono ?_
      rintro r w2 ⟨hr,hb2⟩
      have O2:=OD.below hb2
      have R2:=RD.after hb2 nl
      have G2:=GD.after hb2 nl
      have B2:=BD.trans (hb2.mono (by have:=OD.low;have:=OD.M.row.lt;omega))
      have CS2:=CS.trans (hb2.mono CS.size)
      obtain ⟨l0,l1,l2,l3,l4,_⟩:=row5 (SR.after hb2 nl)
      clear HVW
      cases oe with
      | err c =>
       obtain ⟨x,er,rfl,hE⟩:=hr
       obtain ⟨ue,rfl⟩:=hE.form
       have HEQ:=hide (uh HDT)
       obtain ⟨x0,x1,x2⟩:=row3D R2
       have f0:=fun j=>R2.frozen j
       have R3:=R2.set 0 (.int .i64 0)
       have f1:=fun j=>R3.frozen j
       have R4:=R3.set 1 (.int .i64 0)
       have f2:=fun j=>R4.frozen j
       have R5:=R4.set 2 (.slice none 0 0)
       obtain ⟨p0,p1,p2⟩:=row3D R5
       have E5:=((hE.set R2 (by decide) 0 (.int .i64 0)).set R3 (by decide) 1 (.int .i64 0)).set R4 (by decide) 2 (.slice none 0 0)
       have B5:=((B2.setCell (p:=⟨rb,0,none⟩) hBw (.int .i64 0)).setCell (p:=⟨rb,1,none⟩) hBw (.int .i64 0)).setCell (p:=⟨rb,2,none⟩) hBw (.slice none 0 0)
       dsimp only
       go_wp2_with fail
       refine bodyPost_ret (v:=.tuple #[.agg #[.int .i64 0,.int .i64 0,.slice none 0 0],.iface 202 ue]) (by simp [results,Tryz.results30,go_sem,p0,p1,p2]) rfl ?_
       rw [uh HEQ]
       exact ⟨⟨_,rfl,E5⟩,B5⟩
      | ok v =>
       obtain ⟨x,rfl,hv⟩:=hr
       obtain ⟨tx,ux,hxf⟩:=hv.form
       subst hxf
       have HVI:=hide hv
       clear hv
       have hsz2:B≤w2.heap.size:=by have:=O2.low;have:=O2.M.row.lt;omega
       have hlen:ls.length<1000:=by have:=uh HLK;have:=uh Hlt;omega
       have heb2:=O2.M.row.lt
       obtain ⟨r0,r1,r2,r3,r4,r5,r6⟩:=row7 O2.M.row
       have rf:=fun j=>O2.M.row.frozen j
       have HEQ:=hide (show decL R Es [] L=decL R Es (ls++[v]) (L.drop (k+1)) from uh HDT)
       have HN:=hide (uh HNX v (by first | rfl | trivial))
       have gne:∀ q,(Value.slice la ls.length lc).ownBlock=some q→∃ ad,la=some ad∧ad.block=q:=fun q hq=>by
        cases la with
        | none=>cases hq
        | some ad=>exact ⟨ad,rfl,by simpa [Value.ownBlock] using hq⟩
       have goodg:goodB eb la g:=⟨uh HGE,fun ad e9 h9=>own_ne_row G2 O2.own (by decide) (by rw [e9,← h9];rfl)⟩
       have goodr:goodB eb la rb:=⟨hge2,fun ad e9 h9=>own_ne_row R2 O2.own (by decide) (by rw [e9,← h9];rfl)⟩
       have HGD:=hide (And.intro goodg goodr)
       have HSN2:=hide (fun (w':World) (hW':Below B w2 w')=>uh HSN w' ((CS2.mono (by have:=Ok.low;have:=Ok.M.row.lt;omega)).trans hW'))
       clear gne goodg goodr HDT HNX HTY
       dsimp only
       go_wp2_with (at_builtin;refine wpList_append_lies _ rfl _ _ 60 rfl B 116 iv .nilIface 1 16 Tryz.underlying60 hiv vz0 vz1 vz2 rfl (by decide) _ _ _ rfl (World.ownsRow.alloc O2.own _) ⟨w2.heap.size,0,none⟩ 1 1 [.iface tx ux] rfl rfl ?c1 ?c2 (by decide) ?c3 ?c4 ?c5 (w2.heap.size+1) (by simp) ?_)
       case c1=>exact one_cell _ _ _ _ (by simp)
       case c2=>intro u hu;simp at hu;subst hu;rfl
       case c3=>unfold maxLen;omega
       case c4=>omega
       case c5=>simp;omega
       intro g7 cap7 w7 O7 hgrow hat hgl
       obtain ⟨R7,O8,B8,K8⟩:=O2.push (uh HVI) hlen O7 hgrow hat (uh HSN2)
       have m6:w7.cell? ⟨eb,6,none⟩=some (.slice la ls.length lc):=R7.cell 6
       have mf:=fun j=>R7.frozen j
       have G8:Row _ g cur 113:=⟨(K8 g G2.lt (uh HGD).1).trans G2.out⟩
       have R8:Row _ rb #[.int .i64 0,.int .i64 0,.slice none 0 0] 33:=⟨(K8 rb R2.lt (uh HGD).2).trans R2.out⟩
       have B9:=B2.trans B8
       have HLL:=hide (show (ls++[v]).length≤k+1 by rw [List.length_append];have:=uh HLK;simp;omega)
       clear hgrow hat O7 K8 B8
       go_wp2_with fail
       go_roundw
       case rel=>exact ⟨k+1,ls++[v],some ⟨g7,0,none⟩,cap7,xs++[.iface tx ux],uh Hlt,by go_num,hide ⟨uh HN,uh HEQ,uh HLL,uh HAL⟩,O8,G8,R8,B9⟩
       case measure=>have:=uh Hlt;simp [intOf];omega
    ·obtain ⟨ht,hs2⟩:=cond_when (uh HC2) e1 e2 hk1
     have HV:=hide (value_any (aS:=aS) (aO:=aO) (aZ:=aZ) (aW:=aW) (G:=goodB eb la) eb R a1 n1 c1 a2 n2 c2 la lc ls (ls.map Vv.ty) rfl e e3 1 ht)
     have HTY:=hide (show ∀ v,evE R ls e=.ok v→v.ty=1 from fun v hv=>evE_ty rfl e 1 ht v hv)
     have HNX:=hide (show ∃ ns tt,ckAll Es (attN,[],[]) (L.take (k+1))=some (ns,ls.map Vv.ty,tt) from ⟨s3.1,s3.2.2,by rw [uh HCK3];exact congrArg some (Prod.ext rfl (Prod.ext ((uh HG2L).trans hs2) rfl))⟩)
     have HDT:=hide ((uh HDC).trans (decL_when e1 e2 hk1))
     have HDE:=hide (fun (W:World) (hM:EvM (goodB eb la) aS aO aZ aW eb R a1 n1 c1 a2 n2 c2 la lc ls W) (hme:∀ e∈Es,e.mem (goodB eb la) W)=>decision_any eb R a1 n1 c1 a2 n2 c2 la lc ls (ls.map Vv.ty) rfl Es s.grant (uh HOK2) (fun mq eq z1 z2=>by have:=grant_ty (uh HG2) z1 z2;rw [hs2] at this;exact this) W hM hme)
     rw [v3] at HV
     generalize evE R ls e=oe at HV HTY HDT
     have ek1:(s.kind == 1)=false:=beq_eq_false_iff_ne.2 hk1
     clear ht hs2 hk1 e1 e2
     generalize optV Es s.grant=o4 at q4 HDE v4
     generalize decG R ls Es s.grant=dg at HDE HDT
     generalize s.kind=kd at q1 ek1
     generalize s.name=nm at q2
     rcases v4 with rfl | ⟨t4,u4,rfl⟩
     ·have CS:=(Below.refl wr.heap.size wr).alloc nl (.cells #[.int .i64 k,.int .i64 kd,.string nm,.iface t3 u3,.nilIface] 113)
      have SR:=Row.new wr #[.int .i64 k,.int .i64 kd,.string nm,.iface t3 u3,.nilIface] 113
      obtain ⟨y0,y1,y2,y3,y4,_⟩:=row5 SR
      have OD:=Ok.below CS
      have RD:=Rk.after CS nl
      have GD:=Gk.after CS nl
      have BD:=Bk.trans (CS.mono (by have:=Ok.low;have:=Ok.M.row.lt;omega))

      have HVW:=hide (uh HV _ ⟨OD.M,uh HMK _ CS e (List.mem_of_getElem? (uh HE2))⟩)
      go_wp2_with fail
      refine (uh HVW).mono ?_
      rintro r w2 ⟨hr,hb2⟩
      have O2:=OD.below hb2
      have R2:=RD.after hb2 nl
      have G2:=GD.after hb2 nl
      have B2:=BD.trans (hb2.mono (by have:=OD.low;have:=OD.M.row.lt;omega))
      have CS2:=CS.trans (hb2.mono CS.size)
      obtain ⟨l0,l1,l2,l3,l4,_⟩:=row5 (SR.after hb2 nl)
      clear HVW
      cases oe with
      | err c =>
       obtain ⟨x,er,rfl,hE⟩:=hr
       obtain ⟨ue,rfl⟩:=hE.form
       have HEQ:=hide (uh HDT)
       obtain ⟨x0,x1,x2⟩:=row3D R2
       have f0:=fun j=>R2.frozen j
       have R3:=R2.set 0 (.int .i64 0)
       have f1:=fun j=>R3.frozen j
       have R4:=R3.set 1 (.int .i64 0)
       have f2:=fun j=>R4.frozen j
       have R5:=R4.set 2 (.slice none 0 0)
       obtain ⟨p0,p1,p2⟩:=row3D R5
       have E5:=((hE.set R2 (by decide) 0 (.int .i64 0)).set R3 (by decide) 1 (.int .i64 0)).set R4 (by decide) 2 (.slice none 0 0)
       have B5:=((B2.setCell (p:=⟨rb,0,none⟩) hBw (.int .i64 0)).setCell (p:=⟨rb,1,none⟩) hBw (.int .i64 0)).setCell (p:=⟨rb,2,none⟩) hBw (.slice none 0 0)
       dsimp only
       go_wp2_with fail
       refine bodyPost_ret (v:=.tuple #[.agg #[.int .i64 0,.int .i64 0,.slice none 0 0],.iface 202 ue]) (by simp [results,Tryz.results30,go_sem,p0,p1,p2]) rfl ?_
       rw [uh HEQ]
       exact ⟨⟨_,rfl,E5⟩,B5⟩
      | ok v =>
       obtain ⟨x,rfl,hv⟩:=hr
       obtain ⟨tx,ux,hxf⟩:=hv.form
       subst hxf
       obtain ⟨b,rfl⟩:=Vv.bool_of (uh HTY v rfl)
       obtain ⟨rfl,rfl⟩:tx=119∧ux=.bool b:=by
        have e9:Value.iface tx ux=.iface 119 (.bool b):=hv
        exact ⟨by injection e9,by injection e9⟩
       cases b with
       | true =>
        have HEQ:=hide (uh HDT)
        dsimp only
        have HCC:=hide (uh HDE _ O2.M (uh HMK _ CS2))
        have hrw:=R2.lt
        go_wp2_with fail
        refine (uh HCC).mono ?_
        intro r w9 hr
        obtain ⟨z0,zx,zn,zc,er,rfl,hA⟩:=hr.form3
        have R9:=R2.after hA.2 nl
        obtain ⟨x0,x1,x2⟩:=row3D R9
        have f0:=fun j=>R9.frozen j
        have f1:=fun j=>(R9.set 0 (.int .i64 z0)).frozen j
        have f2:=fun j=>((R9.set 0 (.int .i64 z0)).set 1 (.int .i64 0)).frozen j
        obtain ⟨p0,p1,p2⟩:=row3D (((R9.set 0 (.int .i64 z0)).set 1 (.int .i64 0)).set 2 (.slice zx zn zc))
        have HA:=hide (hA.store R9 hrw hBw B2)
        clear hA hr HCC
        dsimp only
        go_wp2_with fail
        refine bodyPost_ret (v:=.tuple #[.agg #[.int .i64 z0,.int .i64 0,.slice zx zn zc],er]) (by simp [results,Tryz.results30,go_sem,p0,p1,p2]) rfl ?_
        rw [uh HEQ]
        exact uh HA
       | false =>
        have HEQ:=hide (uh HDT)
        have HN:=hide (uh HNX)
        dsimp only
        go_wp2_with fail
        go_roundw
        case rel=>exact ⟨k+1,ls,la,lc,xs,uh Hlt,by go_num,hide ⟨uh HN,uh HEQ,Nat.le_succ_of_le (uh HLK),uh HAL⟩,O2,G2,R2,B2⟩
        case measure=>have:=uh Hlt;simp [intOf];omega
     ·have CS:=(Below.refl wr.heap.size wr).alloc nl (.cells #[.int .i64 k,.int .i64 kd,.string nm,.iface t3 u3,.iface t4 u4] 113)
      have SR:=Row.new wr #[.int .i64 k,.int .i64 kd,.string nm,.iface t3 u3,.iface t4 u4] 113
      obtain ⟨y0,y1,y2,y3,y4,_⟩:=row5 SR
      have OD:=Ok.below CS
      have RD:=Rk.after CS nl
      have GD:=Gk.after CS nl
      have BD:=Bk.trans (CS.mono (by have:=Ok.low;have:=Ok.M.row.lt;omega))

      have HVW:=hide (uh HV _ ⟨OD.M,uh HMK _ CS e (List.mem_of_getElem? (uh HE2))⟩)
      go_wp2_with fail
      refine (uh HVW).mono ?_
      rintro r w2 ⟨hr,hb2⟩
      have O2:=OD.below hb2
      have R2:=RD.after hb2 nl
      have G2:=GD.after hb2 nl
      have B2:=BD.trans (hb2.mono (by have:=OD.low;have:=OD.M.row.lt;omega))
      have CS2:=CS.trans (hb2.mono CS.size)
      obtain ⟨l0,l1,l2,l3,l4,_⟩:=row5 (SR.after hb2 nl)
      clear HVW
      cases oe with
      | err c =>
       obtain ⟨x,er,rfl,hE⟩:=hr
       obtain ⟨ue,rfl⟩:=hE.form
       have HEQ:=hide (uh HDT)
       obtain ⟨x0,x1,x2⟩:=row3D R2
       have f0:=fun j=>R2.frozen j
       have R3:=R2.set 0 (.int .i64 0)
       have f1:=fun j=>R3.frozen j
       have R4:=R3.set 1 (.int .i64 0)
       have f2:=fun j=>R4.frozen j
       have R5:=R4.set 2 (.slice none 0 0)
       obtain ⟨p0,p1,p2⟩:=row3D R5
       have E5:=((hE.set R2 (by decide) 0 (.int .i64 0)).set R3 (by decide) 1 (.int .i64 0)).set R4 (by decide) 2 (.slice none 0 0)
       have B5:=((B2.setCell (p:=⟨rb,0,none⟩) hBw (.int .i64 0)).setCell (p:=⟨rb,1,none⟩) hBw (.int .i64 0)).setCell (p:=⟨rb,2,none⟩) hBw (.slice none 0 0)
       dsimp only
       go_wp2_with fail
       refine bodyPost_ret (v:=.tuple #[.agg #[.int .i64 0,.int .i64 0,.slice none 0 0],.iface 202 ue]) (by simp [results,Tryz.results30,go_sem,p0,p1,p2]) rfl ?_
       rw [uh HEQ]
       exact ⟨⟨_,rfl,E5⟩,B5⟩
      | ok v =>
       obtain ⟨x,rfl,hv⟩:=hr
       obtain ⟨tx,ux,hxf⟩:=hv.form
       subst hxf
       obtain ⟨b,rfl⟩:=Vv.bool_of (uh HTY v rfl)
       obtain ⟨rfl,rfl⟩:tx=119∧ux=.bool b:=by
        have e9:Value.iface tx ux=.iface 119 (.bool b):=hv
        exact ⟨by injection e9,by injection e9⟩
       cases b with
       | true =>
        have HEQ:=hide (uh HDT)
        dsimp only
        have HCC:=hide (uh HDE _ O2.M (uh HMK _ CS2))
        have hrw:=R2.lt
        go_wp2_with fail
        refine (uh HCC).mono ?_
        intro r w9 hr
        obtain ⟨z0,zx,zn,zc,er,rfl,hA⟩:=hr.form3
        have R9:=R2.after hA.2 nl
        obtain ⟨x0,x1,x2⟩:=row3D R9
        have f0:=fun j=>R9.frozen j
        have f1:=fun j=>(R9.set 0 (.int .i64 z0)).frozen j
        have f2:=fun j=>((R9.set 0 (.int .i64 z0)).set 1 (.int .i64 0)).frozen j
        obtain ⟨p0,p1,p2⟩:=row3D (((R9.set 0 (.int .i64 z0)).set 1 (.int .i64 0)).set 2 (.slice zx zn zc))
        have HA:=hide (hA.store R9 hrw hBw B2)
        clear hA hr HCC
        dsimp only
        go_wp2_with fail
        refine bodyPost_ret (v:=.tuple #[.agg #[.int .i64 z0,.int .i64 0,.slice zx zn zc],er]) (by simp [results,Tryz.results30,go_sem,p0,p1,p2]) rfl ?_
        rw [uh HEQ]
        exact uh HA
       | false =>
        have HEQ:=hide (uh HDT)
        have HN:=hide (uh HNX)
        dsimp only
        go_wp2_with fail
        go_roundw
        case rel=>exact ⟨k+1,ls,la,lc,xs,uh Hlt,by go_num,hide ⟨uh HN,uh HEQ,Nat.le_succ_of_le (uh HLK),uh HAL⟩,O2,G2,R2,B2⟩
        case measure=>have:=uh Hlt;simp [intOf];omega
  ·have e:k=m:=by omega
   obtain ⟨jl,hj1,hj2⟩:=uh HL
   exact absurd hj2 ((uh HI).2.2.2 jl hj1 (by rw [e,← uh HM];exact hj1))

end Go.Proofs.YtedlocniojlhfaaGreatDoor

namespace Go.Proofs.YtedlocniojlhfaaGreatDoor
set_option maxRecDepth 100000
set_option maxHeartbeats 1600000
open Go.RowKit
set_option linter.unusedVariables false

def IsWT (N:List Nd) (L:List St) (T:List Int) (b:Bool):Prop :=
 (wellT N L=false∧b=false)∨(wellT N L=true∧∃ Es:List Ex,Es.length=N.length∧(∀ j,(h:j<Es.length)→IsT N j Es[j])∧b=(match ckAll Es (attN,[],[]) L with
  | none=>false
  | some st=>decide (st.2.2=T)))

theorem untyped_any (a b e:Option Addr) (n c m d k f:Nat) (w:World) :
  Calls Tryz.prog 32 #[.agg #[.slice a n c,.slice b m d,.slice e k f]] w fun r w'=>r=.returned (.agg #[.slice a n c,.slice b m d])∧Below w.heap.size w w':=by
 have B0:=(Below.refl w.heap.size w).alloc nl (.cells #[.slice a n c,.slice b m d,.slice e k f] 38)
 have B1:=B0.alloc B0.size (.cells #[.slice a n c,.slice b m d] 70)
 have R1:=Row.new (w.alloc (.cells #[.slice a n c,.slice b m d,.slice e k f] 38)) #[.slice a n c,.slice b m d] 70
 simp only [World.size_alloc] at R1
 obtain ⟨p0,p1⟩:=row2 R1
 go_enter Tryz.func32,Tryz.ntmps32
 go_wp2_with fail
 refine bodyPost_ret (v:=.agg #[.slice a n c,.slice b m d]) (by simp [results,Tryz.results32,go_sem,p0,p1]) rfl ?_
 exact ⟨rfl,B1⟩

theorem ckAll_types {Es:List Ex} {L:List St} {st:CkS} (h:ckAll Es (attN,[],[]) L=some st) (hc:cntL Es L≤4000):st.2.2.length≤4000:=by
 have:=(ckAll_len h).1
 simp at this
 omega

theorem iWellTyped_any (a b e:Option Addr) (n c m d k f:Nat) (N:List Nd) (L:List St) (T:List Int) (aT aN aA:Addr) (w:World) (h1:Nds w a n c N) (h2:Sts w b m d L) (h3:Ints w e k f T) (hT:TabOK w) (hV:Vok w aT) (hE:Eok w aN aA) :
  Calls Tryz.prog 28 #[.agg #[.slice a n c,.slice b m d,.slice e k f]] w fun r w'=>(∃ v,r=.returned (.bool v)∧IsWT N L T v)∧Below w.heap.size w w':=by
 have HN:=hide h1.len
 have HL:=hide h2.len
 have R0:=Row.new w #[.slice a n c,.slice b m d,.slice e k f] 38
 have B0:=(Below.refl w.heap.size w).alloc nl (.cells #[.slice a n c,.slice b m d,.slice e k f] 38)
 have N0:=h1.below B0 nl
 have L0:=h2.below B0 nl
 have I0:=h3.below B0 nl
 have T0:=hT.below B0 nl
 have V0:=hV.below B0 nl
 have E0:=hE.below B0 nl
 clear h1 h2 h3 hT hV hE
 go_enter Tryz.func28,Tryz.ntmps28
 go_wp2_with fail
 refine (untyped_any _ _ _ _ _ _ _ _ _ _).mono ?_
 rintro r w1 ⟨rfl,hb1⟩
 dsimp only
 have N1:=N0.below hb1 nl
 have L1:=L0.below hb1 nl
 have I1:=I0.below hb1 nl
 have T1:=T0.below hb1 nl
 have V1:=V0.below hb1 nl
 have E1:=E0.below hb1 nl
 have R1:=R0.after hb1 nl
 have B1:=B0.trans (hb1.mono B0.size)
 clear N0 L0 I0 T0 V0 E0 R0 B0 hb1
 go_wp2_with fail
 refine (wellFormedT_any _ _ _ _ _ _ N L _ N1 L1 T1).mono ?_
 rintro r w2 ⟨rfl,hb2⟩
 dsimp only
 have N2:=N1.below hb2 nl
 have L2:=L1.below hb2 nl
 have I2:=I1.below hb2 nl
 have V2:=V1.below hb2 nl
 have E2:=E1.below hb2 nl
 have R2:=R1.after hb2 nl
 have B2:=B1.trans (hb2.mono B1.size)
 clear N1 L1 I1 T1 V1 E1 R1 B1 hb2
 cases hw:wellT N L with
 | false =>
  have HW:=hide hw
  clear hw
  go_wp2_with fail
  go_ret
  exact ⟨⟨_,rfl,.inl ⟨uh HW,rfl⟩⟩,B2⟩
 | true =>
  have HW:=hide hw
  have HP:=hide (wellPT_of hw)
  clear hw
  go_wp2_with fail
  refine (newChecker_any aT _ V2).mono ?_
  rintro r w3 ⟨cb,mb,rfl,hmb,C3,M3,hb3⟩
  dsimp only
  have L3:=L2.below hb3 nl
  have I3:=I2.below hb3 nl
  have R3:=R2.after hb3 nl
  have Q3:Cm w2.heap.size cb mb attN [] [] (.slice none 0 0) (.slice none 0 0) w3:=⟨C3,M3,hmb⟩
  obtain ⟨p0,p1,p2,_⟩:=row3 R3
  have z2:=R2.lt
  clear R2
  go_wp2_with fail
  refine (untyped_any _ _ _ _ _ _ _ _ _ _).mono ?_
  rintro r w4 ⟨rfl,hb4⟩
  dsimp only
  have L4:=L3.below hb4 nl
  have D4:=hb3.trans (hb4.mono hb3.size)
  have Q4:=Q3.below hb4
  have R4:=R3.after hb4 nl
  have HC:=hide (statementsOf_any a b n c m d N L w2 w4 N2 D4 L4 Ex.typed (makes_typed (uh HP)) (by rw [← uh HN];exact (uh HP).roots))
  clear p0 p1 p2 R3 L3 C3 M3
  go_wp2_with fail
  refine (uh HC).mono ?_
  rintro r w5 ⟨⟨v,Es,rfl,hEl,hE,hf,O5⟩,hb5⟩
  dsimp only
  have HEl:=hide (show Es.length=N.length by rw [hEl,uh HN])
  have HE:=hide hE
  have HOK:=hide (okP_of (uh HP) (uh HEl) hE hf)
  have HCN:=hide (cntL_le (uh HW) (uh HEl) hE)
  have Hm:=hide (show 1≤m∧m≤600 by rw [← uh HL];exact ⟨(uh HP).m0,(uh HP).m⟩)
  obtain ⟨xv,kv,rfl,hx⟩:=owns_form2 O5
  obtain ⟨g,rfl,hg,hgc⟩:=hx (by have:=uh Hm;omega)
  obtain ⟨cur,R5,hcur⟩:=row_of_owns O5
  have g1:g≠cb:=by have:=Q4.C.row.lt;omega
  have g2:g≠mb:=by have:=Q4.M.lt;omega
  have Q5:=Q4.below hb5
  have D5:=D4.trans (hb5.mono D4.size)
  have R6:=R4.after hb5 nl
  have HS:=hide (statements_any w2.heap.size cb mb (attN,[],[]) (.slice none 0 0) (.slice none 0 0) w2 aT aN aA V2 E2 nl Es L m g kv cur w5 (uh HL) (fun t ht=>by cases ht) (by have:=uh Hm;simp;omega) (uh HOK) (by have:=uh HCN;simp;omega) D5 Q5 R5 (fun r u hu=>by rw [← R5.cell];exact hgc r u hu) g1 g2 (by simp [Value.ownBlock]) (by simp [Value.ownBlock]))
  clear hEl hE hf hx hgc HC O5 hb5 Q3 Q4 L4 R4
  go_wp2_with fail
  refine (uh HS).mono ?_
  rintro r w6 (⟨ns,ts,tt,lv,tv,ho,rfl,H6,K6⟩ | ⟨ho,⟨te,ue,rfl⟩,hb6⟩)
  ·have HO:=hide ho
   have ht:=ckAll_types ho (uh HCN)
   clear ho
   dsimp only
   have I6:=I2.below (D5.trans K6.low) nl
   have R7:=R6.below K6.low z2
   obtain ⟨xt,ct,rfl,_⟩:=owns_form2 H6.C.types
   have J6:=ints_of_row H6.C.types (by have:tt.length≤4000:=ht;omega)
   have RC:=H6.C.row
   have D1:Below w6.heap.size w6 w6.drew:=(Below.refl _ _).drew
   have keep:∀ w',Below w6.heap.size w6 w'→w'.cell? ⟨cb,2,none⟩=some (.slice xt tt.length ct)∧w'.cell? ⟨w.heap.size,2,none⟩=some (.slice e k f):=fun w' hb=>⟨(RC.after hb nl).cell 2,(R7.after hb nl).cell 2⟩
   have KP:=hide keep
   have q1:=keep _ D1
   have J7:=J6.below D1 nl
   have I7:=I6.below D1 nl
   clear keep ht
   go_wp2_with fail
   go_region_held3 (fun w'=>w'.cell? ⟨cb,2,none⟩=some (.slice xt tt.length ct)∧w'.cell? ⟨w.heap.size,2,none⟩=some (.slice e k f)) (first | assumption | go_keep)
    ((go_at_call 56;refine (equalI_any _ _ _ _ _ _ _ _ _ J7 I7).mono ?_;rintro r w7 ⟨rfl,hb7⟩;have G2:=D1.trans (hb7.mono D1.size);have q2:=uh KP _ G2))
   go_wp2_with fail
   go_ret
   exact ⟨⟨_,rfl,.inr ⟨uh HW,Es,uh HEl,uh HE,by rw [uh HO]⟩⟩,B2.trans ((D5.trans (K6.low.trans (G2.mono (D5.trans K6.low).size))).mono B2.size)⟩
  ·have HO:=hide ho
   clear ho
   dsimp only
   go_wp2_with fail
   go_region
   all_goals
    go_wp2_with fail
    go_ret
    exact ⟨⟨_,rfl,.inr ⟨uh HW,Es,uh HEl,uh HE,by rw [uh HO]⟩⟩,B2.trans ((D5.trans hb6.drew).mono B2.size)⟩

end Go.Proofs.YtedlocniojlhfaaGreatDoor
