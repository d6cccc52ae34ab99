/-
  The model's evaluation of attributes and lets. Own work.
-/
import Derived.Test.YtedlocniojlhfaaGreatDoorMXAP
namespace Go.Proofs.YtedlocniojlhfaaGreatDoor
set_option maxRecDepth 100000
set_option maxHeartbeats 3200000
open Go.RowKit
set_option linter.unusedVariables false

theorem eval_attr0 (x:Nd) (ho:x.op=6) (hk:x.num=0) (b off n c i:Nat) (hin:i<n) (hn:n≤1048576) (an:Option Addr) (nn cn:Nat) (ak:Option Addr) (nk ck:Nat) (R:Rq) (a1:Option Addr) (n1 c1:Nat) (a2:Option Addr) (n2 c2:Nat) (la:Option Addr) (ln lc:Nat) (w:World) (hb:b<w.heap.size) (hx:NdC w b (off+i*5) x an nn cn ak nk ck) :
  Calls Tryz.prog 49 #[.slice (some ⟨b,off,none⟩) n c,.int .i64 i,.agg #[.string R.cl,.string R.us,.int .i64 R.lv,.int .i64 R.nw,.slice a1 n1 c1,.slice a2 n2 c2],.slice la ln lc] w (MAns (.ok (.text R.cl)) w):=by
 have B2:=((Below.refl w.heap.size w).alloc nl (.cells #[.string R.cl,.string R.us,.int .i64 R.lv,.int .i64 R.nw,.slice a1 n1 c1,.slice a2 n2 c2] 40)).alloc (by simp) (.cells #[.int .i64 0,.int .i64 0,.string ⟨#[]⟩,.slice none 0 0] 96)
 obtain ⟨d0,d1,d2,d3,d4⟩:=hx.below B2 hb
 have iin:(i:Int)<(n:Int):=by omega
 rw [ho] at d0
 rw [hk] at d1
 clear ho hk hx
 go_enter Tryz.func49,Tryz.ntmps49
 go_wp2_with fail
 refine bodyPost_ret (v:=.agg #[.int .i64 0,.int .i64 0,.string R.cl,.slice none 0 0]) (by simp [results,Tryz.results49,go_sem]) rfl ⟨⟨_,_,_,_,_,_,rfl,rfl,?_⟩,((((Below.refl w.heap.size w).alloc nl _).alloc (by simp) _).alloc (by simp;omega) _).alloc (by simp;omega) _⟩
 exact ⟨rfl,rfl,rfl,rfl,rfl⟩

theorem eval_attr1 (x:Nd) (ho:x.op=6) (hk:x.num=1) (b off n c i:Nat) (hin:i<n) (hn:n≤1048576) (an:Option Addr) (nn cn:Nat) (ak:Option Addr) (nk ck:Nat) (R:Rq) (a1:Option Addr) (n1 c1:Nat) (a2:Option Addr) (n2 c2:Nat) (la:Option Addr) (ln lc:Nat) (w:World) (hb:b<w.heap.size) (hx:NdC w b (off+i*5) x an nn cn ak nk ck) :
  Calls Tryz.prog 49 #[.slice (some ⟨b,off,none⟩) n c,.int .i64 i,.agg #[.string R.cl,.string R.us,.int .i64 R.lv,.int .i64 R.nw,.slice a1 n1 c1,.slice a2 n2 c2],.slice la ln lc] w (MAns (.ok (.text R.us)) w):=by
 have B2:=((Below.refl w.heap.size w).alloc nl (.cells #[.string R.cl,.string R.us,.int .i64 R.lv,.int .i64 R.nw,.slice a1 n1 c1,.slice a2 n2 c2] 40)).alloc (by simp) (.cells #[.int .i64 0,.int .i64 0,.string ⟨#[]⟩,.slice none 0 0] 96)
 obtain ⟨d0,d1,d2,d3,d4⟩:=hx.below B2 hb
 have iin:(i:Int)<(n:Int):=by omega
 rw [ho] at d0
 rw [hk] at d1
 clear ho hk hx
 go_enter Tryz.func49,Tryz.ntmps49
 go_wp2_with fail
 refine bodyPost_ret (v:=.agg #[.int .i64 0,.int .i64 0,.string R.us,.slice none 0 0]) (by simp [results,Tryz.results49,go_sem]) rfl ⟨⟨_,_,_,_,_,_,rfl,rfl,?_⟩,((((Below.refl w.heap.size w).alloc nl _).alloc (by simp) _).alloc (by simp;omega) _).alloc (by simp;omega) _⟩
 exact ⟨rfl,rfl,rfl,rfl,rfl⟩

theorem eval_attr2 (x:Nd) (ho:x.op=6) (hk:x.num=2) (b off n c i:Nat) (hin:i<n) (hn:n≤1048576) (an:Option Addr) (nn cn:Nat) (ak:Option Addr) (nk ck:Nat) (R:Rq) (a1:Option Addr) (n1 c1:Nat) (a2:Option Addr) (n2 c2:Nat) (la:Option Addr) (ln lc:Nat) (w:World) (hb:b<w.heap.size) (hx:NdC w b (off+i*5) x an nn cn ak nk ck) (hi:I64 R.lv) :
  Calls Tryz.prog 49 #[.slice (some ⟨b,off,none⟩) n c,.int .i64 i,.agg #[.string R.cl,.string R.us,.int .i64 R.lv,.int .i64 R.nw,.slice a1 n1 c1,.slice a2 n2 c2],.slice la ln lc] w (MAns (.ok (.int R.lv)) w):=by
 have B2:=((Below.refl w.heap.size w).alloc nl (.cells #[.string R.cl,.string R.us,.int .i64 R.lv,.int .i64 R.nw,.slice a1 n1 c1,.slice a2 n2 c2] 40)).alloc (by simp) (.cells #[.int .i64 0,.int .i64 0,.string ⟨#[]⟩,.slice none 0 0] 96)
 obtain ⟨d0,d1,d2,d3,d4⟩:=hx.below B2 hb
 have iin:(i:Int)<(n:Int):=by omega
 rw [ho] at d0
 rw [hk] at d1
 clear ho hk hx
 go_enter Tryz.func49,Tryz.ntmps49
 go_wp2_with fail
 refine bodyPost_ret (v:=.agg #[.int .i64 0,.int .i64 R.lv,.string ⟨#[]⟩,.slice none 0 0]) (by simp [results,Tryz.results49,go_sem]) rfl ⟨⟨_,_,_,_,_,_,rfl,rfl,?_⟩,((((Below.refl w.heap.size w).alloc nl _).alloc (by simp) _).alloc (by simp;omega) _).alloc (by simp;omega) _⟩
 exact ⟨⟨rfl,hi⟩,rfl,rfl,rfl,rfl⟩

theorem eval_attr3 (x:Nd) (ho:x.op=6) (hk:x.num=3) (b off n c i:Nat) (hin:i<n) (hn:n≤1048576) (an:Option Addr) (nn cn:Nat) (ak:Option Addr) (nk ck:Nat) (R:Rq) (a1:Option Addr) (n1 c1:Nat) (a2:Option Addr) (n2 c2:Nat) (la:Option Addr) (ln lc:Nat) (w:World) (hb:b<w.heap.size) (hx:NdC w b (off+i*5) x an nn cn ak nk ck) (hi:I64 R.nw) :
  Calls Tryz.prog 49 #[.slice (some ⟨b,off,none⟩) n c,.int .i64 i,.agg #[.string R.cl,.string R.us,.int .i64 R.lv,.int .i64 R.nw,.slice a1 n1 c1,.slice a2 n2 c2],.slice la ln lc] w (MAns (.ok (.int R.nw)) w):=by
 have B2:=((Below.refl w.heap.size w).alloc nl (.cells #[.string R.cl,.string R.us,.int .i64 R.lv,.int .i64 R.nw,.slice a1 n1 c1,.slice a2 n2 c2] 40)).alloc (by simp) (.cells #[.int .i64 0,.int .i64 0,.string ⟨#[]⟩,.slice none 0 0] 96)
 obtain ⟨d0,d1,d2,d3,d4⟩:=hx.below B2 hb
 have iin:(i:Int)<(n:Int):=by omega
 rw [ho] at d0
 rw [hk] at d1
 clear ho hk hx
 go_enter Tryz.func49,Tryz.ntmps49
 go_wp2_with fail
 refine bodyPost_ret (v:=.agg #[.int .i64 0,.int .i64 R.nw,.string ⟨#[]⟩,.slice none 0 0]) (by simp [results,Tryz.results49,go_sem]) rfl ⟨⟨_,_,_,_,_,_,rfl,rfl,?_⟩,((((Below.refl w.heap.size w).alloc nl _).alloc (by simp) _).alloc (by simp;omega) _).alloc (by simp;omega) _⟩
 exact ⟨⟨rfl,hi⟩,rfl,rfl,rfl,rfl⟩

theorem eval_attr4 (x:Nd) (ho:x.op=6) (hk:x.num=4) (b off n c i:Nat) (hin:i<n) (hn:n≤1048576) (an:Option Addr) (nn cn:Nat) (ak:Option Addr) (nk ck:Nat) (R:Rq) (a1:Option Addr) (n1 c1:Nat) (a2:Option Addr) (n2 c2:Nat) (la:Option Addr) (ln lc:Nat) (w:World) (hb:b<w.heap.size) (hx:NdC w b (off+i*5) x an nn cn ak nk ck) (hl:R.s1.length≤1048576) (hS:Strs w a1 n1 c1 R.s1) (hc:ZS w a1 c1) :
  Calls Tryz.prog 49 #[.slice (some ⟨b,off,none⟩) n c,.int .i64 i,.agg #[.string R.cl,.string R.us,.int .i64 R.lv,.int .i64 R.nw,.slice a1 n1 c1,.slice a2 n2 c2],.slice la ln lc] w (MAns (.ok (.set R.s1)) w):=by
 have B2:=((Below.refl w.heap.size w).alloc nl (.cells #[.string R.cl,.string R.us,.int .i64 R.lv,.int .i64 R.nw,.slice a1 n1 c1,.slice a2 n2 c2] 40)).alloc (by simp) (.cells #[.int .i64 0,.int .i64 0,.string ⟨#[]⟩,.slice none 0 0] 96)
 obtain ⟨d0,d1,d2,d3,d4⟩:=hx.below B2 hb
 have iin:(i:Int)<(n:Int):=by omega
 rw [ho] at d0
 rw [hk] at d1
 clear ho hk hx
 go_enter Tryz.func49,Tryz.ntmps49
 go_wp2_with fail
 refine bodyPost_ret (v:=.agg #[.int .i64 0,.int .i64 0,.string ⟨#[]⟩,.slice a1 n1 c1]) (by simp [results,Tryz.results49,go_sem]) rfl ⟨⟨_,_,_,_,_,_,rfl,rfl,?_⟩,((((Below.refl w.heap.size w).alloc nl _).alloc (by simp) _).alloc (by simp;omega) _).alloc (by simp;omega) _⟩
 exact ⟨rfl,rfl,hS.below (((((Below.refl w.heap.size w).alloc nl _).alloc (by simp) _).alloc (by simp;omega) _).alloc (by simp;omega) _) nl,hl,hc.below (((((Below.refl w.heap.size w).alloc nl _).alloc (by simp) _).alloc (by simp;omega) _).alloc (by simp;omega) _) nl⟩

theorem eval_attr5 (x:Nd) (ho:x.op=6) (hk:x.num=5) (b off n c i:Nat) (hin:i<n) (hn:n≤1048576) (an:Option Addr) (nn cn:Nat) (ak:Option Addr) (nk ck:Nat) (R:Rq) (a1:Option Addr) (n1 c1:Nat) (a2:Option Addr) (n2 c2:Nat) (la:Option Addr) (ln lc:Nat) (w:World) (hb:b<w.heap.size) (hx:NdC w b (off+i*5) x an nn cn ak nk ck) (hl:R.s2.length≤1048576) (hS:Strs w a2 n2 c2 R.s2) (hc:ZS w a2 c2) :
  Calls Tryz.prog 49 #[.slice (some ⟨b,off,none⟩) n c,.int .i64 i,.agg #[.string R.cl,.string R.us,.int .i64 R.lv,.int .i64 R.nw,.slice a1 n1 c1,.slice a2 n2 c2],.slice la ln lc] w (MAns (.ok (.set R.s2)) w):=by
 have B2:=((Below.refl w.heap.size w).alloc nl (.cells #[.string R.cl,.string R.us,.int .i64 R.lv,.int .i64 R.nw,.slice a1 n1 c1,.slice a2 n2 c2] 40)).alloc (by simp) (.cells #[.int .i64 0,.int .i64 0,.string ⟨#[]⟩,.slice none 0 0] 96)
 obtain ⟨d0,d1,d2,d3,d4⟩:=hx.below B2 hb
 have iin:(i:Int)<(n:Int):=by omega
 rw [ho] at d0
 rw [hk] at d1
 clear ho hk hx
 go_enter Tryz.func49,Tryz.ntmps49
 go_wp2_with fail
 refine bodyPost_ret (v:=.agg #[.int .i64 0,.int .i64 0,.string ⟨#[]⟩,.slice a2 n2 c2]) (by simp [results,Tryz.results49,go_sem]) rfl ⟨⟨_,_,_,_,_,_,rfl,rfl,?_⟩,((((Below.refl w.heap.size w).alloc nl _).alloc (by simp) _).alloc (by simp;omega) _).alloc (by simp;omega) _⟩
 exact ⟨rfl,rfl,hS.below (((((Below.refl w.heap.size w).alloc nl _).alloc (by simp) _).alloc (by simp;omega) _).alloc (by simp;omega) _) nl,hl,hc.below (((((Below.refl w.heap.size w).alloc nl _).alloc (by simp) _).alloc (by simp;omega) _).alloc (by simp;omega) _) nl⟩

theorem eval_let (x:Nd) (ho:x.op=7) (j:Nat) (hk:x.num=(j:Int)) (b off n c i:Nat) (hin:i<n) (hn:n≤1048576) (an:Option Addr) (nn cn:Nat) (ak:Option Addr) (nk ck:Nat) (R:Rq) (a1:Option Addr) (n1 c1:Nat) (a2:Option Addr) (n2 c2:Nat) (la:Option Addr) (ln lc:Nat) (w:World) (hb:b<w.heap.size) (hx:NdC w b (off+i*5) x an nn cn ak nk ck) (hj:j<ln) (hlen:ln≤1048576) (g o:Nat) (hg:g<w.heap.size) (num:Int) (text:ByteArray) (av:Option Addr) (nv cv:Nat) (v:Vv) (e0:w.cell? ⟨g,o+j*4,none⟩=some (.int .i64 0)) (e1:w.cell? ⟨g,o+j*4+1,none⟩=some (.int .i64 num)) (e2:w.cell? ⟨g,o+j*4+2,none⟩=some (.string text)) (e3:w.cell? ⟨g,o+j*4+3,none⟩=some (.slice av nv cv)) (hv:MVs w num text av nv cv v) :
  Calls Tryz.prog 49 #[.slice (some ⟨b,off,none⟩) n c,.int .i64 i,.agg #[.string R.cl,.string R.us,.int .i64 R.lv,.int .i64 R.nw,.slice a1 n1 c1,.slice a2 n2 c2],.slice (some ⟨g,o,none⟩) ln lc] w (MAns (.ok v) w):=by
 have B2:=((Below.refl w.heap.size w).alloc nl (.cells #[.string R.cl,.string R.us,.int .i64 R.lv,.int .i64 R.nw,.slice a1 n1 c1,.slice a2 n2 c2] 40)).alloc (by simp) (.cells #[.int .i64 0,.int .i64 0,.string ⟨#[]⟩,.slice none 0 0] 96)
 obtain ⟨d0,d1,d2,d3,d4⟩:=hx.below B2 hb
 have iin:(i:Int)<(n:Int):=by omega
 rw [ho] at d0
 rw [hk] at d1
 have B3:=B2.alloc B2.size (.cells #[.int .i64 7,.int .i64 j,.string x.text,.slice an nn cn,.slice ak nk ck] 98)
 have f0:=(B3.cell (p:=⟨g,o+j*4,none⟩) hg).trans e0
 have f1:=(B3.cell (p:=⟨g,o+j*4+1,none⟩) hg).trans e1
 have f2:=(B3.cell (p:=⟨g,o+j*4+2,none⟩) hg).trans e2
 have f3:=(B3.cell (p:=⟨g,o+j*4+3,none⟩) hg).trans e3
 have jin:(j:Int)<(ln:Int):=by omega
 clear ho hk hx
 go_enter Tryz.func49,Tryz.ntmps49
 go_wp2_with fail
 refine bodyPost_ret (v:=.agg #[.int .i64 0,.int .i64 num,.string text,.slice av nv cv]) (by simp [results,Tryz.results49,go_sem]) rfl ⟨⟨_,_,_,_,_,_,rfl,rfl,hv.below ((((Below.refl w.heap.size w).alloc nl _).alloc (by simp) _).alloc (by simp;omega) _) nl⟩,(((Below.refl w.heap.size w).alloc nl _).alloc (by simp) _).alloc (by simp;omega) _⟩

end Go.Proofs.YtedlocniojlhfaaGreatDoor
