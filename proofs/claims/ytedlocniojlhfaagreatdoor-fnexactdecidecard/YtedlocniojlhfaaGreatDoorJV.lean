/-
  The type of a node, by those of its kids. Own work.
-/
import Derived.Test.YtedlocniojlhfaaGreatDoorJO
import Derived.Test.YtedlocniojlhfaaGreatDoorMXAH
namespace Go.Proofs.YtedlocniojlhfaaGreatDoor
set_option maxRecDepth 100000
set_option maxHeartbeats 1600000
open Go.RowKit
set_option linter.unusedVariables false

def TaAns (o:Option Int) (r:Ending):Prop:=(∃ t,o=some t∧r=.returned (.tuple #[.int .i64 t,.nilIface]))∨(o=none∧∃ z t u,r=.returned (.tuple #[.int .i64 z,.iface t u]))

theorem TaAns.of_ot {o:Option Int} {aT:Addr} {r:Ending} (h:OtAns o aT r):TaAns o r:=by
 cases o with
 | none=>exact .inr ⟨rfl,_,_,_,h⟩
 | some t=>exact .inl ⟨t,rfl,h⟩

structure Eok (w:World) (aN aA:Addr):Prop where
 n:8<w.heap.size
 nc:w.cell? ⟨8,0,none⟩=some (.iface 262 (.pointer (some aN)))
 a:6<w.heap.size
 ac:w.cell? ⟨6,0,none⟩=some (.iface 262 (.pointer (some aA)))

theorem Eok.below {w w':World} {aN aA:Addr} {B:Nat} (h:Eok w aN aA) (hb:Below B w w') (hB:w.heap.size≤B):Eok w' aN aA :=
 ⟨Nat.lt_of_lt_of_le h.n hb.size,(hb.cell (p:=⟨8,0,none⟩) (Nat.lt_of_lt_of_le h.n hB)).trans h.nc,Nat.lt_of_lt_of_le h.a hb.size,(hb.cell (p:=⟨6,0,none⟩) (Nat.lt_of_lt_of_le h.a hB)).trans h.ac⟩

theorem typeOfLet_any (cb:Nat) (num:Int) (la:Option Addr) (ln lc:Nat) (ts:List Int) (aN aA:Addr) (w:World) (hE:Eok w aN aA) (hc:w.cell? ⟨cb,1,none⟩=some (.slice la ln lc)) (hl:Ints w la ln lc ts) :
  Calls Tryz.prog 140 #[.pointer (some ⟨cb,0,none⟩),.int .i64 num] w fun r w'=>TaAns (if 0≤num then ts[num.toNat]? else none) r∧Below w.heap.size w w':=by
 have hs:=hl.small
 have nc:=hE.nc
 by_cases h0:num<0
 ·have HX:=hide (show (if 0≤num then ts[num.toNat]? else none)=none from if_neg (by omega))
  rw [uh HX]
  go_enter Tryz.func140,Tryz.ntmps140
  go_wp2_with fail
  go_region
  all_goals
   go_wp2_with fail
   exact bodyPost_ret (v:=.tuple #[.int .i64 0,.iface 262 (.pointer (some aN))]) (by simp [results,Tryz.results140,go_sem]) rfl ⟨.inr ⟨rfl,_,_,_,rfl⟩,(Below.refl _ _).drew⟩
 ·obtain ⟨k,rfl⟩:∃ k:Nat,num=k:=⟨num.toNat,by omega⟩
  by_cases h1:k<ln
  ·have hkl:k<ts.length:=by rw [hl.len];exact h1
   have HX:=hide (show (if (0:Int)≤(k:Int) then ts[(k:Int).toNat]? else none)=some ts[k] by rw [if_pos (by omega),Int.toNat_natCast,List.getElem?_eq_getElem hkl])
   obtain ⟨b,off,rfl,hb,c0⟩:=hl.cells k hkl
   have i1:(k:Int)<(ln:Int):=by omega
   rw [uh HX]
   generalize ts[k]=t at c0
   go_enter Tryz.func140,Tryz.ntmps140
   go_wp2_with fail
   exact bodyPost_ret (v:=.tuple #[.int .i64 t,.nilIface]) (by simp [results,Tryz.results140,go_sem]) rfl ⟨.inl ⟨t,rfl,rfl⟩,Below.refl _ _⟩
  ·have HX:=hide (show (if (0:Int)≤(k:Int) then ts[(k:Int).toNat]? else none)=none by rw [if_pos (by omega),Int.toNat_natCast,List.getElem?_eq_none (by rw [hl.len];omega)])
   rw [uh HX]
   have i1:¬ ((k:Int)<(ln:Int)):=by omega
   go_enter Tryz.func140,Tryz.ntmps140
   go_wp2_with fail
   go_region
   all_goals
    go_wp2_with fail
    exact bodyPost_ret (v:=.tuple #[.int .i64 0,.iface 262 (.pointer (some aN))]) (by simp [results,Tryz.results140,go_sem]) rfl ⟨.inr ⟨rfl,_,_,_,rfl⟩,(Below.refl _ _).drew⟩

theorem above_int (cb:Nat) (i n:Int) (ka:Option Addr) (kn kc:Nat) (ks:List Int) (aT aN aA:Addr) (w:World) (hV:Vok w aT) (hE:Eok w aN aA) (hK:Ints w ka kn kc ks) :
  Calls Tryz.prog 131 #[.pointer (some ⟨cb,0,none⟩),.iface 150 (.agg #[.int .i64 i,.int .i64 n]),.slice ka kn kc] w fun r w'=>TaAns (some 2) r∧Below w.heap.size w w':=by
 have a0:=ta_hit (T:=150) Tryz.underlying150 111
 have B0:=(Below.refl w.heap.size w).alloc nl (.cells #[.int .i64 i,.int .i64 n] 150)
 clear hV hE hK
 go_enter Tryz.func131,Tryz.ntmps131
 go_wp2_with fail
 exact bodyPost_ret (v:=.tuple #[.int .i64 2,.nilIface]) (by simp [results,Tryz.results131,go_sem]) rfl ⟨.inl ⟨_,rfl,rfl⟩,B0⟩

theorem above_text (cb:Nat) (i:Int) (s:ByteArray) (ka:Option Addr) (kn kc:Nat) (ks:List Int) (aT aN aA:Addr) (w:World) (hV:Vok w aT) (hE:Eok w aN aA) (hK:Ints w ka kn kc ks) :
  Calls Tryz.prog 131 #[.pointer (some ⟨cb,0,none⟩),.iface 153 (.agg #[.int .i64 i,.string s]),.slice ka kn kc] w fun r w'=>TaAns (some 3) r∧Below w.heap.size w w':=by
 have a0:=ta_miss (S:=153) (T:=150) Tryz.underlying150 Tryz.zeroValue150 (by decide) 111
 have a1:=ta_hit (T:=153) Tryz.underlying153 111
 have B0:=(Below.refl w.heap.size w).alloc nl (.cells #[.int .i64 i,.string s] 153)
 clear hV hE hK
 go_enter Tryz.func131,Tryz.ntmps131
 go_wp2_with fail
 exact bodyPost_ret (v:=.tuple #[.int .i64 3,.nilIface]) (by simp [results,Tryz.results131,go_sem]) rfl ⟨.inl ⟨_,rfl,rfl⟩,B0⟩

theorem above_bool (cb:Nat) (i:Int) (b:Bool) (ka:Option Addr) (kn kc:Nat) (ks:List Int) (aT aN aA:Addr) (w:World) (hV:Vok w aT) (hE:Eok w aN aA) (hK:Ints w ka kn kc ks) :
  Calls Tryz.prog 131 #[.pointer (some ⟨cb,0,none⟩),.iface 156 (.agg #[.int .i64 i,.bool b]),.slice ka kn kc] w fun r w'=>TaAns (some 1) r∧Below w.heap.size w w':=by
 have a0:=ta_miss (S:=156) (T:=150) Tryz.underlying150 Tryz.zeroValue150 (by decide) 111
 have a1:=ta_miss (S:=156) (T:=153) Tryz.underlying153 Tryz.zeroValue153 (by decide) 111
 have a2:=ta_hit (T:=156) Tryz.underlying156 111
 have B0:=(Below.refl w.heap.size w).alloc nl (.cells #[.int .i64 i,.bool b] 156)
 clear hV hE hK
 go_enter Tryz.func131,Tryz.ntmps131
 go_wp2_with fail
 exact bodyPost_ret (v:=.tuple #[.int .i64 1,.nilIface]) (by simp [results,Tryz.results131,go_sem]) rfl ⟨.inl ⟨_,rfl,rfl⟩,B0⟩

theorem above_set (cb:Nat) (i:Int) (a:Option Addr) (n c:Nat) (ka:Option Addr) (kn kc:Nat) (ks:List Int) (aT aN aA:Addr) (w:World) (hV:Vok w aT) (hE:Eok w aN aA) (hK:Ints w ka kn kc ks) :
  Calls Tryz.prog 131 #[.pointer (some ⟨cb,0,none⟩),.iface 158 (.agg #[.int .i64 i,.slice a n c]),.slice ka kn kc] w fun r w'=>TaAns (some 4) r∧Below w.heap.size w w':=by
 have a0:=ta_miss (S:=158) (T:=150) Tryz.underlying150 Tryz.zeroValue150 (by decide) 111
 have a1:=ta_miss (S:=158) (T:=153) Tryz.underlying153 Tryz.zeroValue153 (by decide) 111
 have a2:=ta_miss (S:=158) (T:=156) Tryz.underlying156 Tryz.zeroValue156 (by decide) 111
 have a3:=ta_hit (T:=158) Tryz.underlying158 111
 have B0:=(Below.refl w.heap.size w).alloc nl (.cells #[.int .i64 i,.slice a n c] 158)
 clear hV hE hK
 go_enter Tryz.func131,Tryz.ntmps131
 go_wp2_with fail
 exact bodyPost_ret (v:=.tuple #[.int .i64 4,.nilIface]) (by simp [results,Tryz.results131,go_sem]) rfl ⟨.inl ⟨_,rfl,rfl⟩,B0⟩

theorem above_attr (cb:Nat) (i n:Int) (ka:Option Addr) (kn kc:Nat) (ks:List Int) (aT aN aA:Addr) (w:World) (hV:Vok w aT) (hE:Eok w aN aA) (hK:Ints w ka kn kc ks) (hn:0≤n∧n<6) :
  Calls Tryz.prog 131 #[.pointer (some ⟨cb,0,none⟩),.iface 159 (.agg #[.int .i64 i,.int .i64 n]),.slice ka kn kc] w fun r w'=>TaAns (some (attrTy n)) r∧Below w.heap.size w w':=by
 have a0:=ta_miss (S:=159) (T:=150) Tryz.underlying150 Tryz.zeroValue150 (by decide) 111
 have a1:=ta_miss (S:=159) (T:=153) Tryz.underlying153 Tryz.zeroValue153 (by decide) 111
 have a2:=ta_miss (S:=159) (T:=156) Tryz.underlying156 Tryz.zeroValue156 (by decide) 111
 have a3:=ta_miss (S:=159) (T:=158) Tryz.underlying158 Tryz.zeroValue158 (by decide) 111
 have a4:=ta_miss (S:=159) (T:=206) Tryz.underlying206 Tryz.zeroValue206 (by decide) 111
 have a5:=ta_hit (T:=159) Tryz.underlying159 111
 have B0:=(Below.refl w.heap.size w).alloc nl (.cells #[.int .i64 i,.int .i64 n] 159)
 have hac:=hV.ac
 have ha:=hV.a
 have h6:n=0∨n=1∨n=2∨n=3∨n=4∨n=5:=by omega
 clear hV hE hK hn
 rcases h6 with rfl | rfl | rfl | rfl | rfl | rfl
 ·have cc:w.cell? ⟨4,1,none⟩=some (.int .i64 (attrTy 0)):=hac 1
  clear hac
  go_enter Tryz.func131,Tryz.ntmps131
  go_wp2_with fail
  exact bodyPost_ret (v:=.tuple #[.int .i64 (attrTy 0),.nilIface]) (by simp [results,Tryz.results131,go_sem]) rfl ⟨.inl ⟨_,rfl,rfl⟩,by first | exact B0 | exact B0.drew⟩
 ·have cc:w.cell? ⟨4,3,none⟩=some (.int .i64 (attrTy 1)):=hac 3
  clear hac
  go_enter Tryz.func131,Tryz.ntmps131
  go_wp2_with fail
  exact bodyPost_ret (v:=.tuple #[.int .i64 (attrTy 1),.nilIface]) (by simp [results,Tryz.results131,go_sem]) rfl ⟨.inl ⟨_,rfl,rfl⟩,by first | exact B0 | exact B0.drew⟩
 ·have cc:w.cell? ⟨4,5,none⟩=some (.int .i64 (attrTy 2)):=hac 5
  clear hac
  go_enter Tryz.func131,Tryz.ntmps131
  go_wp2_with fail
  exact bodyPost_ret (v:=.tuple #[.int .i64 (attrTy 2),.nilIface]) (by simp [results,Tryz.results131,go_sem]) rfl ⟨.inl ⟨_,rfl,rfl⟩,by first | exact B0 | exact B0.drew⟩
 ·have cc:w.cell? ⟨4,7,none⟩=some (.int .i64 (attrTy 3)):=hac 7
  clear hac
  go_enter Tryz.func131,Tryz.ntmps131
  go_wp2_with fail
  exact bodyPost_ret (v:=.tuple #[.int .i64 (attrTy 3),.nilIface]) (by simp [results,Tryz.results131,go_sem]) rfl ⟨.inl ⟨_,rfl,rfl⟩,by first | exact B0 | exact B0.drew⟩
 ·have cc:w.cell? ⟨4,9,none⟩=some (.int .i64 (attrTy 4)):=hac 9
  clear hac
  go_enter Tryz.func131,Tryz.ntmps131
  go_wp2_with fail
  exact bodyPost_ret (v:=.tuple #[.int .i64 (attrTy 4),.nilIface]) (by simp [results,Tryz.results131,go_sem]) rfl ⟨.inl ⟨_,rfl,rfl⟩,by first | exact B0 | exact B0.drew⟩
 ·have cc:w.cell? ⟨4,11,none⟩=some (.int .i64 (attrTy 5)):=hac 11
  clear hac
  go_enter Tryz.func131,Tryz.ntmps131
  go_wp2_with fail
  exact bodyPost_ret (v:=.tuple #[.int .i64 (attrTy 5),.nilIface]) (by simp [results,Tryz.results131,go_sem]) rfl ⟨.inl ⟨_,rfl,rfl⟩,by first | exact B0 | exact B0.drew⟩

theorem above_lett (cb:Nat) (i n:Int) (la:Option Addr) (ln lc:Nat) (ts:List Int) (ka:Option Addr) (kn kc:Nat) (ks:List Int) (aT aN aA:Addr) (w:World) (hV:Vok w aT) (hE:Eok w aN aA) (hK:Ints w ka kn kc ks) (hc:w.cell? ⟨cb,1,none⟩=some (.slice la ln lc)) (hcb:cb<w.heap.size) (hl:Ints w la ln lc ts) :
  Calls Tryz.prog 131 #[.pointer (some ⟨cb,0,none⟩),.iface 161 (.agg #[.int .i64 i,.int .i64 n]),.slice ka kn kc] w fun r w'=>TaAns (if 0≤n then ts[n.toNat]? else none) r∧Below w.heap.size w w':=by
 have a0:=ta_miss (S:=161) (T:=150) Tryz.underlying150 Tryz.zeroValue150 (by decide) 111
 have a1:=ta_miss (S:=161) (T:=153) Tryz.underlying153 Tryz.zeroValue153 (by decide) 111
 have a2:=ta_miss (S:=161) (T:=156) Tryz.underlying156 Tryz.zeroValue156 (by decide) 111
 have a3:=ta_miss (S:=161) (T:=158) Tryz.underlying158 Tryz.zeroValue158 (by decide) 111
 have a4:=ta_miss (S:=161) (T:=206) Tryz.underlying206 Tryz.zeroValue206 (by decide) 111
 have a5:=ta_miss (S:=161) (T:=159) Tryz.underlying159 Tryz.zeroValue159 (by decide) 111
 have a6:=ta_hit (T:=161) Tryz.underlying161 111
 have B0:=(Below.refl w.heap.size w).alloc nl (.cells #[.int .i64 i,.int .i64 n] 161)
 have HC:=hide (typeOfLet_any cb n la ln lc ts aN aA _ (hE.below B0 nl) ((B0.cell (p:=⟨cb,1,none⟩) hcb).trans hc) (hl.below B0 nl))
 generalize (if 0≤n then ts[n.toNat]? else none)=ot at HC
 clear hV hE hK hc hcb hl
 go_enter Tryz.func131,Tryz.ntmps131
 go_wp2_with fail
 refine (uh HC).mono ?_
 rintro r w2 ⟨hr,hb2⟩
 have B2:=B0.trans (hb2.mono B0.size)
 rcases hr with ⟨t,rfl,rfl⟩ | ⟨rfl,z,t,u,rfl⟩
 ·dsimp only
  go_wp2_with fail
  exact bodyPost_ret (v:=.tuple #[.int .i64 t,.nilIface]) (by simp [results,Tryz.results131,go_sem]) rfl ⟨.inl ⟨t,rfl,rfl⟩,B2⟩
 ·dsimp only
  go_wp2_with fail
  exact bodyPost_ret (v:=.tuple #[.int .i64 z,.iface t u]) (by simp [results,Tryz.results131,go_sem]) rfl ⟨.inr ⟨rfl,_,_,_,rfl⟩,B2⟩

theorem above_un (cb:Nat) (i op:Int) (t:TypeId) (u:Value) (ka:Option Addr) (kn kc:Nat) (a:Int) (aT aN aA:Addr) (w:World) (hV:Vok w aT) (hE:Eok w aN aA) (hK:Ints w ka kn kc [a]) (hop:8≤op∧op≤10) (ha:1≤a∧a≤4) :
  Calls Tryz.prog 131 #[.pointer (some ⟨cb,0,none⟩),.iface 163 (.agg #[.int .i64 i,.int .i64 op,.iface t u]),.slice ka kn kc] w fun r w'=>TaAns (nz (tyOp op [a])) r∧Below w.heap.size w w':=by
 have a0:=ta_miss (S:=163) (T:=150) Tryz.underlying150 Tryz.zeroValue150 (by decide) 111
 have a1:=ta_miss (S:=163) (T:=153) Tryz.underlying153 Tryz.zeroValue153 (by decide) 111
 have a2:=ta_miss (S:=163) (T:=156) Tryz.underlying156 Tryz.zeroValue156 (by decide) 111
 have a3:=ta_miss (S:=163) (T:=158) Tryz.underlying158 Tryz.zeroValue158 (by decide) 111
 have a4:=ta_miss (S:=163) (T:=206) Tryz.underlying206 Tryz.zeroValue206 (by decide) 111
 have a5:=ta_miss (S:=163) (T:=159) Tryz.underlying159 Tryz.zeroValue159 (by decide) 111
 have a6:=ta_miss (S:=163) (T:=161) Tryz.underlying161 Tryz.zeroValue161 (by decide) 111
 have a7:=ta_hit (T:=163) Tryz.underlying163 111
 obtain ⟨bk,ok,rfl,lk,ck0⟩:=hK.cells 0 (by simp)
 obtain rfl:kn=1:=hK.len.symm
 simp only [List.getElem_cons_zero,Nat.add_zero] at ck0
 have B0:=(Below.refl w.heap.size w).alloc nl (.cells #[.int .i64 i,.int .i64 op,.iface t u] 163)
 have R0:=Row.new w #[.int .i64 i,.int .i64 op,.iface t u] 163
 have V0:=hV.below B0 nl
 have HC:=hide (fun W hW=>operationType_any op a 0 aT W hW)
 rw [opT_un hop a ha] at HC
 generalize nz (tyOp op [a])=ot at HC ⊢
 clear hK hE hV
 go_enter Tryz.func131,Tryz.ntmps131
 have W0E:∃ W0,W0=w.alloc (.cells #[.int .i64 i,.int .i64 op,.iface t u] 163):=⟨_,rfl⟩
 go_wp2_with fail
 obtain ⟨W0,hW0⟩:=W0E
 rw [← hW0] at B0 R0 V0 ⊢
 have C0:=(B0.cell (p:=⟨bk,ok,none⟩) lk).trans ck0
 have CO:W0.cell? ⟨w.heap.size,1,none⟩=some (.int .i64 op):=R0.cell 1
 have LR:=R0.lt
 have LK:bk<W0.heap.size:=Nat.lt_of_lt_of_le lk B0.size
 have D1:Below W0.heap.size W0 W0.drew:=(Below.refl _ _).drew
 have keep:∀ w',Below W0.heap.size W0 w'→w'.cell? ⟨bk,ok,none⟩=some (.int .i64 a)∧w'.cell? ⟨w.heap.size,1,none⟩=some (.int .i64 op):=fun w' hb=>⟨(hb.cell (p:=⟨bk,ok,none⟩) LK).trans C0,(hb.cell (p:=⟨w.heap.size,1,none⟩) LR).trans CO⟩
 have KP:=hide keep
 have q1:=keep _ D1
 have V1:=V0.below D1 nl
 clear hW0 R0 keep V0 ck0 C0 CO
 go_region_held3 (fun w'=>w'.cell? ⟨bk,ok,none⟩=some (.int .i64 a)∧w'.cell? ⟨w.heap.size,1,none⟩=some (.int .i64 op)) (first | assumption | go_keep)
  (first | (go_at_call 141;refine (uh HC _ V1).mono ?_;rintro r w2 ⟨hr,hb2⟩;change r=_ at hr;subst hr;have G2:=D1.trans (hb2.mono D1.size);have q2:=uh KP _ G2))
 go_wp2_with fail
 exact bodyPost_ret (v:=.tuple #[.int .i64 (ot.getD 0),errT ot.isSome aT]) (by simp [results,Tryz.results131,go_sem]) rfl ⟨TaAns.of_ot (aT:=aT) rfl,B0.trans (G2.mono B0.size)⟩

theorem above_bin (cb:Nat) (i op:Int) (t:TypeId) (u:Value) (t':TypeId) (u':Value) (ka:Option Addr) (kn kc:Nat) (a b:Int) (aT aN aA:Addr) (w:World) (hV:Vok w aT) (hE:Eok w aN aA) (hK:Ints w ka kn kc [a,b]) (hop:11≤op∧op≤26) (ha:1≤a∧a≤4) (hb:1≤b∧b≤4) :
  Calls Tryz.prog 131 #[.pointer (some ⟨cb,0,none⟩),.iface 166 (.agg #[.int .i64 i,.int .i64 op,.iface t u,.iface t' u']),.slice ka kn kc] w fun r w'=>TaAns (nz (tyOp op [a,b])) r∧Below w.heap.size w w':=by
 have a0:=ta_miss (S:=166) (T:=150) Tryz.underlying150 Tryz.zeroValue150 (by decide) 111
 have a1:=ta_miss (S:=166) (T:=153) Tryz.underlying153 Tryz.zeroValue153 (by decide) 111
 have a2:=ta_miss (S:=166) (T:=156) Tryz.underlying156 Tryz.zeroValue156 (by decide) 111
 have a3:=ta_miss (S:=166) (T:=158) Tryz.underlying158 Tryz.zeroValue158 (by decide) 111
 have a4:=ta_miss (S:=166) (T:=206) Tryz.underlying206 Tryz.zeroValue206 (by decide) 111
 have a5:=ta_miss (S:=166) (T:=159) Tryz.underlying159 Tryz.zeroValue159 (by decide) 111
 have a6:=ta_miss (S:=166) (T:=161) Tryz.underlying161 Tryz.zeroValue161 (by decide) 111
 have a7:=ta_miss (S:=166) (T:=163) Tryz.underlying163 Tryz.zeroValue163 (by decide) 111
 have a8:=ta_hit (T:=166) Tryz.underlying166 111
 obtain ⟨bk,ok,rfl,lk,ck0⟩:=hK.cells 0 (by simp)
 have ck1:w.cell? ⟨bk,ok+1,none⟩=some (.int .i64 b):=by
  obtain ⟨b2,o2,e2,_,c2⟩:=hK.cells 1 (by simp)
  obtain ⟨rfl,rfl⟩:bk=b2∧ok=o2:=by simpa using e2
  simpa using c2
 obtain rfl:kn=2:=hK.len.symm
 simp only [List.getElem_cons_zero,Nat.add_zero] at ck0
 have B0:=(Below.refl w.heap.size w).alloc nl (.cells #[.int .i64 i,.int .i64 op,.iface t u,.iface t' u'] 166)
 have R0:=Row.new w #[.int .i64 i,.int .i64 op,.iface t u,.iface t' u'] 166
 have V0:=hV.below B0 nl
 have HC:=hide (fun W hW=>operationType_any op a b aT W hW)
 rw [opT_bin hop a b ha hb] at HC
 generalize nz (tyOp op [a,b])=ot at HC ⊢
 clear hb
 clear hK hE hV
 go_enter Tryz.func131,Tryz.ntmps131
 have W0E:∃ W0,W0=w.alloc (.cells #[.int .i64 i,.int .i64 op,.iface t u,.iface t' u'] 166):=⟨_,rfl⟩
 go_wp2_with fail
 obtain ⟨W0,hW0⟩:=W0E
 rw [← hW0] at B0 R0 V0 ⊢
 have C0:=(B0.cell (p:=⟨bk,ok,none⟩) lk).trans ck0
 have C1:=(B0.cell (p:=⟨bk,ok+1,none⟩) lk).trans ck1
 have CO:W0.cell? ⟨w.heap.size,1,none⟩=some (.int .i64 op):=R0.cell 1
 have LR:=R0.lt
 have LK:bk<W0.heap.size:=Nat.lt_of_lt_of_le lk B0.size
 have D1:Below W0.heap.size W0 W0.drew:=(Below.refl _ _).drew
 have keep:∀ w',Below W0.heap.size W0 w'→w'.cell? ⟨bk,ok,none⟩=some (.int .i64 a)∧w'.cell? ⟨bk,ok+1,none⟩=some (.int .i64 b)∧w'.cell? ⟨w.heap.size,1,none⟩=some (.int .i64 op):=fun w' hb=>⟨(hb.cell (p:=⟨bk,ok,none⟩) LK).trans C0,(hb.cell (p:=⟨bk,ok+1,none⟩) LK).trans C1,(hb.cell (p:=⟨w.heap.size,1,none⟩) LR).trans CO⟩
 have KP:=hide keep
 have q1:=keep _ D1
 have V1:=V0.below D1 nl
 clear hW0 R0 keep V0 ck0 C0 ck1 C1 CO
 go_region_held3 (fun w'=>w'.cell? ⟨bk,ok,none⟩=some (.int .i64 a)∧w'.cell? ⟨bk,ok+1,none⟩=some (.int .i64 b)∧w'.cell? ⟨w.heap.size,1,none⟩=some (.int .i64 op)) (first | assumption | go_keep)
  (first | (go_at_call 141;refine (uh HC _ V1).mono ?_;rintro r w2 ⟨hr,hb2⟩;change r=_ at hr;subst hr;have G2:=D1.trans (hb2.mono D1.size);have q2:=uh KP _ G2))
 go_wp2_with fail
 exact bodyPost_ret (v:=.tuple #[.int .i64 (ot.getD 0),errT ot.isSome aT]) (by simp [results,Tryz.results131,go_sem]) rfl ⟨TaAns.of_ot (aT:=aT) rfl,B0.trans (G2.mono B0.size)⟩

theorem above_ite (cb:Nat) (i:Int) (t:TypeId) (u:Value) (t':TypeId) (u':Value) (t2:TypeId) (u2:Value) (ka:Option Addr) (kn kc:Nat) (a b d:Int) (aT aN aA:Addr) (w:World) (hV:Vok w aT) (hE:Eok w aN aA) (hK:Ints w ka kn kc [a,b,d]) (hb:1≤b∧b≤4) :
  Calls Tryz.prog 131 #[.pointer (some ⟨cb,0,none⟩),.iface 169 (.agg #[.int .i64 i,.iface t u,.iface t' u',.iface t2 u2]),.slice ka kn kc] w fun r w'=>TaAns (nz (tyOp 27 [a,b,d])) r∧Below w.heap.size w w':=by
 have a0:=ta_miss (S:=169) (T:=150) Tryz.underlying150 Tryz.zeroValue150 (by decide) 111
 have a1:=ta_miss (S:=169) (T:=153) Tryz.underlying153 Tryz.zeroValue153 (by decide) 111
 have a2:=ta_miss (S:=169) (T:=156) Tryz.underlying156 Tryz.zeroValue156 (by decide) 111
 have a3:=ta_miss (S:=169) (T:=158) Tryz.underlying158 Tryz.zeroValue158 (by decide) 111
 have a4:=ta_miss (S:=169) (T:=206) Tryz.underlying206 Tryz.zeroValue206 (by decide) 111
 have a5:=ta_miss (S:=169) (T:=159) Tryz.underlying159 Tryz.zeroValue159 (by decide) 111
 have a6:=ta_miss (S:=169) (T:=161) Tryz.underlying161 Tryz.zeroValue161 (by decide) 111
 have a7:=ta_miss (S:=169) (T:=163) Tryz.underlying163 Tryz.zeroValue163 (by decide) 111
 have a8:=ta_miss (S:=169) (T:=166) Tryz.underlying166 Tryz.zeroValue166 (by decide) 111
 have a9:=ta_hit (T:=169) Tryz.underlying169 111
 obtain ⟨bk,ok,rfl,lk,ck0⟩:=hK.cells 0 (by simp)
 have ck1:w.cell? ⟨bk,ok+1,none⟩=some (.int .i64 b):=by
  obtain ⟨b2,o2,e2,_,c2⟩:=hK.cells 1 (by simp)
  obtain ⟨rfl,rfl⟩:bk=b2∧ok=o2:=by simpa using e2
  simpa using c2
 have ck2:w.cell? ⟨bk,ok+2,none⟩=some (.int .i64 d):=by
  obtain ⟨b2,o2,e2,_,c2⟩:=hK.cells 2 (by simp)
  obtain ⟨rfl,rfl⟩:bk=b2∧ok=o2:=by simpa using e2
  simpa using c2
 obtain rfl:kn=3:=hK.len.symm
 simp only [List.getElem_cons_zero,Nat.add_zero] at ck0
 have B0:=(Below.refl w.heap.size w).alloc nl (.cells #[.int .i64 i,.iface t u,.iface t' u',.iface t2 u2] 169)
 have R0:=Row.new w #[.int .i64 i,.iface t u,.iface t' u',.iface t2 u2] 169
 have V0:=hV.below B0 nl
 have HC:=hide (fun W hW=>choiceType_any a b d aT W hW hb)
 generalize nz (tyOp 27 [a,b,d])=ot at HC ⊢
 clear hb
 clear hK hE hV
 go_enter Tryz.func131,Tryz.ntmps131
 have W0E:∃ W0,W0=w.alloc (.cells #[.int .i64 i,.iface t u,.iface t' u',.iface t2 u2] 169):=⟨_,rfl⟩
 go_wp2_with fail
 obtain ⟨W0,hW0⟩:=W0E
 rw [← hW0] at B0 R0 V0 ⊢
 have C0:=(B0.cell (p:=⟨bk,ok,none⟩) lk).trans ck0
 have C1:=(B0.cell (p:=⟨bk,ok+1,none⟩) lk).trans ck1
 have C2:=(B0.cell (p:=⟨bk,ok+2,none⟩) lk).trans ck2
 have LR:=R0.lt
 have LK:bk<W0.heap.size:=Nat.lt_of_lt_of_le lk B0.size
 have D1:Below W0.heap.size W0 W0.drew:=(Below.refl _ _).drew
 have keep:∀ w',Below W0.heap.size W0 w'→w'.cell? ⟨bk,ok,none⟩=some (.int .i64 a)∧w'.cell? ⟨bk,ok+1,none⟩=some (.int .i64 b)∧w'.cell? ⟨bk,ok+2,none⟩=some (.int .i64 d):=fun w' hb=>⟨(hb.cell (p:=⟨bk,ok,none⟩) LK).trans C0,(hb.cell (p:=⟨bk,ok+1,none⟩) LK).trans C1,(hb.cell (p:=⟨bk,ok+2,none⟩) LK).trans C2⟩
 have KP:=hide keep
 have q1:=keep _ D1
 have V1:=V0.below D1 nl
 clear hW0 R0 keep V0 ck0 C0 ck1 C1 ck2 C2
 go_region_held3 (fun w'=>w'.cell? ⟨bk,ok,none⟩=some (.int .i64 a)∧w'.cell? ⟨bk,ok+1,none⟩=some (.int .i64 b)∧w'.cell? ⟨bk,ok+2,none⟩=some (.int .i64 d)) (first | assumption | go_keep)
  (first | (go_at_call 142;refine (uh HC _ V1).mono ?_;rintro r w2 ⟨hr,hb2⟩;change r=_ at hr;subst hr;have G2:=D1.trans (hb2.mono D1.size);have q2:=uh KP _ G2))
 go_wp2_with fail
 exact bodyPost_ret (v:=.tuple #[.int .i64 (ot.getD 0),errT ot.isSome aT]) (by simp [results,Tryz.results131,go_sem]) rfl ⟨TaAns.of_ot (aT:=aT) rfl,B0.trans (G2.mono B0.size)⟩

end Go.Proofs.YtedlocniojlhfaaGreatDoor
