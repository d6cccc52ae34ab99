/-
  TT, TU. Own work.
-/
import Derived.Test.YtcpdodmoheebaaaGreatDoorMXAN
import Derived.Test.YtcpdodmoheebaaaGreatDoorShelf
import Derived.Lib.IndexLaws
import Derived.Lib.ParseIntB
import Derived.Lib.AtoiErrMem
namespace Go.Proofs.YtcpdodmoheebaaaGreatDoor
set_option maxHeartbeats 3200000
open Go.RowKit
set_option linter.unusedVariables false
variable {aS aB aT : Addr}
theorem Mj {y:ByteArray}{n:Nat}(h:n < y.size):(Ad y)[n]? =some y[n]:=by
 have a:n < (Ad y).length:=by rw [Ag];exact h
 rw [List.getElem?_eq_getElem a];rfl
theorem Fy (r:ByteArray)(w:World)(hs:r.size≤1048576)(h0: 0 < r.size)(p:Fc w aS aB aT):
  Calls Tryz.prog 42 #[.string r] w fun e w'=>e= .returned (GL aS aB aT (AR ((Ad r).drop 1)))∧Below w.heap.size w w':=by
 have i:=Ao.new w #[.int .i64 0,.int .i64 0,.string ⟨#[]⟩,.int .i64 0] 30
 have j:=(Below.refl w.heap.size w).alloc (Nat.le_refl _) (.cells #[.int .i64 0,.int .i64 0,.string ⟨#[]⟩,.int .i64 0] 30)
 have v:=(p.below j (Nat.le_refl _)).gT
 have G:=p.big
 have H:w.heap.size≠3:=by omega
 have I: 3≠w.heap.size:=by omega
 have J:(1 :Int)≤(r.size:Int):=by omega
 have q:=Ab (Fd r 1)
 have z:(r.extract 1 r.size).size=r.size - 1:=by rw [ByteArray.size_extract];omega
 go_enter Tryz.func42,Tryz.ntmps42
 go_wp2_with fail
 generalize w.alloc (.cells #[.int .i64 0,.int .i64 0,.string ⟨#[]⟩,.int .i64 0] 30)=K at i j v ⊢
 generalize r.extract 1 r.size=y at q z ⊢
 have s:=By Dw (Ad y)
 rw [Ag] at s
 refine (KO y _ (by unfold maxLen;omega)).mono ?_
 rintro e L ⟨rfl,t⟩
 rw [t]
 clear t
 obtain ⟨M,d1,d2,d3,N⟩:=An i
 have a:=Ab (show AR ((Ad r).drop 1)=if 32 < Ap Dw (Ad y)∨(Ad y)[Ap Dw (Ad y)]? ≠some 34 then .bad 3 else .tok 2 0 ((Ad y).take (Ap Dw (Ad y))) (Ap Dw (Ad y)+2) by rw [← Aa q];rfl)
 have o:=Ab (show Ad (y.extract 0 (Ap Dw (Ad y)))=(Ad y).take (Ap Dw (Ad y)) by rw [AC,List.drop_zero,Nat.sub_zero])
 generalize Ap Dw (Ad y)=n at s a o ⊢
 by_cases A: 32 < n
 ·have B:(32 :Int) < (n:Int):=by omega
  have a:=Ab ((Aa a).trans (if_pos (.inl A)))
  go_wp2_with fail
  go_region
  go_wp2_with fail
  have h:=Ac (b:=w.heap.size) j (Nat.le_refl _) (.int .i64 0) (.int .i64 0) (.string ⟨#[]⟩) (.int .i64 0)
  obtain ⟨c,d,f,g⟩:=Bf i (.int .i64 0) (.int .i64 0) (.string ⟨#[]⟩) (.int .i64 0)
  exact bodyPost_ret (Ah Tryz.results42 rfl c d f g) rfl ⟨by rw [Aa a,BX];rfl,h.drew⟩
 have B: ¬ ((32 :Int) < (n:Int)):=by omega
 by_cases O:n=y.size
 ·have e:(Ad y)[n]? ≠some 34:=by rw [List.getElem?_eq_none (by rw [Ag];omega)];simp
  have a:=Ab ((Aa a).trans (if_pos (.inr e)))
  clear e
  have C:((n:Int)==((r.size - 1 :Nat):Int))=true:=beq_iff_eq.2 (by omega)
  have D:((n:Int)==(y.size:Int))=true:=beq_iff_eq.2 (by omega)
  go_wp2_with fail
  go_region
  go_wp2_with fail
  have h:=Ac (b:=w.heap.size) j (Nat.le_refl _) (.int .i64 0) (.int .i64 0) (.string ⟨#[]⟩) (.int .i64 0)
  obtain ⟨c,d,f,g⟩:=Bf i (.int .i64 0) (.int .i64 0) (.string ⟨#[]⟩) (.int .i64 0)
  exact bodyPost_ret (Ah Tryz.results42 rfl c d f g) rfl ⟨by rw [Aa a,BX];rfl,h.drew⟩
 have E:n < y.size:=by omega
 have P:(n:Int) < (y.size:Int):=by omega
 have Q:(n:Int) < ((r.size - 1 :Nat):Int):=by omega
 have C:((n:Int)==((r.size - 1 :Nat):Int))=false:=beq_eq_false_iff_ne.2 (by omega)
 have D:((n:Int)==(y.size:Int))=false:=beq_eq_false_iff_ne.2 (by omega)
 have l:=Mj E
 by_cases m:(y[n].toNat:Int)=34
 ·have u:y[n]=34:=UInt8.toNat_inj.1 (by have:(34 :UInt8).toNat=34:=rfl;omega)
  have e: ¬ (32 < n∨(Ad y)[n]? ≠some 34):=by rw [l,u];simp;omega
  have a:=Ab ((Aa a).trans (if_neg e))
  clear e
  clear l u
  have F:((y[n].toNat:Int)== 34)=true:=beq_iff_eq.2 m
  go_wp2_with fail
  generalize y.extract 0 n=x at o ⊢
  have h:=Ac (b:=w.heap.size) j (Nat.le_refl _) (.int .i64 2) (.int .i64 0) (.string x) (.int .i64 0)
  obtain ⟨c,d,f,g,_⟩:=An (Aj i (.int .i64 2) (.int .i64 0) (.string x) (.int .i64 0))
  simp only [AY] at c d f g
  refine bodyPost_ret (Ah Tryz.results42 rfl c d f g) rfl ⟨?_,h⟩
  rw [Aa a,← Aa o]
  simp only [GL,Bt]
  rw [Int.natCast_add]
  rfl
 ·have e:(Ad y)[n]? ≠some 34:=by rw [l];intro k;exact m (by rw [Option.some.inj k];rfl)
  have a:=Ab ((Aa a).trans (if_pos (.inr e)))
  clear l e
  have F:=beq_eq_false_iff_ne.2 m
  have R:((y[n].toNat:Int) != 34)=true:=bne_iff_ne.2 m
  go_wp2_with fail
  go_region
  go_wp2_with fail
  have h:=Ac (b:=w.heap.size) j (Nat.le_refl _) (.int .i64 0) (.int .i64 0) (.string ⟨#[]⟩) (.int .i64 0)
  obtain ⟨c,d,f,g⟩:=Bf i (.int .i64 0) (.int .i64 0) (.string ⟨#[]⟩) (.int .i64 0)
  exact bodyPost_ret (Ah Tryz.results42 rfl c d f g) rfl ⟨by rw [Aa a,BX];rfl,h.drew⟩
theorem LQ {l:List UInt8}{c:UInt8}(h:Lib.indexByte l c < 0):l.contains c=false:=by
 have h1:Lib.indexByte l c= -1:=by have:=Lib.indexByte_ge l c;omega
 rw [← Bool.not_eq_true,List.contains_iff_mem]
 intro hm
 obtain ⟨a,b,e⟩:=List.getElem_of_mem hm
 exact Lib.indexByte_none h1 a (by rw [List.getElem?_eq_getElem b,e])
theorem LS {l:List UInt8}{c:UInt8}(h: ¬ Lib.indexByte l c < 0):l.contains c=true:=by
 obtain ⟨d,b⟩:=Int.eq_ofNat_of_zero_le (a:=Lib.indexByte l c) (by omega)
 have:=(Lib.indexByte_some b).1
 rw [List.contains_iff_mem]
 exact List.mem_of_getElem? this
theorem MN (c:UInt8):(c.toNat:Int).toNat.toUInt8=c:=by simp
theorem Fz (w:World)(c:Fc w aS aB aT):∃ a,w.alloc (.cells #[.int .i64 0,.int .i64 0,.string ⟨#[]⟩,.int .i64 0] 30)=a∧Ao a w.heap.size #[.int .i64 0,.int .i64 0,.string ⟨#[]⟩,.int .i64 0] 30∧Below w.heap.size w a∧Fc a aS aB aT:=by
 have b:=(Below.refl w.heap.size w).alloc (Nat.le_refl _) (.cells #[.int .i64 0,.int .i64 0,.string ⟨#[]⟩,.int .i64 0] 30)
 exact ⟨_,rfl,Ao.new w _ _,b,c.below b (Nat.le_refl _)⟩
theorem GH {x:ByteArray}{l y:List UInt8}(hx:Ad x=l.take 2)(h:(x.toList== y)=true)(hy:y∈AV):AV.contains (l.take 2)=true∧2≤l.length:=by
 rw [beq_iff_eq,ByteArray.toList_eq] at h
 have e:l.take 2=y:=hx.symm.trans h
 rw [e,List.contains_iff_mem]
 refine ⟨hy,?_⟩
 have h2:∀ a∈AV,a.length=2:=by decide
 have:=h2 _ hy
 rw [← e,List.length_take] at this
 omega
theorem LT {x:ByteArray}{l:List UInt8}(hx:Ad x=l.take 2)(h:∀ y∈AV,(x.toList== y)=false):AV.contains (l.take 2)=false:=by
 rw [← Bool.not_eq_true,List.contains_iff_mem]
 intro hm
 have:=h _ hm
 rw [beq_eq_false_iff_ne,ByteArray.toList_eq] at this
 exact this hx
theorem GI (r:ByteArray)(w:World)(hs:r.size≤1048576)(h0: 0 < r.size)(p:Fc w aS aB aT):
  Calls Tryz.prog 43 #[.string r] w fun e w'=>e= .returned (GL aS aB aT (AA r[0] (Ad r)))∧Below w.heap.size w w':=by
 obtain ⟨A,x,l,m,z⟩:=Fz w p
 have B:=z.gB
 have C:=p.big
 have D:w.heap.size≠2:=by omega
 have E: 2≠w.heap.size:=by omega
 have F:(1 :Int)≤(r.size:Int):=by omega
 have G: 0≤min (2 :Int) (r.size:Int):=by omega
 have H:min (2 :Int) (r.size:Int)≤(r.size:Int):=by omega
 have n:=Ab (show Ad (r.extract 0 (min 2 (r.size:Int)).toNat)=(Ad r).take 2 by
  rw [AC,List.drop_zero,Nat.sub_zero]
  rcases Nat.lt_or_ge r.size 2 with h | h
  ·rw [show (min (2 :Int) (r.size:Int)).toNat=r.size by omega,List.take_of_length_le (by rw [Ag];exact Nat.le_refl _),List.take_of_length_le (by rw [Ag];omega)]
  ·rw [show (min (2 :Int) (r.size:Int)).toNat=2 by omega])
 have k:=Ab (show Ad (r.extract 0 2)=(Ad r).take 2 by rw [AC,List.drop_zero])
 have q:=Ab (show Ad (r.extract 0 1)= [r[0]] by
  have h:=AD r 0 h0
  rw [List.drop_zero] at h
  rw [AC,List.drop_zero,h];rfl)
 obtain ⟨I,d1,d2,d3,J⟩:=An l
 rcases Bool.eq_false_or_eq_true ((r.extract 0 (min 2 (r.size:Int)).toNat).toList== [61,62]) with h0 | h0
 ·have g:=Ab (GH (Aa n) h0 (by decide))
  have o:(2 :Int)≤(r.size:Int):=by have:=(Aa g).2;rw [Ag] at this;omega
  go_enter Tryz.func43,Tryz.ntmps43
  go_wp2_with fail
  generalize r.extract 0 2=i at k ⊢
  have j:=Ac (b:=w.heap.size) m (Nat.le_refl _) (.int .i64 5) (.int .i64 0) (.string i) (.int .i64 0)
  obtain ⟨a,c,d,f,_⟩:=An (Aj l (.int .i64 5) (.int .i64 0) (.string i) (.int .i64 0))
  simp only [AY] at a c d f
  refine bodyPost_ret (Ah Tryz.results43 rfl a c d f) rfl ⟨?_,j⟩
  rw [AA,if_pos (Aa g).1,← Aa k]
  simp only [GL,Bt]
  rfl
 rcases Bool.eq_false_or_eq_true ((r.extract 0 (min 2 (r.size:Int)).toNat).toList== [61,61]) with h1 | h1
 ·have g:=Ab (GH (Aa n) h1 (by decide))
  have o:(2 :Int)≤(r.size:Int):=by have:=(Aa g).2;rw [Ag] at this;omega
  go_enter Tryz.func43,Tryz.ntmps43
  go_wp2_with fail
  generalize r.extract 0 2=i at k ⊢
  have j:=Ac (b:=w.heap.size) m (Nat.le_refl _) (.int .i64 5) (.int .i64 0) (.string i) (.int .i64 0)
  obtain ⟨a,c,d,f,_⟩:=An (Aj l (.int .i64 5) (.int .i64 0) (.string i) (.int .i64 0))
  simp only [AY] at a c d f
  refine bodyPost_ret (Ah Tryz.results43 rfl a c d f) rfl ⟨?_,j⟩
  rw [AA,if_pos (Aa g).1,← Aa k]
  simp only [GL,Bt]
  rfl
 rcases Bool.eq_false_or_eq_true ((r.extract 0 (min 2 (r.size:Int)).toNat).toList== [33,61]) with h2 | h2
 ·have g:=Ab (GH (Aa n) h2 (by decide))
  have o:(2 :Int)≤(r.size:Int):=by have:=(Aa g).2;rw [Ag] at this;omega
  go_enter Tryz.func43,Tryz.ntmps43
  go_wp2_with fail
  generalize r.extract 0 2=i at k ⊢
  have j:=Ac (b:=w.heap.size) m (Nat.le_refl _) (.int .i64 5) (.int .i64 0) (.string i) (.int .i64 0)
  obtain ⟨a,c,d,f,_⟩:=An (Aj l (.int .i64 5) (.int .i64 0) (.string i) (.int .i64 0))
  simp only [AY] at a c d f
  refine bodyPost_ret (Ah Tryz.results43 rfl a c d f) rfl ⟨?_,j⟩
  rw [AA,if_pos (Aa g).1,← Aa k]
  simp only [GL,Bt]
  rfl
 rcases Bool.eq_false_or_eq_true ((r.extract 0 (min 2 (r.size:Int)).toNat).toList== [60,61]) with h3 | h3
 ·have g:=Ab (GH (Aa n) h3 (by decide))
  have o:(2 :Int)≤(r.size:Int):=by have:=(Aa g).2;rw [Ag] at this;omega
  go_enter Tryz.func43,Tryz.ntmps43
  go_wp2_with fail
  generalize r.extract 0 2=i at k ⊢
  have j:=Ac (b:=w.heap.size) m (Nat.le_refl _) (.int .i64 5) (.int .i64 0) (.string i) (.int .i64 0)
  obtain ⟨a,c,d,f,_⟩:=An (Aj l (.int .i64 5) (.int .i64 0) (.string i) (.int .i64 0))
  simp only [AY] at a c d f
  refine bodyPost_ret (Ah Tryz.results43 rfl a c d f) rfl ⟨?_,j⟩
  rw [AA,if_pos (Aa g).1,← Aa k]
  simp only [GL,Bt]
  rfl
 have s:=Ab (LT (Aa n) (by
  intro y hy
  simp only [AV,List.mem_cons,List.not_mem_nil,or_false] at hy
  rcases hy with rfl | rfl | rfl | rfl <;> assumption))
 go_enter Tryz.func43,Tryz.ntmps43
 go_wp2_with fail
 clear x
 refine (Tryz.strings_IndexByte _ _ _).mono ?_
 rintro e K ⟨rfl,t⟩
 rw [t,MN]
 clear t
 rw [show (⟨#[60,43,45,42,47,37,124,38,92,40,41,123,125,44,59,61]⟩:ByteArray).data.toList=BL from rfl]
 by_cases u:Lib.indexByte BL r[0] < 0
 ·have Hi:=Ab (LQ u)
  go_wp2_with fail
  go_region
  go_wp2_with fail
  have j:=Ac (b:=w.heap.size) m (Nat.le_refl _) (.int .i64 0) (.int .i64 0) (.string ⟨#[]⟩) (.int .i64 0)
  obtain ⟨a,c,d,f⟩:=Bf l (.int .i64 0) (.int .i64 0) (.string ⟨#[]⟩) (.int .i64 0)
  refine bodyPost_ret (Ah Tryz.results43 rfl a c d f) rfl ⟨?_,j.drew⟩
  rw [AA,if_neg (by rw [Aa s];decide),if_neg (by rw [Aa Hi];decide),LJ]
  rfl
 ·have Hi:=Ab (LS u)
  go_wp2_with fail
  generalize r.extract 0 1=v at q ⊢
  have j:=Ac (b:=w.heap.size) m (Nat.le_refl _) (.int .i64 5) (.int .i64 0) (.string v) (.int .i64 0)
  obtain ⟨a,c,d,f,_⟩:=An (Aj l (.int .i64 5) (.int .i64 0) (.string v) (.int .i64 0))
  simp only [AY] at a c d f
  refine bodyPost_ret (Ah Tryz.results43 rfl a c d f) rfl ⟨?_,j⟩
  rw [AA,if_neg (by rw [Aa s];decide),if_pos (Aa Hi),← Aa q]
  simp only [GL,Bt]
  rfl
end Go.Proofs.YtcpdodmoheebaaaGreatDoor
namespace Go.Proofs.YtcpdodmoheebaaaGreatDoor
set_option maxHeartbeats 3200000
open Go.RowKit
set_option linter.unusedVariables false
variable {aS aB aT : Addr}
theorem DT (M:Nat)(b: 10000000000000000000≤M):∀ (d:List UInt8) (a:Nat),d.all AU=true→(a+1) * 10 ^ d.length≤10000000000000000000→∃ u,Lib.parseUintM M a d= .ok u∧(u:Int)=(a:Int) * 10 ^ d.length+Bg d
 | [],a,_,_=>⟨a,rfl,by simp [Bg]⟩
 | c ::r,a,h,hb=>by
  rw [List.all_cons,Bool.and_eq_true] at h
  obtain ⟨h1,h2⟩:=(Cp c).1 h.1
  have f: 1≤10 ^ r.length:=Nat.one_le_pow _ _ (by decide)
  rw [List.length_cons,Nat.pow_succ] at hb
  have g:(a+1) * 10≤10000000000000000000:=by
   refine Nat.le_trans ?_ hb
   rw [Nat.mul_comm (10 ^ r.length) 10,← Nat.mul_assoc]
   exact Nat.le_mul_of_pos_right _ (by omega)
  obtain ⟨u,e1,e2⟩:=DT M b r (a * 10+(c.toNat - 48)) h.2 (by
   refine Nat.le_trans ?_ hb
   rw [Nat.mul_comm (10 ^ r.length) 10,← Nat.mul_assoc]
   exact Nat.mul_le_mul_right _ (by omega))
  refine ⟨u,?_,?_⟩
  ·rw [Lib.parseUintM,if_pos (by omega),if_neg (by omega),if_neg (by omega)]
   exact e1
  ·rw [e2,Fo,List.length_cons,Int.pow_succ,← Int.add_assoc]
   congr 1
   rw [Int.natCast_add,Int.natCast_mul,Int.natCast_sub (by omega),Int.add_mul,Int.mul_comm (10 ^ r.length) 10,← Int.mul_assoc]
   rfl
theorem Gj {d:List UInt8}(h0:d≠ [])(a:d.length≤19)(h:d.all AU=true):Lib.parseIntB 64 d=if 9223372036854775807 < Bg d then .range else .ok (Bg d):=by
 obtain ⟨u,e1,e2⟩:=DT (2 ^ 64 - 1) (by decide) d 0 h (by
  have: 10 ^ d.length≤10 ^ 19:=Nat.pow_le_pow_right (by decide) a
  have e: 10 ^ 19=10000000000000000000:=rfl
  omega)
 simp only [Int.natCast_zero,Int.zero_mul,Int.zero_add] at e2
 cases d with
 | nil=>exact absurd rfl h0
 | cons c r=>
  have hc:=(Cp c).1 (by rw [List.all_cons,Bool.and_eq_true] at h;exact h.1)
  have b: ¬ c.toNat=43:=by omega
  have f: ¬ c.toNat=45:=by omega
  have e3:Lib.parseUintB 64 (c ::r)= .ok u:=by rw [Lib.parseUintB,if_neg (by simp)];exact e1
  rw [Lib.parseIntB]
  simp only [b,f,or_self,if_false,e3]
  by_cases hu: 9223372036854775807 < Bg (c ::r)
  ·rw [if_pos hu,if_pos ⟨not_false,by show 9223372036854775808≤u;omega⟩]
  ·rw [if_neg hu,if_neg (fun k=>by have: 9223372036854775808≤u:=k.2;omega),if_neg (fun k=>k.1),e2]
theorem FA (r:ByteArray)(w:World)(hs:r.size≤1048576)(h0: 1≤Ap AU (Ad r))(V:Fc w aS aB aT):
  Calls Tryz.prog 39 #[.string r] w fun e w'=>e= .returned (GL aS aB aT (AL (Ad r)))∧Below w.heap.size w w':=by
 obtain ⟨A,X,B,u,H⟩:=Fz w V
 have M:=H.gT
 have ab:=V.big
 have ac:w.heap.size≠3:=by omega
 have ad: 3≠w.heap.size:=by omega
 have W:=By AU (Ad r)
 rw [Ag] at W
 obtain ⟨E,d1,d2,d3,F⟩:=An B
 have v:=Ab (show Ad (r.extract 0 (Ap AU (Ad r)))=(Ad r).take (Ap AU (Ad r)) by rw [AC,List.drop_zero,Nat.sub_zero])
 have O:=Ab (Bs AU (Ad r))
 have a:=Ab (show AL (Ad r)=if 19 < Ap AU (Ad r)∨AO (Ad r) (Ap AU (Ad r))=true∨9223372036854775807 < Bg ((Ad r).take (Ap AU (Ad r))) then .bad 3 else .tok 1 (Bg ((Ad r).take (Ap AU (Ad r)))) [] (Ap AU (Ad r)) from rfl)
 have P:(r.extract 0 (Ap AU (Ad r))).size=Ap AU (Ad r):=by rw [ByteArray.size_extract];omega
 go_enter Tryz.func39,Tryz.ntmps39
 go_wp2_with fail
 clear X
 refine (KM r _ (by unfold maxLen;omega)).mono ?_
 rintro e ae ⟨rfl,c⟩
 rw [c]
 clear c
 generalize Ap AU (Ad r)=n at h0 W a v O P ⊢
 have af:(n:Int)≤(r.size:Int):=by omega
 by_cases Q: 19 < n
 ·have Y:(19 :Int) < (n:Int):=by omega
  have a:=Ab ((Aa a).trans (if_pos (.inl Q)))
  go_wp2_with fail
  go_region
  go_wp2_with fail
  have o:=Ac (b:=w.heap.size) u (Nat.le_refl _) (.int .i64 0) (.int .i64 0) (.string ⟨#[]⟩) (.int .i64 0)
  obtain ⟨g,h,i,l⟩:=Bf B (.int .i64 0) (.int .i64 0) (.string ⟨#[]⟩) (.int .i64 0)
  exact bodyPost_ret (Ah Tryz.results39 rfl g h i l) rfl ⟨by rw [Aa a,BX];rfl,o.drew⟩
 have Y: ¬ ((19 :Int) < (n:Int)):=by omega
 by_cases Z:n < r.size
 ·have aa:(n:Int) < (r.size:Int):=by omega
  have G:AO (Ad r) n=(GK r[n] || decide (r[n]=95)):=by
   have:=Fr (s:=r) (j:=0) Z (Nat.zero_le _)
   rwa [List.drop_zero,Nat.sub_zero] at this
  cases C:DO (r[n].toNat:Int)
  ·by_cases R:(r[n].toNat:Int)=95
   ·have e:AO (Ad r) n=true:=by rw [G];simp [GK,KR R]
    have a:=Ab ((Aa a).trans (if_pos (.inr (.inl e))))
    clear e G C
    go_wp2_with (go_at_call 40;refine (AJ _ _).mono ?_;rintro e w' ⟨rfl,c⟩;rw [show DO 95=false from by decide,c];clear c)
    go_region
    go_wp2_with fail
    have o:=Ac (b:=w.heap.size) u (Nat.le_refl _) (.int .i64 0) (.int .i64 0) (.string ⟨#[]⟩) (.int .i64 0)
    obtain ⟨g,h,i,l⟩:=Bf B (.int .i64 0) (.int .i64 0) (.string ⟨#[]⟩) (.int .i64 0)
    exact bodyPost_ret (Ah Tryz.results39 rfl g h i l) rfl ⟨by rw [Aa a,BX];rfl,o.drew⟩
   ·have e:AO (Ad r) n=false:=by rw [G];simp [GK,C,Jy R]
    have ag:=beq_eq_false_iff_ne.2 R
    have S:=Ab e
    have T:=Ab C
    clear e G C
    go_wp2_with (go_at_call 40;refine (AJ _ _).mono ?_;rintro e w' ⟨rfl,c⟩;rw [Aa T,c];clear c)
    generalize r.extract 0 n=x at v P ⊢
    have I:Ad x≠ []:=fun k=>by have:=congrArg List.length k;rw [Ag,List.length_nil] at this;omega
    have m:=Gj (d:=Ad x) I (by rw [Ag];omega) (by rw [Aa v];exact Aa O)
    rw [Aa v] at m
    clear E d1 d2 d3 F I M
    by_cases q: 9223372036854775807 < Bg ((Ad r).take n)
    ·have a:=Ab ((Aa a).trans (if_pos (.inr (.inr q))))
     rw [if_pos q] at m
     obtain ⟨U,p,J⟩:=H.gR
     have y:=Tryz.strconv_ParseInt_10_at64_range_var x (by omega) (by rw [show x.data.toList=(Ad r).take n from Aa v];exact m) U p A J
     clear J m q
     refine y.mono ?_
     rintro e K ⟨N,rfl,_,_,f⟩
     clear y
     have z:=B.after f (Nat.le_refl _)
     have D:=u.trans (f.mono u.size)
     have M:=(H.below f (Nat.le_refl _)).gT
     clear f
     obtain ⟨E,d1,d2,d3,F⟩:=An z
     go_wp2_with fail
     go_region
     go_wp2_with fail
     have o:=Ac (b:=w.heap.size) D (Nat.le_refl _) (.int .i64 0) (.int .i64 0) (.string ⟨#[]⟩) (.int .i64 0)
     obtain ⟨g,h,i,l⟩:=Bf z (.int .i64 0) (.int .i64 0) (.string ⟨#[]⟩) (.int .i64 0)
     exact bodyPost_ret (Ah Tryz.results39 rfl g h i l) rfl ⟨by rw [Aa a,BX];rfl,o.drew⟩
    ·have e: ¬ (19 < n∨AO (Ad r) n=true∨9223372036854775807 < Bg ((Ad r).take n)):=by
      rintro (k | k | k)
      ·exact Q k
      ·rw [Aa S] at k;cases k
      ·exact q k
     have a:=Ab ((Aa a).trans (if_neg e))
     rw [if_neg q] at m
     have y:=Tryz.strconv_ParseInt_10_at64_ok x (by omega) _ (by rw [show x.data.toList=(Ad r).take n from Aa v];exact m) A
     clear m q e
     refine y.mono ?_
     rintro e K ⟨rfl,c⟩
     clear y
     have f:Below A.heap.size A K:=by
      rcases c with rfl | ⟨t,rfl⟩
      ·exact Below.refl _ _
      ·exact Lib.bytesWorld_below A _ t
     clear c
     generalize Bg ((Ad r).take n)=L at a ⊢
     have z:=B.after f (Nat.le_refl _)
     have D:=u.trans (f.mono u.size)
     clear f
     obtain ⟨E,d1,d2,d3,F⟩:=An z
     go_wp2_with fail
     have o:=Ac (b:=w.heap.size) D (Nat.le_refl _) (.int .i64 1) (.int .i64 L) (.string ⟨#[]⟩) (.int .i64 0)
     obtain ⟨g,h,i,l,_⟩:=An (Aj z (.int .i64 1) (.int .i64 L) (.string ⟨#[]⟩) (.int .i64 0))
     simp only [AY] at g h i l
     refine bodyPost_ret (Ah Tryz.results39 rfl g h i l) rfl ⟨?_,o⟩
     rw [Aa a]
     rfl
  ·have e:AO (Ad r) n=true:=by rw [G];simp [GK,C]
   have a:=Ab ((Aa a).trans (if_pos (.inr (.inl e))))
   have T:=Ab C
   clear e G C
   go_wp2_with (go_at_call 40;refine (AJ _ _).mono ?_;rintro e w' ⟨rfl,c⟩;rw [Aa T,c];clear c)
   go_region
   go_wp2_with fail
   have o:=Ac (b:=w.heap.size) u (Nat.le_refl _) (.int .i64 0) (.int .i64 0) (.string ⟨#[]⟩) (.int .i64 0)
   obtain ⟨g,h,i,l⟩:=Bf B (.int .i64 0) (.int .i64 0) (.string ⟨#[]⟩) (.int .i64 0)
   exact bodyPost_ret (Ah Tryz.results39 rfl g h i l) rfl ⟨by rw [Aa a,BX];rfl,o.drew⟩
 ·have aa: ¬ ((n:Int) < (r.size:Int)):=by omega
  have S:=Ab (show AO (Ad r) n=false by have:=EI (s:=r) (j:=0) (k:=n) (by omega);rwa [List.drop_zero,Nat.sub_zero] at this)
  go_wp2_with fail
  generalize r.extract 0 n=x at v P ⊢
  have I:Ad x≠ []:=fun k=>by have:=congrArg List.length k;rw [Ag,List.length_nil] at this;omega
  have m:=Gj (d:=Ad x) I (by rw [Ag];omega) (by rw [Aa v];exact Aa O)
  rw [Aa v] at m
  clear E d1 d2 d3 F I M
  by_cases q: 9223372036854775807 < Bg ((Ad r).take n)
  ·have a:=Ab ((Aa a).trans (if_pos (.inr (.inr q))))
   rw [if_pos q] at m
   obtain ⟨U,p,J⟩:=H.gR
   have y:=Tryz.strconv_ParseInt_10_at64_range_var x (by omega) (by rw [show x.data.toList=(Ad r).take n from Aa v];exact m) U p A J
   clear J m q
   refine y.mono ?_
   rintro e K ⟨N,rfl,_,_,f⟩
   clear y
   have z:=B.after f (Nat.le_refl _)
   have D:=u.trans (f.mono u.size)
   have M:=(H.below f (Nat.le_refl _)).gT
   clear f
   obtain ⟨E,d1,d2,d3,F⟩:=An z
   go_wp2_with fail
   go_region
   go_wp2_with fail
   have o:=Ac (b:=w.heap.size) D (Nat.le_refl _) (.int .i64 0) (.int .i64 0) (.string ⟨#[]⟩) (.int .i64 0)
   obtain ⟨g,h,i,l⟩:=Bf z (.int .i64 0) (.int .i64 0) (.string ⟨#[]⟩) (.int .i64 0)
   exact bodyPost_ret (Ah Tryz.results39 rfl g h i l) rfl ⟨by rw [Aa a,BX];rfl,o.drew⟩
  ·have e: ¬ (19 < n∨AO (Ad r) n=true∨9223372036854775807 < Bg ((Ad r).take n)):=by
    rintro (k | k | k)
    ·exact Q k
    ·rw [Aa S] at k;cases k
    ·exact q k
   have a:=Ab ((Aa a).trans (if_neg e))
   rw [if_neg q] at m
   have y:=Tryz.strconv_ParseInt_10_at64_ok x (by omega) _ (by rw [show x.data.toList=(Ad r).take n from Aa v];exact m) A
   clear m q e
   refine y.mono ?_
   rintro e K ⟨rfl,c⟩
   clear y
   have f:Below A.heap.size A K:=by
    rcases c with rfl | ⟨t,rfl⟩
    ·exact Below.refl _ _
    ·exact Lib.bytesWorld_below A _ t
   clear c
   generalize Bg ((Ad r).take n)=L at a ⊢
   have z:=B.after f (Nat.le_refl _)
   have D:=u.trans (f.mono u.size)
   clear f
   obtain ⟨E,d1,d2,d3,F⟩:=An z
   go_wp2_with fail
   have o:=Ac (b:=w.heap.size) D (Nat.le_refl _) (.int .i64 1) (.int .i64 L) (.string ⟨#[]⟩) (.int .i64 0)
   obtain ⟨g,h,i,l,_⟩:=An (Aj z (.int .i64 1) (.int .i64 L) (.string ⟨#[]⟩) (.int .i64 0))
   simp only [AY] at g h i l
   refine bodyPost_ret (Ah Tryz.results39 rfl g h i l) rfl ⟨?_,o⟩
   rw [Aa a]
   rfl
end Go.Proofs.YtcpdodmoheebaaaGreatDoor
