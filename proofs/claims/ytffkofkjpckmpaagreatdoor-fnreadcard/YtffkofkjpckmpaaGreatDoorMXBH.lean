/-
  QE, QF, QG, QB, FA0, DA, AP, DB. Own work.
-/
import Derived.Test.YtffkofkjpckmpaaGreatDoorMXAG
import Derived.Test.YtffkofkjpckmpaaGreatDoorMXAP
import Derived.Test.YtffkofkjpckmpaaGreatDoorShelf
import Derived.Lib.LaidTab
import Derived.Lib.SmallJoins
import Derived.Test.YtffkofkjpckmpaaGreatDoorMXAF
import Derived.Test.YtffkofkjpckmpaaGreatDoorMXAD
import Derived.Test.YtffkofkjpckmpaaGreatDoorMXAM
import Derived.Lib.ItoaNum
import Derived.Deep.RegionWith
import Derived.Test.YtffkofkjpckmpaaGreatDoorMXAB
import Derived.Test.YtffkofkjpckmpaaGreatDoorMXAJ
import Derived.Deep.RegionHeld3
import Derived.Laws.AppendOwnNone
import Derived.Deep.RegionLaw
namespace Go.Proofs.YtffkofkjpckmpaaGreatDoor
set_option maxRecDepth 100000
set_option maxHeartbeats 6400000
open Go.RowKit
set_option linter.unusedVariables false
theorem Aci:∀ k,k < 16→(Ev k).lv=Ca (Ev k).op∧(Ev k).text=DW (Ev k).op
 | 0,_=>⟨rfl,rfl⟩
 | 1,_=>⟨rfl,rfl⟩
 | 2,_=>⟨rfl,rfl⟩
 | 3,_=>⟨rfl,rfl⟩
 | 4,_=>⟨rfl,rfl⟩
 | 5,_=>⟨rfl,rfl⟩
 | 6,_=>⟨rfl,rfl⟩
 | 7,_=>⟨rfl,rfl⟩
 | 8,_=>⟨rfl,rfl⟩
 | 9,_=>⟨rfl,rfl⟩
 | 10,_=>⟨rfl,rfl⟩
 | 11,_=>⟨rfl,rfl⟩
 | 12,_=>⟨rfl,rfl⟩
 | 13,_=>⟨rfl,rfl⟩
 | 14,_=>⟨rfl,rfl⟩
 | 15,_=>⟨rfl,rfl⟩
 |n+16,h=>absurd h (by omega)
theorem Ft (op:Int)(w:World)(m:CU w)(r: 11≤op∧op≤26):
  Calls Tryz.prog 135 #[.int .i64 op] w fun e w'=>e= .returned (.tuple #[.agg #[.int .i64 op,.int .i64 (Ca op),.string (DW op)],.bool true])∧Below w.heap.size w w':=by
 have z:=m.lt;have hc:=m.cells;have A:=Ab r;clear m r;have s:=Ab (show ∀ k,(w.alloc (.cells #[.int .i64 0,.int .i64 0,.string ⟨#[]⟩] 227)).cell? ⟨10,k,none⟩=EL[k]? from fun k=>(World.cell?_alloc_lt _ _ ⟨10,k,none⟩ z).trans (hc k));clear hc;have t:=(Below.refl w.heap.size w).alloc NLN (.cells #[.int .i64 0,.int .i64 0,.string ⟨#[]⟩] 227);have u:=Am.new w #[.int .i64 0,.int .i64 0,.string ⟨#[]⟩] 227;go_enter Tryz.func135,Tryz.ntmps135
 go_wp2_with (refine DU rfl 244 _ rfl 10 rfl EL _ (Aa s) Tryz.underlying244 rfl (by kernel_rfl) ?_)
 clear s;go_loopw [7] (fun i wr=>∃ k:Nat,k≤16∧i= .int .i64 k∧Below w.heap.size w wr∧Am wr w.heap.size #[.int .i64 0,.int .i64 0,.string ⟨#[]⟩] 227∧∀ j,j < k→(Ev j).op≠op) (fun i _=>16 - (intOf i).toNat)
 case atStart=>exact ⟨0,by omega,rfl,t,u,fun j h=>absurd h (by omega)⟩
 case round=>
  obtain ⟨k,hk,rfl,n,d,v⟩:=hrel;have o:=Ab v;clear v t u;by_cases f:k < 16
  ·have M:(k:Int) < 16:=by omega
   have q:=Ab (Jy k f);have c:=Ab (Aci k f);have g:=Ab f;have N:=d.lt;have l:=Ab (show (Ev k).op≠op→∀ j,j < k+1→(Ev j).op≠op from fun e j x=>by
    by_cases B:j=k
    ·subst B;exact e
    ·exact Aa o j (by omega))
   clear o f;generalize Ev k=a at q l c;have C:=n.alloc n.size (.cells #[.int .i64 a.op,.int .i64 a.lv,.string a.text] 227);have E:=d.alloc (.cells #[.int .i64 a.op,.int .i64 a.lv,.string a.text] 227);have O:=Am.new wr #[.int .i64 a.op,.int .i64 a.lv,.string a.text] 227;by_cases b:a.op=op
   ·have F:(a.op== op)=true:=zI.2 b;have H:=Ab (show (Value.agg #[.int .i64 a.op,.int .i64 a.lv,.string a.text])= .agg #[.int .i64 op,.int .i64 (Ca op),.string (DW op)] by rw[← b,← (Aa c).1,← (Aa c).2]);clear b c l;obtain ⟨P,Q,q2,R⟩:=GX d;go_wp2_with (refine Bt rfl 244 _ _ rfl EL rfl k rfl 16 227 Tryz.underlying244 (Aa g) _ Tryz.underlying227 rfl 3 (by kernel_rfl) _ (Aa q) ?_)
    have I:Am _ w.heap.size #[.int .i64 a.op,.int .i64 a.lv,.string a.text] 227:=(((d.set 0 (.int .i64 a.op)).set 1 (.int .i64 a.lv)).set 2 (.string a.text)).alloc (.cells #[.int .i64 a.op,.int .i64 a.lv,.string a.text] 227);have y:=(((n.setCell (p:=⟨w.heap.size,0,none⟩) NLN (.int .i64 a.op)).setCell (p:=⟨w.heap.size,1,none⟩) NLN (.int .i64 a.lv)).setCell (p:=⟨w.heap.size,2,none⟩) NLN (.string a.text))
    have J:=y.alloc y.size (.cells #[.int .i64 a.op,.int .i64 a.lv,.string a.text] 227);obtain ⟨K,g1,g2,S⟩:=GX I;exact bodyPost_ret (JD Tryz.results135 rfl rfl K g1 g2) rfl ⟨by rw[← Aa H];rfl,J⟩
   ·have F:(a.op== op)=false:=zA.2 b;have L:=Ab (Aa l b);clear b c l;go_wp2_with (refine Bt rfl 244 _ _ rfl EL rfl k rfl 16 227 Tryz.underlying244 (Aa g) _ Tryz.underlying227 rfl 3 (by kernel_rfl) _ (Aa q) ?_)
    go_roundw
    case rel=>exact ⟨k+1,Aa g,by go_num,C,E,Aa L⟩
    case measure=>have:=Aa g;simp[intOf];omega
  ·have e:k=16:=by omega
   subst e;obtain ⟨j,x,e⟩:=SH op (Aa A);exact absurd e (Aa o j x)
theorem Nh (op:Int)(w:World)(a: 8≤op∧op≤10):
  Calls Tryz.prog 134 #[.int .i64 op] w fun e w'=>e= .returned (.int .i64 (Ca op))∧w'=w:=by
 have:op=8∨op=9∨op=10:=by omega
 rcases this with rfl | rfl | rfl
 ·go_enter Tryz.func134,Tryz.ntmps134
  go_wp2
  go_ret
  exact ⟨rfl,rfl⟩
 ·go_enter Tryz.func134,Tryz.ntmps134
  go_wp2
  go_ret
  exact ⟨rfl,rfl⟩
 ·go_enter Tryz.func134,Tryz.ntmps134
  go_wp2
  go_ret
  exact ⟨rfl,rfl⟩
theorem Cp (e:Ex)(y w:World)(d:CU w)(hf:e.fit y):
  Calls Tryz.prog 95 #[e.val] w fun r w'=>r= .returned (.int .i64 (Ca e.op))∧Below w.heap.size w w':=by
 cases e with
 |int i n=>
  simp only[Ex.val,Ex.op];have f:=Ai (S:=175) (T:=194) Tryz.underlying194 Tryz.zeroValue194 (by decide) 67;have a1:=Ai (S:=175) (T:=188) Tryz.underlying188 Tryz.zeroValue188 (by decide) 67;have a2:=Ai (S:=175) (T:=191) Tryz.underlying191 Tryz.zeroValue191 (by decide) 67;clear hf d;go_enter Tryz.func95,Tryz.ntmps95
  go_wp2
  go_ret
  exact ⟨rfl,BRN⟩
 |text i s=>
  simp only[Ex.val,Ex.op];have f:=Ai (S:=178) (T:=194) Tryz.underlying194 Tryz.zeroValue194 (by decide) 67;have a1:=Ai (S:=178) (T:=188) Tryz.underlying188 Tryz.zeroValue188 (by decide) 67;have a2:=Ai (S:=178) (T:=191) Tryz.underlying191 Tryz.zeroValue191 (by decide) 67;clear hf d;go_enter Tryz.func95,Tryz.ntmps95
  go_wp2
  go_ret
  exact ⟨rfl,BRN⟩
 |bool i b=>
  simp only[Ex.val,Ex.op];have f:=Ai (S:=180) (T:=194) Tryz.underlying194 Tryz.zeroValue194 (by decide) 67;have a1:=Ai (S:=180) (T:=188) Tryz.underlying188 Tryz.zeroValue188 (by decide) 67;have a2:=Ai (S:=180) (T:=191) Tryz.underlying191 Tryz.zeroValue191 (by decide) 67;clear hf d;go_enter Tryz.func95,Tryz.ntmps95
  go_wp2
  go_ret
  exact ⟨rfl,BRN⟩
 |set i a n c H=>
  simp only[Ex.val,Ex.op];have f:=Ai (S:=183) (T:=194) Tryz.underlying194 Tryz.zeroValue194 (by decide) 67;have a1:=Ai (S:=183) (T:=188) Tryz.underlying188 Tryz.zeroValue188 (by decide) 67;have a2:=Ai (S:=183) (T:=191) Tryz.underlying191 Tryz.zeroValue191 (by decide) 67;clear hf d;go_enter Tryz.func95,Tryz.ntmps95
  go_wp2
  go_ret
  exact ⟨rfl,BRN⟩
 |name i s=>
  simp only[Ex.val,Ex.op];have f:=Ai (S:=186) (T:=194) Tryz.underlying194 Tryz.zeroValue194 (by decide) 67;have a1:=Ai (S:=186) (T:=188) Tryz.underlying188 Tryz.zeroValue188 (by decide) 67;have a2:=Ai (S:=186) (T:=191) Tryz.underlying191 Tryz.zeroValue191 (by decide) 67;clear hf d;go_enter Tryz.func95,Tryz.ntmps95
  go_wp2
  go_ret
  exact ⟨rfl,BRN⟩
 |attr i n=>exact absurd hf id
 |lett i n=>exact absurd hf id
 |ite i c t e=>
  simp only[Ex.val,Ex.op];clear hf d;obtain ⟨I,J,j⟩:=Ex.form c;obtain ⟨K,L,m⟩:=Ex.form t;obtain ⟨M,N,o⟩:=Ex.form e;rw[j,m,o];clear j m o;have f:=Cs (T:=194) Tryz.underlying194 67;go_enter Tryz.func95,Tryz.ntmps95
  go_wp2
  go_ret
  exact ⟨rfl,BRN.alloc NLN _⟩
 |un i op k=>
  have g:=Ab hf.1;simp only[Ex.val,Ex.op];clear hf d;obtain ⟨O,P,p⟩:=Ex.form k;rw[p];clear p;have f:=Ai (S:=188) (T:=194) Tryz.underlying194 Tryz.zeroValue194 (by decide) 67;have a1:=Cs (T:=188) Tryz.underlying188 67;go_enter Tryz.func95,Tryz.ntmps95
  go_wp2_with (go_at_call 134;refine (Nh op _ (Aa g)).mono ?_;rintro e w' ⟨rfl,q⟩;rw[q];clear q)
  go_ret
  exact ⟨rfl,BRN.alloc NLN _⟩
 |bin i op l r=>
  have g:=Ab hf.1;simp only[Ex.val,Ex.op];clear hf;obtain ⟨z,A,u⟩:=Ex.form l;obtain ⟨B,C,v⟩:=Ex.form r;rw[u,v];clear u v;have h:=(Below.refl w.heap.size w).alloc NLN (.cells #[.int .i64 i,.int .i64 op,.iface z A,.iface B C] 191);have E:=d.below h NLN;have f:=Ai (S:=191) (T:=194) Tryz.underlying194 Tryz.zeroValue194 (by decide) 67;have a1:=Ai (S:=191) (T:=188) Tryz.underlying188 Tryz.zeroValue188 (by decide) 67;have a2:=Cs (T:=191) Tryz.underlying191 67;clear d;go_enter Tryz.func95,Tryz.ntmps95
  go_wp2_with (go_at_call 135;refine (Ft op _ E (Aa g)).mono ?_;rintro e w' ⟨rfl,F⟩)
  go_ret
  have x:=h.trans (F.mono h.size);exact ⟨rfl,x.alloc x.size _⟩
set_option maxHeartbeats 3200000
theorem Aa1 (B b:Nat)(z:World)(a:Option Addr)(n c:Nat)(d:List ByteArray)(A:BL z a n c d)(Q:z.heap.size≤B)(Z:n≤64)(hs:∀ x∈d,x.size≤32)
  (acc:ByteArray)(w:World)(R:Below B z w)(h:Pr B b acc w)(aa:acc.size≤100000000000):
  Calls Tryz.prog 98 #[.pointer (some ⟨b,0,none⟩),.slice a n c] w fun e w'=>e= .returned (.tuple #[])∧Pr B b (acc ++Oi d) w'∧Kp B b w w':=by
 have I:=Ab A.len;have q:=Ab hs;have E:(⟨#[123]⟩:ByteArray).size=1:=rfl;clear hs;go_enter Tryz.func98,Tryz.ntmps98
 go_wp2_with fail
 refine (Dn B b _ acc _ h (by rw[E];omega)).mono ?_;rintro e ab ⟨rfl,f,g⟩;go_wp2_with fail
 go_loopw [11] (fun i wr=>∃ k:Nat,k≤n∧i= .int .i64 k∧Pr B b (acc ++⟨#[123]⟩ ++AQ true (d.take k)) wr∧Kp B b w wr) (fun i _=>n - (intOf i).toNat)
 case atStart=>exact ⟨0,zN _,rfl,by rw[List.take_zero,AQ,Eo];exact f,g⟩
 case round=>
  clear f g;obtain ⟨k,hk,rfl,f,g⟩:=hrel;by_cases r:k < n
  ·have ac:(k:Int) < (n:Int):=by omega
   have l:k < d.length:=by rw[← Aa I];exact r
   obtain ⟨ad,ae,rfl,af,J⟩:=(A.below (R.trans g.low) Q).cells k r;have K:D0 d k=d[k]:=by simp[D0,List.getD,l]
   rw[K] at J;have L:=Ab (FR true (d.take k) (fun x hx=>Aa q x (yF hx)));have F:=Ab (show d[k].size≤32 from Aa q _ (zP l));have j:=Ab (show AQ true (d.take (k+1))=AQ true (d.take k) ++AQ (decide (k=0)) [d[k]] by
    rw[zx l,LB]
    congr 2
    by_cases e:k=0
    ·subst e;rfl
    ·have:d.take k≠ []:=fun e2=>by have:=congrArg List.length e2;simp at this;rcases this with e3 | e3;omega;subst e3;simp at l
     rw[zK e,z2,List.isEmpty_eq_false_iff.2 this])
   have t:(AQ true (d.take k)).size≤36 * 64:=by have:=Aa L;rw[zg] at this;omega
   have u:=Ab r;generalize d[k]=s at J F j;generalize AQ true (d.take k)=v at f j t;have S:(acc ++⟨#[123]⟩ ++v).size≤100000000000+1+36 * 64:=by rw[zD,zD,E];omega
   have M:(⟨#[34]⟩:ByteArray).size=1:=rfl;have N:(⟨#[44,32]⟩:ByteArray).size=2:=rfl;clear L l r K t A;have m:=Ab (show ∀ x,acc ++⟨#[123]⟩ ++(v ++x)=acc ++⟨#[123]⟩ ++v ++x from fun x=>zT.symm);generalize acc ++⟨#[123]⟩ ++v=C at f S m;by_cases y:k=0
   ·have T: ¬ ((0 :Int) < (k:Int)):=by omega
    have H:=Ab (show acc ++⟨#[123]⟩ ++AQ true (d.take (k+1))=C ++(⟨#[34]⟩ ++s ++⟨#[34]⟩) by rw[Aa j,Aa m,zR y];simp[AQ,FP,Eo]);clear j m y;go_wp2_with fail
    refine (Nf B b _ _ _ C _ f (by have:=Aa F;rw[M];omega)).mono ?_;rintro e O ⟨rfl,o,p⟩;go_wp2_with fail
    go_roundw
    case rel=>exact ⟨k+1,Aa u,by go_num,by rw[Aa H];exact o,g.trans p⟩
    case measure=>have:=Aa u;simp[intOf];omega
   ·have T:(0 :Int) < (k:Int):=by omega
    have H:=Ab (show acc ++⟨#[123]⟩ ++AQ true (d.take (k+1))=C ++⟨#[44,32]⟩ ++(⟨#[34]⟩ ++s ++⟨#[34]⟩) by rw[Aa j,Aa m,zK y];simp[AQ,Eo,ByteArray.append_assoc]);clear j m y;go_wp2_with fail
    refine (Dn B b _ C _ f (by rw[N];omega)).mono ?_;rintro e O ⟨rfl,o,p⟩;go_wp2_with fail
    refine (Nf B b _ _ _ _ _ o (by have:=Aa F;rw[zD,M,N];omega)).mono ?_;rintro e ag ⟨rfl,U,V⟩;go_wp2_with fail
    go_roundw
    case rel=>exact ⟨k+1,Aa u,by go_num,by rw[Aa H];exact U,(g.trans p).trans V⟩
    case measure=>have:=Aa u;simp[intOf];omega
  ·have e:k=n:=by omega
   subst e;have t:=FR true d (Aa q);have P:=Aa I;have W:=Ab (show acc ++Oi d=acc ++⟨#[123]⟩ ++AQ true d ++⟨#[125]⟩ by rw[Oi];simp only[zT]);have X:(⟨#[125]⟩:ByteArray).size=1:=rfl;have Y:=Ab (show (acc ++⟨#[123]⟩ ++AQ true d).size≤100000000000+1+36 * 64 by rw[zD,zD,E];omega);rw[show d.take k=d by rw[P,List.take_length]] at f;clear t P q;go_wp2_with fail
   refine (Dn B b _ _ _ f (by have:=Aa Y;rw[X];omega)).mono ?_;rintro e O ⟨rfl,o,p⟩;go_wp2_with fail
   go_end0
   exact ⟨rfl,by rw[Aa W];exact o,g.trans p⟩
set_option maxHeartbeats 1600000
abbrev Rj (w:World):Prop:=Lib.TabIs Tryz.prog w "internal/strconv.uint64pow10" .u64 Lib.pow10Tab
theorem AcH: Tryz.prog.globalNamed "internal/strconv.uint64pow10" =some 11:=by kernel_rfl
theorem Rj.below {w w':World}{B:Nat}(h:Rj w)(a:Below B w w')(b:w.heap.size≤B):Rj w':=Joins.tab_stays AcH h (a.mono b) NLN
theorem Om (x:Int)(w:World)(h0: 0≤x)(hk:x≤9223372036854775807)(ht:Rj w):
  Calls Tryz.prog 96 #[.int .i64 x,.int .i64 10] w fun e w'=>e= .returned (.string (GB x.toNat))∧Below w.heap.size w w':=by
 refine (Tryz.strconv_FormatInt_10 x (by omega) (by omega) w ht).mono ?_;rintro e w' ⟨rfl,k,os,rfl⟩;refine ⟨?_, ?_⟩
 ·rw[Lib.itoa,if_neg (by omega)];rfl
 ·exact ⟨rfl,rfl,rfl,by simp,fun k hk=>by rw[Sort.heap_grow_old _ _ (by simpa using hk)];rfl⟩
theorem FS (B b:Nat)(s acc:ByteArray)(w:World)(g:Nat)(a:w.heap.size=g)(h:Pr B b acc w)(c:acc.size+s.size≤140737488355328):
  Calls Tryz.prog 48 #[.pointer (some ⟨b,0,none⟩),.slice (some ⟨g,0,none⟩) 1 1] (w.alloc (.cells #[.string s] 9)) fun e w'=>e= .returned (.tuple #[])∧Pr B b (acc ++s) w'∧Kp B b w w':=by
 subst a;exact Dn B b s acc w h c
theorem Wb (B b:Nat)(s t u acc:ByteArray)(w:World)(g:Nat)(a:w.heap.size=g)(h:Pr B b acc w)(c:acc.size+(s.size+t.size+u.size)≤140737488355328):
  Calls Tryz.prog 48 #[.pointer (some ⟨b,0,none⟩),.slice (some ⟨g,0,none⟩) 3 3] (w.alloc (.cells #[.string s,.string t,.string u] 9)) fun e w'=>e= .returned (.tuple #[])∧Pr B b (acc ++(s ++t ++u)) w'∧Kp B b w w':=by
 subst a;exact Nf B b s t u acc w h c
def GL (B b:Nat) (acc:ByteArray) (w:World) (r:Ending) (w':World):Prop:=r= .returned (.tuple #[])∧Pr B b acc w'∧Kp B b w w'
def DX (B b:Nat) (w0:World) (v:Value) (pr:Int→ByteArray) (cnt:Nat):Prop:=
 ∀ (least:Int) (acc:ByteArray) (w:World),Below B w0 w→Pr B b acc w→acc.size+4000 * cnt+2≤100000000000→Calls Tryz.prog 49 #[.pointer (some ⟨b,0,none⟩),v,.int .i64 least] w (GL B b (acc ++pr least) w)
def InV (B b:Nat) (w0:World) (e:Ex):Prop:=
 ∀ (least:Int) (acc:ByteArray) (w:World),least≤Ca e.op→Below B w0 w→Pr B b acc w→acc.size+4000 * e.cnt≤100000000000→Calls Tryz.prog 49 #[.pointer (some ⟨b,0,none⟩),e.val,.int .i64 least] w (GL B b (acc ++e.pr) w)
theorem De (B b:Nat)(a:World)(e:Ex)(l:CU a)(v:a.heap.size≤B)(hf:e.fit a)(i:InV B b a e):DX B b a e.val e.put e.cnt:=by
 intro m acc w c h n;by_cases hl:Ca e.op < m
 ·rw[VW hl];have d:=Ab (Cp e a w (l.below c v) hf);have f:=Ab (show ∀ (acc:ByteArray) (w:World),Below B a w→Pr B b acc w→acc.size+4000 * e.cnt≤100000000000→Calls Tryz.prog 49 #[.pointer (some ⟨b,0,none⟩),e.val,.int .i64 0] w (GL B b (acc ++e.pr) w) from fun acc w=>i 0 acc w (IA _));have g:=Ab n;have j:=Ab (e.pr_size hf);obtain ⟨t,u,o⟩:=e.form;rw[o] at d f ⊢;clear o i hf n l;generalize Ca e.op=lv at d hl;generalize e.pr=K at f j;generalize e.cnt=cnt at f j g;have x:B≤w.heap.size:=by have:=h.le;omega
  have y:=Ab c;clear c;go_enter Tryz.func49,Tryz.ntmps49
  go_wp2_with fail
  refine (Aa d).mono ?_;rintro r z ⟨rfl,p⟩;have A:=h.below p;have q:Kp B b w z:=Kp.of_all p x;have k:(⟨#[40]⟩:ByteArray).size=1:=rfl;have C:(⟨#[41]⟩:ByteArray).size=1:=rfl;clear d;go_wp2_with fail
  refine (Dn B b _ acc _ A (by have:=Aa g;rw[k];omega)).mono ?_;rintro r L ⟨rfl,E,s⟩;go_wp2_with fail
  refine (Aa f _ _ (((Aa y).trans q.low).trans s.low) E (by have:=Aa g;rw[zD,k];omega)).mono ?_;rintro r M ⟨rfl,F,H⟩;go_wp2_with fail
  refine (Dn B b _ _ _ F (by have:=Aa g;have:=Aa j;rw[zD,zD,k,C];omega)).mono ?_;rintro r N ⟨rfl,I,J⟩;go_wp2_with fail
  go_end0
  exact ⟨rfl,by simpa only[zT] using I,((q.trans s).trans H).trans J⟩
 ·rw[Zh (by omega)];exact i m acc w (by omega) c h (by omega)
def unT (op:Int) (pr:Int→ByteArray):ByteArray:=
 if op=8 then ⟨#[45]⟩ ++pr 7 else if op=9 then ⟨#[110,111,116,32]⟩ ++pr 3 else ⟨#[115,105,122,101,40]⟩ ++pr 0 ++⟨#[41]⟩
theorem AbH (i op:Int)(k:Ex):(Ex.un i op k).pr=unT op k.put:=by
 rw[Ex.pr,unT,BO];rfl
def Zz (op:Int) (p q:Int→ByteArray):ByteArray:=p (DV op) ++(⟨#[32]⟩ ++DW op ++⟨#[32]⟩) ++q (Ca op+1)
theorem ZA (i op:Int)(l r:Ex):(Ex.bin i op l r).pr=Zz op l.put r.put:=rfl
theorem Xv (B b:Nat)(q:World)(i op:Int)(t:TypeId)(u:Value)(c:Int→ByteArray)(cnt:Nat)(A: 8≤op∧op≤10)(s:DX B b q (.iface t u) c cnt)(hs:(c 0).size≤4000 * cnt+2)
  (acc:ByteArray)(w:World)(v:Below B q w)(h:Pr B b acc w)(x:acc.size+4000 * (cnt+1)≤100000000000):
  Calls Tryz.prog 99 #[.pointer (some ⟨b,0,none⟩),.agg #[.int .i64 i,.int .i64 op,.iface t u]] w (GL B b (acc ++unT op c) w):=by
 have m:=Ab s;have f:=Ab x;have C:=Ab hs;have n:=Ab v;have E:B≤w.heap.size:=by have:=h.le;omega
 have K:=h.le.2;have F:op=8∨op=9∨op=10:=by omega
 clear s x hs v A;have o:=h.alloc (.cells #[.int .i64 i,.int .i64 op,.iface t u] 188);have g:Kp B b w _:=Kp.alloc0 w (.cells #[.int .i64 i,.int .i64 op,.iface t u] 188) E;have p:=Am.new w #[.int .i64 i,.int .i64 op,.iface t u] 188;rcases F with rfl | rfl | rfl
 ·have d:(⟨#[45]⟩:ByteArray).size=1:=rfl;go_enter Tryz.func99,Tryz.ntmps99
  go_wp2_with fail
  refine (FS B b _ acc _ _ (by simp) o (by have:=Aa f;rw[d];omega)).mono ?_;rintro r y ⟨rfl,j,a⟩;have c1:=(a.row p (by omega) (by decide)).cell 2;simp at c1;go_wp2_with fail
  refine (Aa m _ _ _ (((Aa n).trans g.low).trans a.low) j (by have:=Aa f;rw[zD,d];omega)).mono ?_;rintro r z ⟨rfl,k,l⟩;go_wp2_with fail
  go_end0
  exact ⟨rfl,by rw[show unT 8 c=⟨#[45]⟩ ++c 7 from rfl];simpa only[zT] using k,(g.trans a).trans l⟩
 ·have d:(⟨#[110,111,116,32]⟩:ByteArray).size=4:=rfl;go_enter Tryz.func99,Tryz.ntmps99
  go_wp2_with fail
  refine (FS B b _ acc _ _ (by simp) o (by have:=Aa f;rw[d];omega)).mono ?_;rintro r y ⟨rfl,j,a⟩;have c1:=(a.row p (by omega) (by decide)).cell 2;simp at c1;go_wp2_with fail
  refine (Aa m _ _ _ (((Aa n).trans g.low).trans a.low) j (by have:=Aa f;rw[zD,d];omega)).mono ?_;rintro r z ⟨rfl,k,l⟩;go_wp2_with fail
  go_end0
  exact ⟨rfl,by rw[show unT 9 c=⟨#[110,111,116,32]⟩ ++c 3 from rfl];simpa only[zT] using k,(g.trans a).trans l⟩
 ·have d:(⟨#[115,105,122,101,40]⟩:ByteArray).size=5:=rfl;go_enter Tryz.func99,Tryz.ntmps99
  go_wp2_with fail
  refine (FS B b _ acc _ _ (by simp) o (by have:=Aa f;rw[d];omega)).mono ?_;rintro r y ⟨rfl,j,a⟩;have c1:=(a.row p (by omega) (by decide)).cell 2;simp at c1;go_wp2_with fail
  refine (Aa m _ _ _ (((Aa n).trans g.low).trans a.low) j (by have:=Aa f;rw[zD,d];omega)).mono ?_;rintro r z ⟨rfl,k,l⟩;go_wp2_with fail
  have H:(⟨#[41]⟩:ByteArray).size=1:=rfl;refine (Dn B b _ _ _ k (by have:=Aa f;have:=Aa C;rw[zD,zD,d,H];omega)).mono ?_;rintro r L ⟨rfl,I,J⟩;go_wp2_with fail
  go_end0
  exact ⟨rfl,by rw[show unT 10 c=⟨#[115,105,122,101,40]⟩ ++c 0 ++⟨#[41]⟩ from rfl];simpa only[zT] using I,((g.trans a).trans l).trans J⟩
theorem Eb {w:World}{b:Nat}{a c d f:Value}{t:TypeId}(R:Am w b #[a,c,d,f] t):w.cell? ⟨b,0,none⟩=some a∧w.cell? ⟨b,1,none⟩=some c∧w.cell? ⟨b,2,none⟩=some d∧w.cell? ⟨b,3,none⟩=some f:=
 ⟨R.cell 0,R.cell 1,R.cell 2,R.cell 3⟩
theorem UO (B b:Nat)(l:World)(i op:Int)(t:TypeId)(u:Value)(p:Int→ByteArray)(m:Nat)(a:TypeId)(c:Value)(q:Int→ByteArray)(n:Nat)(sg:ByteArray)
  (S:Hid (DX B b l (.iface t u) p m))(T:Hid (DX B b l (.iface a c) q n))(z:Hid ((p (5)).size≤4000 * m+2))(A:Hid (sg.size≤6))
  (acc:ByteArray)(w:World)(C:Hid (Below B l w))(h:Pr B b acc w)(o:Hid (acc.size+4000 * (m+n+1)≤100000000000))
  (E:Hid (Calls Tryz.prog 135 #[.int .i64 op] (w.alloc (.cells #[.int .i64 i,.int .i64 op,.iface t u,.iface a c] 191)) fun e w'=>e= .returned (.tuple #[.agg #[.int .i64 op,.int .i64 4,.string sg],.bool true])∧Below (w.heap.size+1) (w.alloc (.cells #[.int .i64 i,.int .i64 op,.iface t u,.iface a c] 191)) w')):
  Calls Tryz.prog 100 #[.pointer (some ⟨b,0,none⟩),.agg #[.int .i64 i,.int .i64 op,.iface t u,.iface a c]] w (GL B b (acc ++(p (5) ++(⟨#[32]⟩ ++sg ++⟨#[32]⟩) ++q (5))) w):=by
 have U:B≤w.heap.size:=by have:=h.le;omega
 have ag:=h.le.2;have F:=h.alloc (.cells #[.int .i64 i,.int .i64 op,.iface t u,.iface a c] 191);have H:Kp B b w _:=Kp.alloc0 w (.cells #[.int .i64 i,.int .i64 op,.iface t u,.iface a c] 191) U;have I:=Am.new w #[.int .i64 i,.int .i64 op,.iface t u,.iface a c] 191;have J:(⟨#[32]⟩:ByteArray).size=1:=rfl;go_enter Tryz.func100,Tryz.ntmps100
 go_wp2_with fail
 refine (Aa E).mono ?_;rintro r g ⟨rfl,f⟩;clear E;have d:(w.alloc (.cells #[.int .i64 i,.int .i64 op,.iface t u,.iface a c] 191)).heap.size=w.heap.size+1:=by simp
 have K:=F.below (by rw[d];exact f);have L:Kp B b w g:=H.trans (Kp.of_all (by rw[d];exact f) (by rw[d];omega));have V:=f.size;rw[d] at V;have M:=I.after f (by rw[d];exact NLN);clear I F H f d;have N:=K.alloc (.cells #[.int .i64 op,.int .i64 4,.string sg] 227);have s:Kp B b w _:=L.trans (Kp.alloc0 g (.cells #[.int .i64 op,.int .i64 4,.string sg] 227) (by omega));have v:=M.alloc (.cells #[.int .i64 op,.int .i64 4,.string sg] 227);have O:=Am.new g #[.int .i64 op,.int .i64 4,.string sg] 227;obtain ⟨W,c1,c2,c3⟩:=Eb v;have ah:w.heap.size < g.heap.size:=by omega
 dsimp only;go_wp2_with fail
 refine (Aa S _ _ _ ((Aa C).trans s.low) N (by have:=Aa o;omega)).mono ?_;rintro r ai ⟨rfl,P,j⟩;have x:=j.row v (by omega) (by decide);have y:=j.row O (by omega) (by decide);have Q:=s.trans j;obtain ⟨X,d1,d2,d3⟩:=Eb x;obtain ⟨Y,Z,aa,_⟩:=GX y;clear M v O L s j K N W c1 c2 c3;dsimp only;go_wp2_with fail
 refine (Nf B b _ _ _ _ _ P (by have:=Aa o;have:=Aa z;have:=Aa A;rw[zD,J];omega)).mono ?_;rintro r aj ⟨rfl,ab,k⟩;have ac:=k.row x (by omega) (by decide);have ad:=k.row y (by omega) (by decide);have R:=Q.trans k;obtain ⟨ak,f1,f2,al⟩:=Eb ac;obtain ⟨ao,g1,g2,_⟩:=GX ad;clear x y Q k P X d1 d2 d3 Y Z aa;dsimp only;go_wp2_with fail
 refine (Aa T _ _ _ ((Aa C).trans R.low) ab (by have:=Aa o;have:=Aa z;have:=Aa A;rw[zD,zD,zD,zD,J];omega)).mono ?_;rintro r ap ⟨rfl,ae,af⟩;dsimp only;go_wp2_with fail
 go_end0
 exact ⟨rfl,by simpa only[zT] using ae,R.trans af⟩
theorem QD (B b:Nat)(l:World)(i op:Int)(t:TypeId)(u:Value)(p:Int→ByteArray)(m:Nat)(a:TypeId)(c:Value)(q:Int→ByteArray)(n:Nat)(lv:Int)(sg:ByteArray)(h0: 0≤lv)(h8:lv≤8)(h4:(lv== 4)=false)
  (S:Hid (DX B b l (.iface t u) p m))(T:Hid (DX B b l (.iface a c) q n))(z:Hid ((p (lv)).size≤4000 * m+2))(A:Hid (sg.size≤6))
  (acc:ByteArray)(w:World)(C:Hid (Below B l w))(h:Pr B b acc w)(o:Hid (acc.size+4000 * (m+n+1)≤100000000000))
  (E:Hid (Calls Tryz.prog 135 #[.int .i64 op] (w.alloc (.cells #[.int .i64 i,.int .i64 op,.iface t u,.iface a c] 191)) fun e w'=>e= .returned (.tuple #[.agg #[.int .i64 op,.int .i64 lv,.string sg],.bool true])∧Below (w.heap.size+1) (w.alloc (.cells #[.int .i64 i,.int .i64 op,.iface t u,.iface a c] 191)) w')):
  Calls Tryz.prog 100 #[.pointer (some ⟨b,0,none⟩),.agg #[.int .i64 i,.int .i64 op,.iface t u,.iface a c]] w (GL B b (acc ++(p (lv) ++(⟨#[32]⟩ ++sg ++⟨#[32]⟩) ++q (lv+1))) w):=by
 have U:B≤w.heap.size:=by have:=h.le;omega
 have ag:=h.le.2;have F:=h.alloc (.cells #[.int .i64 i,.int .i64 op,.iface t u,.iface a c] 191);have H:Kp B b w _:=Kp.alloc0 w (.cells #[.int .i64 i,.int .i64 op,.iface t u,.iface a c] 191) U;have I:=Am.new w #[.int .i64 i,.int .i64 op,.iface t u,.iface a c] 191;have J:(⟨#[32]⟩:ByteArray).size=1:=rfl;go_enter Tryz.func100,Tryz.ntmps100
 go_wp2_with fail
 refine (Aa E).mono ?_;rintro r g ⟨rfl,f⟩;clear E;have d:(w.alloc (.cells #[.int .i64 i,.int .i64 op,.iface t u,.iface a c] 191)).heap.size=w.heap.size+1:=by simp
 have K:=F.below (by rw[d];exact f);have L:Kp B b w g:=H.trans (Kp.of_all (by rw[d];exact f) (by rw[d];omega));have V:=f.size;rw[d] at V;have M:=I.after f (by rw[d];exact NLN);clear I F H f d;have N:=K.alloc (.cells #[.int .i64 op,.int .i64 lv,.string sg] 227);have s:Kp B b w _:=L.trans (Kp.alloc0 g (.cells #[.int .i64 op,.int .i64 lv,.string sg] 227) (by omega));have v:=M.alloc (.cells #[.int .i64 op,.int .i64 lv,.string sg] 227);have O:=Am.new g #[.int .i64 op,.int .i64 lv,.string sg] 227;obtain ⟨W,c1,c2,c3⟩:=Eb v;have ah:w.heap.size < g.heap.size:=by omega
 dsimp only;go_wp2_with fail
 refine (Aa S _ _ _ ((Aa C).trans s.low) N (by have:=Aa o;omega)).mono ?_;rintro r ai ⟨rfl,P,j⟩;have x:=j.row v (by omega) (by decide);have y:=j.row O (by omega) (by decide);have Q:=s.trans j;obtain ⟨X,d1,d2,d3⟩:=Eb x;obtain ⟨Y,Z,aa,_⟩:=GX y;clear M v O L s j K N W c1 c2 c3;dsimp only;go_wp2_with fail
 refine (Nf B b _ _ _ _ _ P (by have:=Aa o;have:=Aa z;have:=Aa A;rw[zD,J];omega)).mono ?_;rintro r aj ⟨rfl,ab,k⟩;have ac:=k.row x (by omega) (by decide);have ad:=k.row y (by omega) (by decide);have R:=Q.trans k;obtain ⟨ak,f1,f2,al⟩:=Eb ac;obtain ⟨ao,g1,g2,_⟩:=GX ad;clear x y Q k P X d1 d2 d3 Y Z aa;dsimp only;go_wp2_with fail
 refine (Aa T _ _ _ ((Aa C).trans R.low) ab (by have:=Aa o;have:=Aa z;have:=Aa A;rw[zD,zD,zD,zD,J];omega)).mono ?_;rintro r ap ⟨rfl,ae,af⟩;dsimp only;go_wp2_with fail
 go_end0
 exact ⟨rfl,by simpa only[zT] using ae,R.trans af⟩
set_option maxHeartbeats 800000
def Jr (k:Nat):ByteArray:=⟨(Lib.decDigits k).toArray⟩
theorem I9 {k:Nat}(h:k < 10):Jr k=Lk (48+(k:Int)):=by
 have e:(48+(k:Int)).toNat=48+k:=by omega
 unfold Jr Lk;rw[Lib.decDigits,dif_pos h,e];rfl
theorem Ra {k:Nat}(h: 10≤k):Jr k=Jr (k / 10) ++Jr (k % 10):=by
 apply Ij;rw[ByteArray.data_append];unfold Jr;rw[Lib.decDigits,dif_neg (by omega)]
 conv=>rhs;rw[Lib.decDigits.eq_def (k % 10),dif_pos (by omega)]
 simp
theorem Ed (k:Nat):(Jr k).size≤k+1:=by
 induction k using Nat.strongRecOn with
 |_ k a=>
  by_cases h:k < 10
  ·rw[I9 h,Ec];omega
  ·rw[Ra (by omega),Ar,I9 (k:=k % 10) (by omega),Ec];have:=a (k / 10) (by omega);omega
theorem Mm (m:Nat)(x:Int){w:World}{a:Ending→World→Prop}(h:Calls Tryz.prog 63 #[.int .i64 m] w a)(e:x=m):Calls Tryz.prog 63 #[.int .i64 x] w a:=by rw[e];exact h
theorem NY (k:Nat)(w:World)(hk:k≤9999999):
  Calls Tryz.prog 63 #[.int .i64 k] w fun e w'=>e= .returned (.string (Jr k))∧Below w.heap.size w w':=by
 induction k using Nat.strongRecOn generalizing w with
 |_ k b=>
  by_cases h:k < 10
  ·have f:(k:Int) < 10:=by omega
   have j:(48+(k:Int)) < 256:=by omega
   have l:=OD;have a:=Ab (I9 h);go_enter Tryz.func63,Tryz.ntmps63
   go_wp2
   go_ret
   exact ⟨by rw[Aa a];rfl,BRN.alloc NLN _⟩
  ·have f:(10 :Int)≤(k:Int):=by omega
   have a:=Ab (Ra (k:=k) (by omega));have n:=Ed (k / 10);have o:=Ed (k % 10);have c:Hid (∀ (m:Nat),m < k→∀ (w:World),m≤9999999→Calls Tryz.prog 63 #[.int .i64 m] w fun e w'=>e= .returned (.string (Jr m))∧Below w.heap.size w w'):=b;clear b;go_enter Tryz.func63,Tryz.ntmps63
   go_wp2_with fail
   refine (Mm (k / 10) _ (Aa c (k / 10) (by omega) w (by omega)) (by omega)).mono ?_;rintro e g ⟨rfl,d⟩;go_wp2_with fail
   refine (Mm (k % 10) _ (Aa c (k % 10) (by omega) g (by omega)) (by omega)).mono ?_;rintro e p ⟨rfl,i⟩;go_wp2_with fail
   go_ret
   exact ⟨by rw[Aa a];rfl,d.trans (i.mono d.size)⟩
theorem Dp (x:Int)(w:World)(h0: 0≤x)(hk:x≤9999999):
  Calls Tryz.prog 63 #[.int .i64 x] w fun e w'=>e= .returned (.string (Jr x.toNat))∧Below w.heap.size w w':=by
 obtain ⟨k,rfl⟩:=Int.eq_ofNat_of_zero_le h0;exact NY k w (by omega)
set_option maxHeartbeats 1600000
theorem Ak.drewN {lo hi:Nat}(w:World)(k:Nat):Ak lo hi w (w.drewN k):=Ak.of_below (below_drewN (Below.refl w.heap.size w) k) NLN
theorem Ak.then_below {lo hi B:Nat}{w a b:World}(t:Ak lo hi w a)(h:Below B a b)(d:w.heap.size≤B):Ak lo hi w b:=
 ⟨h.os.trans t.os,h.tape.trans t.tape,h.output.trans t.output,zL t.size h.size,fun k hk c=>(h.block k (by omega)).trans (t.block k hk c)⟩
theorem BJ (R:Nat)(a:Option Addr)(n c:Nat)(w:World)(h:CE w R a n c):
  Calls Tryz.prog 26 #[.pointer (some ⟨R,0,none⟩)] w fun e w'=>∃ r:Int,e= .returned (.int .i64 r)∧0≤r∧r≤255∧CE w' R a n c∧Ak R (R+1) w w':=by
 obtain ⟨p,h⟩:=h;have d:=h.row.cell 0;have c1:=h.row.cell 1;have f1:=h.row.frozen 1;simp at d c1;have k:=h.small;by_cases hp:p < n
 ·obtain ⟨b,l,m,f,o,q,g,i⟩:=h.cells p hp;subst f;have j:(p:Int) < (n:Int):=by omega
  go_enter Tryz.func26,Tryz.ntmps26
  go_wp2
  go_quiet (fail)
  go_wp2
  go_quiet (fail)
  go_wp2
  go_ret
  refine ⟨_,rfl,g,i,⟨p+1, ?_⟩, ?_⟩
  ·rw[show ((p:Int)+1)=((p+1 :Nat):Int) from by omega];exact (h.after (below_drewN (Below.refl (R+1) w) _) (by omega)).step hp
  ·exact (Ak.drewN w _).trans (Ak.setCell _ ⟨R,1,none⟩ _ (Nat.le_refl R) (Nat.lt_succ_self R))
 ·have j:(n:Int)≤(p:Int):=by omega
  go_enter Tryz.func26,Tryz.ntmps26
  go_wp2
  go_quiet (fail)
  go_wp2
  go_ret
  exact ⟨_,rfl,by omega,by omega,⟨p,h.after (below_drewN (Below.refl (R+1) w) _) (by omega)⟩,Ak.drewN w _⟩
theorem CE.after {w w':World}{B R:Nat}{a:Option Addr}{n c:Nat}(h:CE w R a n c)(b:Below B w w')(d:R < B):CE w' R a n c:=by
 obtain ⟨p,h⟩:=h;exact ⟨p,h.after b d⟩
theorem CE.lt {w:World}{R:Nat}{a:Option Addr}{n c:Nat}(h:CE w R a n c):R < w.heap.size:=by
 obtain ⟨p,h⟩:=h;exact h.row.lt
theorem Aae (w:World)(k:Nat)(hk:k < 8):∃ s:ByteArray,s.size≤10∧(w.alloc (.cells #[.string ⟨#[114,101,97,100]⟩,.string ⟨#[119,114,105,116,101]⟩,.string ⟨#[97,100,109,105,110]⟩,.string ⟨#[109,97,105,108]⟩,.string ⟨#[97]⟩,.string ⟨#[98]⟩,.string ⟨#[99,46,100]⟩,.string ⟨#[122,95,57]⟩] 9)).cell? ⟨w.heap.size,k,none⟩=some (.string s):=by
 have h:=(Am.new w #[.string ⟨#[114,101,97,100]⟩,.string ⟨#[119,114,105,116,101]⟩,.string ⟨#[97,100,109,105,110]⟩,.string ⟨#[109,97,105,108]⟩,.string ⟨#[97]⟩,.string ⟨#[98]⟩,.string ⟨#[99,46,100]⟩,.string ⟨#[122,95,57]⟩] 9).cell k
 match k,hk with
 | 0,_=>exact ⟨_,by decide,h⟩
 | 1,_=>exact ⟨_,by decide,h⟩
 | 2,_=>exact ⟨_,by decide,h⟩
 | 3,_=>exact ⟨_,by decide,h⟩
 | 4,_=>exact ⟨_,by decide,h⟩
 | 5,_=>exact ⟨_,by decide,h⟩
 | 6,_=>exact ⟨_,by decide,h⟩
 | 7,_=>exact ⟨_,by decide,h⟩
def Aaf (R:Nat) (a:Option Addr) (n c:Nat) (w:World) (e:Ending) (w':World):Prop:=
 ∃ s:ByteArray,e= .returned (.string s)∧s.size≤1000∧CE w' R a n c∧Ak R (R+1) w w'
theorem Mk (R:Nat)(a:Option Addr)(n c:Nat)(w:World)(h:CE w R a n c):
  Calls Tryz.prog 140 #[.pointer (some ⟨R,0,none⟩)] w fun e w'=>Aaf R a n c w e w':=by
 go_enter Tryz.func140,Tryz.ntmps140
 go_wp2_with fail
 refine (BJ R a n c w h).mono ?_;rintro e i ⟨x,rfl,A,B,h1,b⟩;by_cases f:x % 8=6
 ·have l:(x % 8== 6)=true:=zI.2 f;clear f;go_wp2_with fail
  refine (BJ R a n c _ h1).mono ?_;rintro e o ⟨y,rfl,p,q,h2,g⟩;go_wp2_with fail
  refine (Dp _ _ (by omega) (by omega)).mono ?_;rintro e r ⟨rfl,d⟩;have t:=Ed (x / 8).toNat;have C:(⟨#[115]⟩:ByteArray).size=1:=rfl;have E:(⟨#[58]⟩:ByteArray).size=1:=rfl;go_wp2_with fail
  refine (Dp _ _ (by omega) (by omega)).mono ?_;rintro e F ⟨rfl,m⟩;have H:=Ed y.toNat;have j:=h2.lt;go_wp2_with fail
  go_ret
  refine ⟨_,rfl, ?_,(h2.after d j).after m (zY j d.size),((b.trans g).then_below d (zL b.size g.size)).then_below m (zL (zL b.size g.size) d.size)⟩;rw[Ar,Ar,Ar];omega
 by_cases k:x % 8=7
 ·have l:(x % 8== 6)=false:=zA.2 f;have u:(x % 8== 7)=true:=zI.2 k;clear f k;by_cases v: 240 < x
  ·go_wp2_with fail
   go_ret
   exact ⟨_,rfl,by decide,h1,b⟩
  ·have I: ¬ (240 < x):=v;go_wp2_with fail
   refine (BJ R a n c _ h1).mono ?_;rintro e o ⟨y,rfl,p,q,h2,g⟩;go_wp2_with fail
   refine (Dp _ _ (by omega) (by omega)).mono ?_;rintro e r ⟨rfl,d⟩;have t:=Ed (y % 90).toNat;have j:=h2.lt;go_wp2_with fail
   go_ret
   refine ⟨_,rfl, ?_,h2.after d j,(b.trans g).then_below d (zL b.size g.size)⟩;rw[Ar];have:(⟨#[120,46]⟩:ByteArray).size=2:=rfl;omega
 have l:(x % 8== 6)=false:=zA.2 f;have u:(x % 8== 7)=false:=zA.2 k;clear f k;obtain ⟨s,hs,hc⟩:=Aae i (x / 8 % 8).toNat (by omega);have z:=h1.lt;go_wp2_with fail
 go_ret
 exact ⟨s,rfl,by omega,h1.after ((Below.refl i.heap.size i).alloc NLN _) z,b.then_below ((Below.refl i.heap.size i).alloc NLN _) b.size⟩
set_option maxHeartbeats 3200000
structure DQ (w:World) (base:Nat) (x:Option Addr) (K:List ByteArray) (cx:Nat):Prop where
 own:w.ownsRow base 9 1 (.slice x K.length cx) K.length (K.map Value.string)
 small:∀ s∈K,s.size≤1000
theorem DQ.sizes {w:World}{b c:Nat}{x:Option Addr}{K:List ByteArray}(h:DQ w b x K c):∀ j,j < K.length→(D0 K j).size≤maxLen:=fun j a=>by
 rw[Cw K j a];have:=h.small _ (zP a);unfold maxLen;omega
theorem DQ.strs {w:World}{b a:Nat}{x:Option Addr}{K:List ByteArray}(h:DQ w b x K a):BL w x K.length a K:=BL.of_owns h.own h.sizes
theorem DQ.nil (w:World)(a:Nat):DQ w a none [] 0:=⟨World.ownsRow_nil _ _ _ _,by simp⟩
theorem DQ.touch {w w':World}{a lo hi b:Nat}{x:Option Addr}{K:List ByteArray}(h:DQ w a x K b)(t:Ak lo hi w w')(c:hi≤a):DQ w' a x K b:=
 ⟨IW h.own (fun y hy=>by subst hy;have:=h.own.lt _ rfl;exact t.block _ this.2 (.inr (by omega))),h.small⟩
theorem DQ.below {w w':World}{a B b:Nat}{x:Option Addr}{K:List ByteArray}(h:DQ w a x K b)(c:Below B w w')(d:w.heap.size≤B):DQ w' a x K b:=
 ⟨IW h.own (fun y hy=>by subst hy;have:=h.own.lt _ rfl;exact c.block _ (by omega)),h.small⟩
def Vp (w:World) (m:Nat) (e:Ending) (w':World):Prop:=∃ x cx K,e= .returned (.slice x K.length cx)∧K.length≤m∧DQ w' w.heap.size x K cx∧Below w.heap.size w w'
theorem TO (m:Nat)(f:Int)(w:World)(hm:m≤100)(F: 0≤f)(f1:f≤200):
  Calls Tryz.prog 31 #[.int .i64 m,.int .i64 f] w fun e w'=>Vp w m e w':=by
 obtain ⟨i,hi,p,q,r⟩:=info_parts Mf;go_enter Tryz.func31,Tryz.ntmps31
 go_wp2_with fail
 go_loopw [5,6] (fun v c wr=>∃ (k:Nat) (K:List ByteArray) (x:Option Addr) (a:Nat),k≤m∧c= .int .i64 k∧v= .slice x K.length a∧K.length≤k∧DQ wr w.heap.size x K a∧Below w.heap.size w wr) (fun _ c _=>m - (intOf c).toNat)
 case atStart=>exact ⟨0, [],none,0,zN _,rfl,rfl,NLN,DQ.nil _ _,BRN⟩
 case round=>
  obtain ⟨k,K,x,a,hk,rfl,rfl,H,d,b⟩:=hrel;by_cases I:k < m
  ·have t:(k:Int) < (m:Int):=by omega
   go_wp2_with fail
   refine (Dp _ _ (by omega) (by omega)).mono ?_;rintro e y ⟨rfl,g⟩;have J:=Ed (f+(k:Int)).toNat;have L:(⟨#[119]⟩:ByteArray).size=1:=rfl;have j:=b.trans (g.mono b.size);have l:=d.below g NLN;have n:=l.own;have z:=j.size;clear d g b;go_wp2_with (at_builtin;refine wpList_append_own _ rfl _ _ 47 rfl w.heap.size 9 i (.string ByteArray.empty) 1 16 Tryz.underlying47 hi p q r rfl (by decide) _ _ _ rfl (n.alloc _) ⟨y.heap.size,0,none⟩ 1 1 [.string (⟨#[119]⟩ ++Jr (f+(k:Int)).toNat)] rfl rfl ?c1 ?c2 ?c3 ?c4 ?c5 ?_)
   case c1=>exact cell_one_new _ _ _
   case c2=>intro u hu;simp at hu;subst hu;rfl
   case c3=>unfold maxLen;omega
   case c4=>omega
   case c5=>simp;omega
   intro M A h o _;have B:Below w.heap.size w A:=(j.alloc z _).grown o (by simp;omega) (fun k hk=>(n.lt k hk).1);obtain ⟨C,E,hf⟩:=DH h;rw[hf] at h ⊢;clear o hf;go_wp2
   go_roundw
   case rel=>exact ⟨k+1,K ++ [⟨#[119]⟩ ++Jr (f+(k:Int)).toNat],C,E,by omega,by go_num,by rw[zB];rfl,by simp;omega,⟨by rw[zl,zB];exact h,fun s hs=>by
    rcases zH.1 hs with hs | hs
    ·exact l.small s hs
    ·simp only[zJ] at hs;subst hs;rw[Ar];omega⟩,B⟩
   case measure=>simp[intOf] <;> omega
  ·have t: ¬ ((k:Int) < (m:Int)):=by omega
   go_wp2
   go_ret
   exact ⟨x,a,K,rfl,by omega,d,b⟩
theorem Ml (m f:Int)(w:World)(m0: 0≤m)(hm:m≤100)(a: 0≤f)(f1:f≤200):
  Calls Tryz.prog 31 #[.int .i64 m,.int .i64 f] w fun e w'=>Vp w m.toNat e w':=by
 obtain ⟨k,rfl⟩:=Int.eq_ofNat_of_zero_le m0;exact TO k f w (by omega) a f1
def Aag (R:Nat) (a:Option Addr) (n c:Nat) (w:World) (top:Nat) (e:Ending) (w':World):Prop:=
 ∃ x cx K,e= .returned (.slice x K.length cx)∧K.length≤top∧DQ w' w.heap.size x K cx∧CE w' R a n c∧Ak R (R+1) w w'
theorem Js {K M:List ByteArray}(h:Cl K M)(hs:∀ s∈K,s.size≤1000):∀ s∈M,s.size≤1000:=fun s hm=>hs s ((h.mem s).1 hm)
theorem Vq (R:Nat)(a:Option Addr)(n c:Nat)(w:World)(h:CE w R a n c):
  Calls Tryz.prog 141 #[.pointer (some ⟨R,0,none⟩)] w fun e w'=>Aag R a n c w 64 e w':=by
 obtain ⟨i,hi,L,M,N⟩:=info_parts Mf;have O:=h.lt;go_enter Tryz.func141,Tryz.ntmps141
 go_wp2_with fail
 refine (BJ R a n c w h).mono ?_;rintro e P ⟨x,rfl,X,Y,h1,o⟩;clear h;by_cases g:x % 13=12
 ·have Q:(x % 13== 12)=true:=zI.2 g;clear g;go_wp2_with fail
  refine (BJ R a n c P h1).mono ?_;rintro e j ⟨y,rfl,Z,aa,h2,b⟩;have d:=o.trans b;clear h1 o b;go_wp2_with fail
  refine (Ml _ _ _ (by omega) (by omega) (by omega) (by omega)).mono ?_;rintro e B ⟨ab,c3,ac,rfl,ad,C,b3⟩;go_wp2_with fail
  refine (EI _ _ _ _ _ C.strs (by omega)).mono ?_;rintro e S ⟨p,c4,q,rfl,r,b4,f⟩;have E:=b3.trans (b4.mono b3.size);have hl:=f.len;go_wp2_with fail
  go_ret
  exact ⟨p,c4,q,rfl,by omega,⟨OG r (zL d.size b3.size),Js f C.small⟩,h2.after E h2.lt,d.then_below E d.size⟩
 ·have Q:(x % 13== 12)=false:=zA.2 g;clear g;go_wp2_with fail
  go_loopw [4,5] (fun v t wr=>∃ (k:Int) (K:List ByteArray) (y:Option Addr) (z:Nat),0≤k∧k≤6∧(K.length:Int)+k≤6∧t= .int .i64 k∧v= .slice y K.length z∧DQ wr w.heap.size y K z∧CE wr R a n c∧Ak R (R+1) w wr) (fun _ t _=>(intOf t).toNat)
  case atStart=>exact ⟨x % 13 % 7, [],none,0,by omega,by omega,by simp;omega,rfl,rfl,DQ.nil _ _,h1,o⟩
  case round=>
   obtain ⟨k,K,y,z,ae,af,ag,rfl,rfl,l,m,ht⟩:=hrel;by_cases hk: 0 < k
   ·go_wp2_with fail
    refine (Mk R a n c wr m).mono ?_;rintro e j ⟨s,rfl,T,h2,b⟩;have F:=l.touch b (by omega);have d:=ht.trans b;have H:=F.own;have U:=d.size;clear l m ht b;go_wp2_with (at_builtin;refine wpList_append_own _ rfl _ _ 47 rfl w.heap.size 9 i (.string ByteArray.empty) 1 16 Tryz.underlying47 hi L M N rfl (by decide) _ _ _ rfl (H.alloc _) ⟨j.heap.size,0,none⟩ 1 1 [.string s] rfl rfl ?c1 ?c2 ?c3 ?c4 ?c5 ?_)
    case c1=>exact cell_one_new _ _ _
    case c2=>intro u hu;simp at hu;subst hu;rfl
    case c3=>unfold maxLen;omega
    case c4=>omega
    case c5=>simp;omega
    intro ah B A I _;have J:Below w.heap.size j B:=((Below.refl w.heap.size j).alloc U _).grown I (by simp;omega) (fun k hk=>(H.lt k hk).1);obtain ⟨V,W,hf⟩:=DH A;rw[hf] at A ⊢;clear I hf;go_wp2
    go_roundw
    case rel=>exact ⟨k - 1,K ++ [s],V,W,by omega,by omega,by simp;omega,by go_num,by rw[zB];rfl,⟨by rw[zl,zB];exact A,fun u hu=>by
     rcases zH.1 hu with hu | hu
     ·exact F.small u hu
     ·simp only[zJ] at hu;subst hu;exact T⟩,h2.after J O,d.then_below J NLN⟩
    case measure=>simp[intOf] <;> omega
   ·have ai: ¬ (0 < k):=hk;have aj:K.length≤6:=by omega
    go_wp2_with fail
    refine (EI _ _ _ _ _ l.strs (by omega)).mono ?_;rintro e S ⟨p,c4,q,rfl,r,b4,f⟩;have hl:=f.len;go_wp2_with fail
    go_ret
    exact ⟨p,c4,q,rfl,by omega,⟨OG r ht.size,Js f l.small⟩,m.after b4 m.lt,ht.then_below b4 ht.size⟩
end Go.Proofs.YtffkofkjpckmpaaGreatDoor
