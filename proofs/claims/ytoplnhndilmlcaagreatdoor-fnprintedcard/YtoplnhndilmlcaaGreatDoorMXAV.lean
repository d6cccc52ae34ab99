/-
  QD, QE, QF, QP, TP, TQ, TG, TH, TR, TT. Own work.
-/
import Derived.Test.YtoplnhndilmlcaaGreatDoorMXAJ
import Derived.Test.YtoplnhndilmlcaaGreatDoorMXAG
import Derived.Test.YtoplnhndilmlcaaGreatDoorMXAD
import Derived.Test.YtoplnhndilmlcaaGreatDoorMXAB
import Derived.Deep.RegionWith
import Derived.Test.YtoplnhndilmlcaaGreatDoorMXAK
import Derived.Lib.SmallJoins
import Derived.Deep.Onto
import Derived.Test.YtoplnhndilmlcaaGreatDoorShelf
import Derived.Lib.IndexLaws
namespace Go.Proofs.YtoplnhndilmlcaaGreatDoor
set_option maxRecDepth 100000
set_option maxHeartbeats 2000000
open Go.RowKit
set_option linter.unusedVariables false
def CV:List ByteArray→ByteArray
 | []=>⟨#[]⟩
 | x ::r=>x ++CV r
theorem JP (x:ByteArray):∀ (l:List ByteArray),CV (l ++ [x])=CV l ++x
 | []=>by simp[CV,Fl,DV]
 | y ::r=>by rw[List.cons_append,CV,CV,JP x r,ByteArray.append_assoc]
theorem Rh:∀ (l m:List ByteArray),CV (l ++m)=CV l ++CV m
 | [],m=>by simp[CV,Fl]
 | y ::r,m=>by rw[List.cons_append,CV,CV,Rh r m,ByteArray.append_assoc]
theorem V7 (l:List ByteArray)(k:Nat)(h:k < l.length):(CV (l.take k)).size+l[k].size≤(CV l).size:=by
 have e:l=l.take k ++(l[k] ::l.drop (k+1)):=by rw[List.getElem_cons_drop,List.take_append_drop]
 have e2:=congrArg (fun x=>(CV x).size) e;simp only[Rh,CV,ByteArray.size_append] at e2;omega
theorem AbZ (a b c:ByteArray):CV [a,b,c]=a ++b ++c:=by simp[CV,DV,ByteArray.append_assoc]
theorem Ab0 (a:ByteArray):CV [a]=a:=by simp[CV,DV]
theorem Ok (B b g:Nat)(a:List ByteArray)(n:Nat)(o:n=a.length)(acc:ByteArray)(w:World)(h:Pr B b acc w)(R:Aj w g (a.map Value.string).toArray 9)(t:g≠b)(y:acc.size+(CV a).size≤140737488355328)(hm:n≤1000):
  Calls Tryz.prog 28 #[.pointer (some ⟨b,0,none⟩),.slice (some ⟨g,0,none⟩) n n] w fun e w'=>e= .returned (.tuple #[])∧Pr B b (acc ++CV a) w'∧Kp B b w w':=by
 have p:=Ab o;clear o;go_enter Tryz.func28,Tryz.ntmps28
 go_wp2_with fail
 go_loopw [8] (fun i wr=>∃ k:Nat,k≤n∧i= .int .i64 k∧Pr B b (acc ++CV (a.take k)) wr∧Kp B b w wr) (fun i _=>n - (intOf i).toNat)
 case atStart=>exact ⟨0,Nat.zero_le _,rfl,by rw[List.take_zero,CV,DV];exact h,Kp.refl _ _ _⟩
 case round=>
  obtain ⟨k,hk,rfl,j,c⟩:=hrel;by_cases l:k < n
  ·have z:(k:Int) < (n:Int):=by omega
   have d:k < a.length:=by rw[← Aa p];exact l
   have m:=c.row R t (by decide);have u:wr.cell? ⟨g,k,none⟩=some (.string a[k]):=by
    have:=m.cell k;rw[this];simp[d]
   have q:=Ab (V7 a k d);have f:=Ab (show acc ++CV (a.take (k+1))=acc ++CV (a.take k) ++a[k] by rw[List.take_succ_eq_append_getElem d,JP,ByteArray.append_assoc]);have r:=Ab l;generalize a[k]=s at u q f;have A:=h.le.2;have C:=m.lt;have zs:=c.size;clear m l d;go_wp2_with (go_at_call 61;refine (KL B b _ s _ j (by have:=Aa q;rw[ByteArray.size_append];omega)).mono ?_)
   rintro e E ⟨rfl,v,x⟩;go_wp2_with fail
   go_roundw
   case rel=>exact ⟨k+1,Aa r,by go_num,by rw[Aa f];exact v,c.trans x⟩
   case measure=>have:=Aa r;simp[intOf];omega
  ·have e:k=n:=by omega
   subst e;have f:=Ab (show a.take k=a by rw[Aa p,List.take_length]);go_wp2_with fail
   go_end0
   rw[Aa f] at j;exact ⟨rfl,j,c⟩
theorem Kp.alloc0 {B b:Nat}(w:World)(a:Obj)(c:B≤w.heap.size):Kp B b w (w.alloc a):=⟨(Below.refl B w).alloc c a,(Lib.OthersKept.refl _ _ w).alloc a⟩
theorem Pr.alloc {B b:Nat}{acc:ByteArray}{w:World}(h:Pr B b acc w)(a:Obj):Pr B b acc (w.alloc a):=h.below ((Below.refl _ w).alloc NLN a)
theorem Ck (B b:Nat)(s acc:ByteArray)(w:World)(h:Pr B b acc w)(c:acc.size+s.size≤140737488355328):
  Calls Tryz.prog 28 #[.pointer (some ⟨b,0,none⟩),.slice (some ⟨w.heap.size,0,none⟩) 1 1] (w.alloc (.cells #[.string s] 9)) fun e w'=>e= .returned (.tuple #[])∧Pr B b (acc ++s) w'∧Kp B b w w':=by
 have f:=h.le;refine (Ok B b w.heap.size [s] 1 rfl acc _ (h.alloc _) (Aj.new w #[.string s] 9) (by omega) (by rw[Ab0];exact c) (by decide)).mono ?_;rintro e w' ⟨rfl,a,d⟩;exact ⟨rfl,by rw[Ab0] at a;exact a,(Kp.alloc0 w _ (by omega)).trans d⟩
theorem Mp (B b:Nat)(s t u acc:ByteArray)(w:World)(h:Pr B b acc w)(c:acc.size+(s.size+t.size+u.size)≤140737488355328):
  Calls Tryz.prog 28 #[.pointer (some ⟨b,0,none⟩),.slice (some ⟨w.heap.size,0,none⟩) 3 3] (w.alloc (.cells #[.string s,.string t,.string u] 9)) fun e w'=>e= .returned (.tuple #[])∧Pr B b (acc ++(s ++t ++u)) w'∧Kp B b w w':=by
 have f:=h.le;refine (Ok B b w.heap.size [s,t,u] 3 rfl acc _ (h.alloc _) (Aj.new w #[.string s,.string t,.string u] 9) (by omega) (by rw[AbZ,ByteArray.size_append,ByteArray.size_append];exact c) (by decide)).mono ?_;rintro e w' ⟨rfl,a,d⟩;exact ⟨rfl,by rw[AbZ] at a;exact a,(Kp.alloc0 w _ (by omega)).trans d⟩
theorem Tu (B b:Nat)(acc:ByteArray)(w:World)(h:Pr B b acc w)(h0:acc.size≠0):
  Calls Tryz.prog 14 #[.pointer (some ⟨b,0,none⟩)] w fun e w'=>e= .returned (.string acc)∧Below B w w':=by
 obtain ⟨p,q,v,f,d,s⟩:=h.at;rw[Lib.strCells_length] at d;obtain ⟨g,cap,a,rfl,i,k,t,l,u,y⟩:∃ g cap a,v= .slice (some ⟨g,0,none⟩) acc.size cap∧B≤g∧w.heap[g]? =some (.cells a 5 (0,0))∧acc.size≤cap∧cap≤maxLen∧a.size=cap * 1∧a.toList.take (acc.size * 1)=Lib.strCells acc:=by
  rcases d.2 with ⟨_,m⟩ | ⟨g,cap,a,n,r⟩
  ·exact absurd m h0
  ·exact ⟨g,cap,a,n,r⟩
 have c1:w.drew.cell? ⟨b,1,none⟩=some (.slice (some ⟨g,0,none⟩) acc.size cap):=by
  have:w.drew.heap[b]? =some (.cells #[p,.slice (some ⟨g,0,none⟩) acc.size cap] 41 (0,0)):=f;rw[Lib.cell_of_heap this];rfl
 have z:(Builtin.unsafeSliceData_ #[22] 77 #[.slice (some ⟨g,0,none⟩) acc.size cap]).run Tryz.prog w.drew= .ok (.pointer (some ⟨g,0,none⟩)) w.drew:=
  Lib.run_unsafeSliceData_row _ _ _ _ _ _ (by omega)
 have A:(Builtin.unsafeString_ #[77,3] 9 #[.pointer (some ⟨g,0,none⟩),.int .i64 acc.size]).run Tryz.prog w.drew= .ok (.string acc) (w.drew.freeze ⟨g,0,none⟩ acc.size):=by
  have c:acc.data.toList.length=acc.size:=by simp
  have:=Lib.run_unsafeString_row w.drew 77 3 9 5 Tryz.underlying77 V6 g a.size (by have o:w.drew.heap[g]? =some (.cells a 5 (0,0)):=k;simp[World.shape?,o]) acc.data.toList (fun e=>h0 (by rw[← c,e];rfl)) (by rw[c];omega) (by rw[c];unfold maxLen at l;omega) (fun j x hx=>d.cells (g:=g) rfl j (.int .u8 x.toNat) (by simp[Lib.strCells,hx]));rw[c] at this;exact this
 go_enter Tryz.func14,Tryz.ntmps14
 go_wp2
 go_region
 all_goals (go_wp2;go_ret;exact ⟨rfl,Lib.below_freeze (Below.drew (Below.refl B w)) (p:=⟨g,0,none⟩) i _⟩)
set_option maxHeartbeats 6400000
theorem Abj:∀ k,k < 16→(DZ k).lv=Bi (DZ k).op∧(DZ k).text=Bo (DZ k).op
 | 0,_=>⟨rfl,rfl⟩
 | 1,_=>⟨rfl,rfl⟩
 | 2,_=>⟨rfl,rfl⟩
 | 3,_=>⟨rfl,rfl⟩
 | 4,_=>⟨rfl,rfl⟩
 | 5,_=>⟨rfl,rfl⟩
 | 6,_=>⟨rfl,rfl⟩
 | 7,_=>⟨rfl,rfl⟩
 | 8,_=>⟨rfl,rfl⟩
 | 9,_=>⟨rfl,rfl⟩
 | 10,_=>⟨rfl,rfl⟩
 | 11,_=>⟨rfl,rfl⟩
 | 12,_=>⟨rfl,rfl⟩
 | 13,_=>⟨rfl,rfl⟩
 | 14,_=>⟨rfl,rfl⟩
 | 15,_=>⟨rfl,rfl⟩
 | n+16,h=>absurd h (by omega)
theorem EQ (op:Int)(w:World)(m:Cw w)(r: 11≤op∧op≤26):
  Calls Tryz.prog 101 #[.int .i64 op] w fun e w'=>e= .returned (.tuple #[.agg #[.int .i64 op,.int .i64 (Bi op),.string (Bo op)],.bool true])∧Below w.heap.size w w':=by
 have z:=m.lt;have hc:=m.cells;have A:=Ab r;clear m r;have s:=Ab (show ∀ k,(w.alloc (.cells #[.int .i64 0,.int .i64 0,.string ⟨#[]⟩] 187)).cell? ⟨10,k,none⟩=Eh[k]? from fun k=>(World.cell?_alloc_lt _ _ ⟨10,k,none⟩ z).trans (hc k));clear hc;have t:=(Below.refl w.heap.size w).alloc NLN (.cells #[.int .i64 0,.int .i64 0,.string ⟨#[]⟩] 187);have u:=Aj.new w #[.int .i64 0,.int .i64 0,.string ⟨#[]⟩] 187;go_enter Tryz.func101,Tryz.ntmps101
 go_wp2_with (refine Ds rfl 212 _ rfl 10 rfl Eh _ (Aa s) Tryz.underlying212 rfl (by kernel_rfl) ?_)
 clear s;go_loopw [7] (fun i wr=>∃ k:Nat,k≤16∧i= .int .i64 k∧Below w.heap.size w wr∧Aj wr w.heap.size #[.int .i64 0,.int .i64 0,.string ⟨#[]⟩] 187∧∀ j,j < k→(DZ j).op≠op) (fun i _=>16 - (intOf i).toNat)
 case atStart=>exact ⟨0,by omega,rfl,t,u,fun j h=>absurd h (by omega)⟩
 case round=>
  obtain ⟨k,hk,rfl,n,d,v⟩:=hrel;have o:=Ab v;clear v t u;by_cases f:k < 16
  ·have M:(k:Int) < 16:=by omega
   have q:=Ab (IL k f);have c:=Ab (Abj k f);have g:=Ab f;have N:=d.lt;have l:=Ab (show (DZ k).op≠op→∀ j,j < k+1→(DZ j).op≠op from fun e j x=>by
    by_cases B:j=k
    ·subst B;exact e
    ·exact Aa o j (by omega))
   clear o f;generalize DZ k=a at q l c;have C:=n.alloc n.size (.cells #[.int .i64 a.op,.int .i64 a.lv,.string a.text] 187);have E:=d.alloc (.cells #[.int .i64 a.op,.int .i64 a.lv,.string a.text] 187);have O:=Aj.new wr #[.int .i64 a.op,.int .i64 a.lv,.string a.text] 187;by_cases b:a.op=op
   ·have F:(a.op== op)=true:=beq_iff_eq.2 b;have H:=Ab (show (Value.agg #[.int .i64 a.op,.int .i64 a.lv,.string a.text])= .agg #[.int .i64 op,.int .i64 (Bi op),.string (Bo op)] by rw[← b,← (Aa c).1,← (Aa c).2]);clear b c l;obtain ⟨P,Q,q2,R⟩:=Gt d;go_wp2_with (refine Be rfl 212 _ _ rfl Eh rfl k rfl 16 187 Tryz.underlying212 (Aa g) _ Tryz.underlying187 rfl 3 (by kernel_rfl) _ (Aa q) ?_)
    have I:Aj _ w.heap.size #[.int .i64 a.op,.int .i64 a.lv,.string a.text] 187:=(((d.set 0 (.int .i64 a.op)).set 1 (.int .i64 a.lv)).set 2 (.string a.text)).alloc (.cells #[.int .i64 a.op,.int .i64 a.lv,.string a.text] 187);have y:=(((n.setCell (p:=⟨w.heap.size,0,none⟩) NLN (.int .i64 a.op)).setCell (p:=⟨w.heap.size,1,none⟩) NLN (.int .i64 a.lv)).setCell (p:=⟨w.heap.size,2,none⟩) NLN (.string a.text))
    have J:=y.alloc y.size (.cells #[.int .i64 a.op,.int .i64 a.lv,.string a.text] 187);obtain ⟨K,g1,g2,S⟩:=Gt I;exact bodyPost_ret (IM Tryz.results101 rfl rfl K g1 g2) rfl ⟨by rw[← Aa H];rfl,J⟩
   ·have F:(a.op== op)=false:=beq_eq_false_iff_ne.2 b;have L:=Ab (Aa l b);clear b c l;go_wp2_with (refine Be rfl 212 _ _ rfl Eh rfl k rfl 16 187 Tryz.underlying212 (Aa g) _ Tryz.underlying187 rfl 3 (by kernel_rfl) _ (Aa q) ?_)
    go_roundw
    case rel=>exact ⟨k+1,Aa g,by go_num,C,E,Aa L⟩
    case measure=>have:=Aa g;simp[intOf];omega
  ·have e:k=16:=by omega
   subst e;obtain ⟨j,x,e⟩:=Ri op (Aa A);exact absurd e (Aa o j x)
theorem Mr (op:Int)(w:World)(a: 8≤op∧op≤10):
  Calls Tryz.prog 100 #[.int .i64 op] w fun e w'=>e= .returned (.int .i64 (Bi op))∧w'=w:=by
 have:op=8∨op=9∨op=10:=by omega
 rcases this with rfl | rfl | rfl
 ·go_enter Tryz.func100,Tryz.ntmps100
  go_wp2
  go_ret
  exact ⟨rfl,rfl⟩
 ·go_enter Tryz.func100,Tryz.ntmps100
  go_wp2
  go_ret
  exact ⟨rfl,rfl⟩
 ·go_enter Tryz.func100,Tryz.ntmps100
  go_wp2
  go_ret
  exact ⟨rfl,rfl⟩
theorem BR (e:Ex)(y w:World)(d:Cw w)(hf:e.fit y):
  Calls Tryz.prog 62 #[e.val] w fun r w'=>r= .returned (.int .i64 (Bi e.op))∧Below w.heap.size w w':=by
 cases e with
 | int i n=>
  simp only[Ex.val,Ex.op];have f:=Ah (S:=130) (T:=149) Tryz.underlying149 Tryz.zeroValue149 (by decide) 45;have a1:=Ah (S:=130) (T:=143) Tryz.underlying143 Tryz.zeroValue143 (by decide) 45;have a2:=Ah (S:=130) (T:=146) Tryz.underlying146 Tryz.zeroValue146 (by decide) 45;clear hf d;go_enter Tryz.func62,Tryz.ntmps62
  go_wp2
  go_ret
  exact ⟨rfl,BRN⟩
 | text i s=>
  simp only[Ex.val,Ex.op];have f:=Ah (S:=133) (T:=149) Tryz.underlying149 Tryz.zeroValue149 (by decide) 45;have a1:=Ah (S:=133) (T:=143) Tryz.underlying143 Tryz.zeroValue143 (by decide) 45;have a2:=Ah (S:=133) (T:=146) Tryz.underlying146 Tryz.zeroValue146 (by decide) 45;clear hf d;go_enter Tryz.func62,Tryz.ntmps62
  go_wp2
  go_ret
  exact ⟨rfl,BRN⟩
 | bool i b=>
  simp only[Ex.val,Ex.op];have f:=Ah (S:=135) (T:=149) Tryz.underlying149 Tryz.zeroValue149 (by decide) 45;have a1:=Ah (S:=135) (T:=143) Tryz.underlying143 Tryz.zeroValue143 (by decide) 45;have a2:=Ah (S:=135) (T:=146) Tryz.underlying146 Tryz.zeroValue146 (by decide) 45;clear hf d;go_enter Tryz.func62,Tryz.ntmps62
  go_wp2
  go_ret
  exact ⟨rfl,BRN⟩
 | set i a n c H=>
  simp only[Ex.val,Ex.op];have f:=Ah (S:=138) (T:=149) Tryz.underlying149 Tryz.zeroValue149 (by decide) 45;have a1:=Ah (S:=138) (T:=143) Tryz.underlying143 Tryz.zeroValue143 (by decide) 45;have a2:=Ah (S:=138) (T:=146) Tryz.underlying146 Tryz.zeroValue146 (by decide) 45;clear hf d;go_enter Tryz.func62,Tryz.ntmps62
  go_wp2
  go_ret
  exact ⟨rfl,BRN⟩
 | name i s=>
  simp only[Ex.val,Ex.op];have f:=Ah (S:=141) (T:=149) Tryz.underlying149 Tryz.zeroValue149 (by decide) 45;have a1:=Ah (S:=141) (T:=143) Tryz.underlying143 Tryz.zeroValue143 (by decide) 45;have a2:=Ah (S:=141) (T:=146) Tryz.underlying146 Tryz.zeroValue146 (by decide) 45;clear hf d;go_enter Tryz.func62,Tryz.ntmps62
  go_wp2
  go_ret
  exact ⟨rfl,BRN⟩
 | attr i n=>exact absurd hf id
 | lett i n=>exact absurd hf id
 | ite i c t e=>
  simp only[Ex.val,Ex.op];clear hf d;obtain ⟨I,J,j⟩:=Ex.form c;obtain ⟨K,L,m⟩:=Ex.form t;obtain ⟨M,N,o⟩:=Ex.form e;rw[j,m,o];clear j m o;have f:=BU (T:=149) Tryz.underlying149 45;go_enter Tryz.func62,Tryz.ntmps62
  go_wp2
  go_ret
  exact ⟨rfl,BRN.alloc NLN _⟩
 | un i op k=>
  have g:=Ab hf.1;simp only[Ex.val,Ex.op];clear hf d;obtain ⟨O,P,p⟩:=Ex.form k;rw[p];clear p;have f:=Ah (S:=143) (T:=149) Tryz.underlying149 Tryz.zeroValue149 (by decide) 45;have a1:=BU (T:=143) Tryz.underlying143 45;go_enter Tryz.func62,Tryz.ntmps62
  go_wp2_with (go_at_call 100;refine (Mr op _ (Aa g)).mono ?_;rintro e w' ⟨rfl,q⟩;rw[q];clear q)
  go_ret
  exact ⟨rfl,BRN.alloc NLN _⟩
 | bin i op l r=>
  have g:=Ab hf.1;simp only[Ex.val,Ex.op];clear hf;obtain ⟨z,A,u⟩:=Ex.form l;obtain ⟨B,C,v⟩:=Ex.form r;rw[u,v];clear u v;have h:=(Below.refl w.heap.size w).alloc NLN (.cells #[.int .i64 i,.int .i64 op,.iface z A,.iface B C] 146);have E:=d.below h NLN;have f:=Ah (S:=146) (T:=149) Tryz.underlying149 Tryz.zeroValue149 (by decide) 45;have a1:=Ah (S:=146) (T:=143) Tryz.underlying143 Tryz.zeroValue143 (by decide) 45;have a2:=BU (T:=146) Tryz.underlying146 45;clear d;go_enter Tryz.func62,Tryz.ntmps62
  go_wp2_with (go_at_call 101;refine (EQ op _ E (Aa g)).mono ?_;rintro e w' ⟨rfl,F⟩)
  go_ret
  have x:=h.trans (F.mono h.size);exact ⟨rfl,x.alloc x.size _⟩
set_option maxHeartbeats 3200000
theorem ZU (B b:Nat)(z:World)(a:Option Addr)(n c:Nat)(d:List ByteArray)(A:Bb z a n c d)(Q:z.heap.size≤B)(Z:n≤64)(hs:∀ x∈d,x.size≤32)
  (acc:ByteArray)(w:World)(R:Below B z w)(h:Pr B b acc w)(aa:acc.size≤100000000000):
  Calls Tryz.prog 65 #[.pointer (some ⟨b,0,none⟩),.slice a n c] w fun e w'=>e= .returned (.tuple #[])∧Pr B b (acc ++Ng d) w'∧Kp B b w w':=by
 have I:=Ab A.len;have q:=Ab hs;have E:(⟨#[123]⟩:ByteArray).size=1:=rfl;clear hs;go_enter Tryz.func65,Tryz.ntmps65
 go_wp2_with fail
 refine (Ck B b _ acc _ h (by rw[E];omega)).mono ?_;rintro e ab ⟨rfl,f,g⟩;go_wp2_with fail
 go_loopw [11] (fun i wr=>∃ k:Nat,k≤n∧i= .int .i64 k∧Pr B b (acc ++⟨#[123]⟩ ++AA true (d.take k)) wr∧Kp B b w wr) (fun i _=>n - (intOf i).toNat)
 case atStart=>exact ⟨0,Nat.zero_le _,rfl,by rw[List.take_zero,AA,DV];exact f,g⟩
 case round=>
  clear f g;obtain ⟨k,hk,rfl,f,g⟩:=hrel;by_cases r:k < n
  ·have ac:(k:Int) < (n:Int):=by omega
   have l:k < d.length:=by rw[← Aa I];exact r
   obtain ⟨ad,ae,rfl,af,J⟩:=(A.below (R.trans g.low) Q).cells k r;have K:DL d k=d[k]:=by simp[DL,List.getD,l]
   rw[K] at J;have L:=Ab (Fm true (d.take k) (fun x hx=>Aa q x (List.mem_of_mem_take hx)));have F:=Ab (show d[k].size≤32 from Aa q _ (List.getElem_mem l));have j:=Ab (show AA true (d.take (k+1))=AA true (d.take k) ++AA (decide (k=0)) [d[k]] by
    rw[List.take_succ_eq_append_getElem l,Ko]
    congr 2
    by_cases e:k=0
    ·subst e;rfl
    ·have:d.take k≠ []:=fun e2=>by have:=congrArg List.length e2;simp at this;rcases this with e3 | e3;omega;subst e3;simp at l
     rw[decide_eq_false e,Bool.true_and,List.isEmpty_eq_false_iff.2 this])
   have t:(AA true (d.take k)).size≤36 * 64:=by have:=Aa L;rw[List.length_take] at this;omega
   have u:=Ab r;generalize d[k]=s at J F j;generalize AA true (d.take k)=v at f j t;have S:(acc ++⟨#[123]⟩ ++v).size≤100000000000+1+36 * 64:=by rw[ByteArray.size_append,ByteArray.size_append,E];omega
   have M:(⟨#[34]⟩:ByteArray).size=1:=rfl;have N:(⟨#[44,32]⟩:ByteArray).size=2:=rfl;clear L l r K t A;have m:=Ab (show ∀ x,acc ++⟨#[123]⟩ ++(v ++x)=acc ++⟨#[123]⟩ ++v ++x from fun x=>ByteArray.append_assoc.symm);generalize acc ++⟨#[123]⟩ ++v=C at f S m;by_cases y:k=0
   ·have T: ¬ ((0 :Int) < (k:Int)):=by omega
    have H:=Ab (show acc ++⟨#[123]⟩ ++AA true (d.take (k+1))=C ++(⟨#[34]⟩ ++s ++⟨#[34]⟩) by rw[Aa j,Aa m,decide_eq_true y];simp[AA,Fl,DV]);clear j m y;go_wp2_with fail
    refine (Mp B b _ _ _ C _ f (by have:=Aa F;rw[M];omega)).mono ?_;rintro e O ⟨rfl,o,p⟩;go_wp2_with fail
    go_roundw
    case rel=>exact ⟨k+1,Aa u,by go_num,by rw[Aa H];exact o,g.trans p⟩
    case measure=>have:=Aa u;simp[intOf];omega
   ·have T:(0 :Int) < (k:Int):=by omega
    have H:=Ab (show acc ++⟨#[123]⟩ ++AA true (d.take (k+1))=C ++⟨#[44,32]⟩ ++(⟨#[34]⟩ ++s ++⟨#[34]⟩) by rw[Aa j,Aa m,decide_eq_false y];simp[AA,DV,ByteArray.append_assoc]);clear j m y;go_wp2_with fail
    refine (Ck B b _ C _ f (by rw[N];omega)).mono ?_;rintro e O ⟨rfl,o,p⟩;go_wp2_with fail
    refine (Mp B b _ _ _ _ _ o (by have:=Aa F;rw[ByteArray.size_append,M,N];omega)).mono ?_;rintro e ag ⟨rfl,U,V⟩;go_wp2_with fail
    go_roundw
    case rel=>exact ⟨k+1,Aa u,by go_num,by rw[Aa H];exact U,(g.trans p).trans V⟩
    case measure=>have:=Aa u;simp[intOf];omega
  ·have e:k=n:=by omega
   subst e;have t:=Fm true d (Aa q);have P:=Aa I;have W:=Ab (show acc ++Ng d=acc ++⟨#[123]⟩ ++AA true d ++⟨#[125]⟩ by rw[Ng];simp only[ByteArray.append_assoc]);have X:(⟨#[125]⟩:ByteArray).size=1:=rfl;have Y:=Ab (show (acc ++⟨#[123]⟩ ++AA true d).size≤100000000000+1+36 * 64 by rw[ByteArray.size_append,ByteArray.size_append,E];omega);rw[show d.take k=d by rw[P,List.take_length]] at f;clear t P q;go_wp2_with fail
   refine (Ck B b _ _ _ f (by have:=Aa Y;rw[X];omega)).mono ?_;rintro e O ⟨rfl,o,p⟩;go_wp2_with fail
   go_end0
   exact ⟨rfl,by rw[Aa W];exact o,g.trans p⟩
set_option maxHeartbeats 800000
theorem TD {k:Nat}(h:k < 10):F7 k=Lc (48+(k:Int)):=by
 have e:(48+(k:Int)).toNat=48+k:=by omega
 unfold F7 Lc;rw[Lib.decDigits,dif_pos h,e];rfl
theorem Yy {k:Nat}(h: 10≤k):F7 k=F7 (k / 10) ++F7 (k % 10):=by
 apply GR;rw[ByteArray.data_append];unfold F7;rw[Lib.decDigits,dif_neg (by omega)]
 conv=>rhs;rw[Lib.decDigits.eq_def (k % 10),dif_pos (by omega)]
 simp
theorem Mv (m:Nat)(x:Int){w:World}{a:Ending→World→Prop}(h:Calls Tryz.prog 32 #[.int .i64 m] w a)(e:x=m):Calls Tryz.prog 32 #[.int .i64 x] w a:=by rw[e];exact h
theorem Wc (k:Nat)(w:World)(hk:k≤9223372036854775807):
  Calls Tryz.prog 32 #[.int .i64 k] w fun e w'=>e= .returned (.string (F7 k))∧Below w.heap.size w w':=by
 induction k using Nat.strongRecOn generalizing w with
 | _ k b=>
  by_cases h:k < 10
  ·have d:(k:Int) < 10:=by omega
   have i:(48+(k:Int)) < 256:=by omega
   have j:=AaA;have a:=Ab (TD h);go_enter Tryz.func32,Tryz.ntmps32
   go_wp2
   go_ret
   exact ⟨by rw[Aa a];rfl,BRN.alloc NLN _⟩
  ·have d:(10 :Int)≤(k:Int):=by omega
   have a:=Ab (Yy (k:=k) (by omega));have l:=G6 (n:=k / 10) (by omega);have o:=G6 (n:=k % 10) (by omega);have Hi:Hid (∀ (m:Nat),m < k→∀ (w:World),m≤9223372036854775807→Calls Tryz.prog 32 #[.int .i64 m] w fun e w'=>e= .returned (.string (F7 m))∧Below w.heap.size w w'):=b;clear b;go_enter Tryz.func32,Tryz.ntmps32
   go_wp2_with fail
   refine (Mv (k / 10) _ (Aa Hi (k / 10) (by omega) w (by omega)) (by omega)).mono ?_;rintro e f ⟨rfl,c⟩;go_wp2_with fail
   refine (Mv (k % 10) _ (Aa Hi (k % 10) (by omega) f (by omega)) (by omega)).mono ?_;rintro e p ⟨rfl,g⟩;go_wp2_with fail
   go_ret
   exact ⟨by rw[Aa a];rfl,c.trans (g.mono c.size)⟩
def jn (first:Bool):List ByteArray→ByteArray
 | []=>⟨#[]⟩
 | x ::r=>(if first then ⟨#[]⟩ else ⟨#[34,44,32,34]⟩) ++x ++jn false r
theorem UQ (x:ByteArray):∀ (f:Bool) (l:List ByteArray),jn f (l ++ [x])=jn f l ++jn (f && l.isEmpty) [x]
 | f, []=>by simp[jn,Fl]
 | f,y ::r=>by
  rw[List.cons_append,jn,jn,UQ x false r,ByteArray.append_assoc];simp[ByteArray.append_assoc]
theorem PG:∀ (f:Bool) (l:List ByteArray),(∀ x∈l,x.size≤32)→(jn f l).size≤36 * l.length
 | f, [],_=>by simp[jn,ByteArray.size]
 | f,x ::r,h=>by
  have h1:=PG false r (fun y hy=>h y (List.mem_cons_of_mem _ hy));have h2:=h x (List.mem_cons_self ..);rw[jn];simp only[ByteArray.size_append,List.length_cons];have:(if f=true then (⟨#[]⟩:ByteArray) else ⟨#[34,44,32,34]⟩).size≤4:=by cases f <;> simp[ByteArray.size]
  omega
theorem Abq:(⟨#[34]⟩:ByteArray) ++⟨#[44,32]⟩ ++⟨#[34]⟩=⟨#[34,44,32,34]⟩:=by decide
theorem Kt:∀ (r:List ByteArray),(⟨#[34]⟩:ByteArray) ++AA false r=jn false r ++⟨#[34]⟩
 | []=>by simp[AA,jn,Fl,DV]
 | x ::r=>by
  have a:=Kt r;rw[AA,jn,← Abq];simp only[Bool.false_eq_true,if_false,ByteArray.append_assoc];rw[a]
theorem TE {c:List ByteArray}(h:c≠ []):(⟨#[123,34]⟩:ByteArray) ++jn true c ++⟨#[34,125]⟩=Ng c:=by
 have e1:(⟨#[123,34]⟩:ByteArray)=⟨#[123]⟩ ++⟨#[34]⟩:=by decide
 have e2:(⟨#[34,125]⟩:ByteArray)=⟨#[34]⟩ ++⟨#[125]⟩:=by decide
 match c,h with
 | x ::r,_=>
  have d:=Kt r;rw[Ng,AA,jn,e1,e2];simp only[if_true,Fl,ByteArray.append_assoc];rw[← ByteArray.append_assoc (a:=(⟨#[34]⟩:ByteArray)) (b:=AA false r),d];simp only[ByteArray.append_assoc]
theorem TG (a:Option Addr)(n c:Nat)(d:List ByteArray)(w:World)(h:Bb w a n c d)(h1:n≤64)(h2:∀ x∈d,x.size≤32):
  Calls Tryz.prog 33 #[.slice a n c,.string ⟨#[34,44,32,34]⟩] w fun e w'=>e= .returned (.string (jn true d))∧w'=w:=by
 have l:=Ab h.len;have m:=Ab h2;have e4:(⟨#[34,44,32,34]⟩:ByteArray).size=4:=rfl;have o:=Ab (fun (x:ByteArray)=>show jn false [x]=⟨#[34,44,32,34]⟩ ++x by simp[jn,DV]);generalize (⟨#[34,44,32,34]⟩:ByteArray)=r at e4 o ⊢;clear h2;go_enter Tryz.func33,Tryz.ntmps33
 go_wp2
 go_loop [5,6,7,10] (fun s _ _ i=>∃ k:Nat,k≤n∧i= .int .i64 k∧s= .string (jn true (d.take k))) (fun _ _ _ i=>n - (intOf i).toNat)
 case atStart=>exact ⟨0,Nat.zero_le _,rfl,rfl⟩
 case round=>
  obtain ⟨k,hk,rfl,rfl⟩:=hrel;have p:=PG true (d.take k) (fun x hx=>Aa m x (List.mem_of_mem_take hx));rw[List.length_take] at p;by_cases t:k < n
  ·obtain ⟨b,z,u,_,hc⟩:=h.cells k t;subst u;have g:k < d.length:=by have:=Aa l;omega
   have v:(DL d k).size≤32:=by rw[Cz _ k g];exact Aa m _ (List.getElem_mem g)
   have f:=Ab (show jn true (d.take (k+1))=jn true (d.take k) ++jn (decide (k=0)) [DL d k] by
    rw[List.take_succ_eq_append_getElem g,UQ,Cz _ k g]
    congr 2
    by_cases e:k=0
    ·subst e;rfl
    ·have:d.take k≠ []:=fun e2=>by have:=congrArg List.length e2;simp at this;rcases this with e3 | e3;omega;subst e3;simp at g
     rw[decide_eq_false e,Bool.true_and,List.isEmpty_eq_false_iff.2 this])
   generalize DL d k=x at hc v f;generalize jn true (d.take k)=q at p f;by_cases h0:k=0
   ·have y: ¬ ((0 :Int) < (k:Int)):=by omega
    have j:=Ab (show jn true (d.take (k+1))=q ++x by rw[Aa f,decide_eq_true h0];simp[jn,Fl,DV]);clear f h0;go_wp2
    go_round
    case rel=>exact ⟨k+1,by omega,by go_num,by rw[Aa j]⟩
    case measure=>simp[intOf];omega
   ·have y:(0 :Int) < (k:Int):=by omega
    have j:=Ab (show jn true (d.take (k+1))=q ++r ++x by rw[Aa f,decide_eq_false h0,Aa o,ByteArray.append_assoc]);clear f h0;go_wp2
    go_round
    case rel=>exact ⟨k+1,by omega,by go_num,by rw[Aa j]⟩
    case measure=>simp[intOf];omega
  ·have e1:d.take k=d:=List.take_of_length_le (by have:=Aa l;omega);rw[e1];go_wp2
   go_ret
   exact ⟨rfl,rfl⟩
theorem TI {s:ByteArray}{j k:Nat}(h:k < s.size)(b:j≤k):Ci ((Al s).drop j) (k - j)=(NY s[k] || decide (s[k]=95)):=by
 have e:((Al s).drop j)[k - j]? =some s[k]:=by
  have a:k < (Al s).length:=by rw[Av];exact h
  rw[List.getElem?_drop,show j+(k - j)=k by omega,List.getElem?_eq_getElem a];rfl
 rw[Ci,e]
theorem RT {s:ByteArray}{j k:Nat}(h:s.size≤k):Ci ((Al s).drop j) (k - j)=false:=by
 have e:((Al s).drop j)[k - j]? =none:=by
  rw[List.getElem?_eq_none];rw[List.length_drop,Av];omega
 rw[Ci,e]
theorem Abw {c:UInt8}(h:(c.toNat:Int)=95):c=95:=UInt8.toNat_inj.1 (by have:(95 :UInt8).toNat=95:=rfl;omega)
theorem Aas {c:UInt8}(h: ¬ (c.toNat:Int)=95): ¬ c=95:=fun e=>h (by rw[e];rfl)
def MG (L:List UInt8) (k:Nat) (c:UInt8):Prop:=∀ i,i < k→L[i]? ≠some c
theorem MG.next {L:List UInt8}{k:Nat}{c x:UInt8}(h:MG L k c)(hx:L[k]? =some x)(a:((c.toNat:Int)==(x.toNat:Int))=false):MG L (k+1) c:=fun i hi e=>by
 by_cases hk:i=k
 ·subst hk;rw[hx] at e;rw[beq_eq_false_iff_ne] at a;exact a (by rw[Option.some.inj e])
 ·exact h i (by omega) e
theorem MG.all {L:List UInt8}{c:UInt8}(h:MG L L.length c):L.contains c=false:=by
 rw[← Bool.not_eq_true,List.contains_iff_mem];intro hm;obtain ⟨i,hi,e⟩:=List.getElem_of_mem hm;exact h i hi (by rw[List.getElem?_eq_getElem hi,e])
theorem Wi {c:UInt8}{r:List UInt8}{k:Int}(h:Dy (c ::r)= .bad k):k=2∨k=3:=by
 rw[Dy] at h;split at h
 ·rw[CJ] at h;split at h <;> first | (cases h;exact .inr rfl) | cases h
 ·split at h
  ·rw[EG] at h;split at h <;> first | (cases h;exact .inr rfl) | cases h
  ·split at h
   ·rw[Du] at h;split at h <;> first | (cases h;exact .inr rfl) | cases h
   ·rw[BM] at h;split at h
    ·cases h
    ·split at h <;> first | (cases h;exact .inl rfl) | cases h
theorem YG (l:List UInt8):(Bg l).size=l.length:=by simp[Bg,ByteArray.size]
theorem Aar:okT []:=fun _ h=>nomatch h
theorem YH {T:List Ae}{x:Ae}(h:okT T)(hx:x.text.size≤maxLen):okT (T ++ [x]):=fun y hy=>by
 rcases List.mem_append.1 hy with k | k
 ·exact h y k
 ·rw[List.mem_singleton.1 k];exact hx
theorem RK {w w':World}{lo n:Nat}{v:Value}{a:List Value}(h:w.ownsRow lo 93 4 v n a)(c:Below w.heap.size w w'):w'.ownsRow lo 93 4 v n a:=by
 refine ⟨h.1, ?_⟩;rcases h.2 with h2 | ⟨g,cap,d,f,h3,b,h4⟩
 ·exact .inl h2
 ·refine .inr ⟨g,cap,d,f,h3, ?_,h4⟩;rw[← b];exact c.block g (Array.getElem?_eq_some_iff.1 b).1
theorem MH {w:World}{lo n:Nat}{v:Value}{a:List Value}(h:w.ownsRow lo 93 4 v n a):∃ x c,v= .slice x n c:=by
 rcases h.2 with ⟨h2,h0⟩ | ⟨g,cap,d,b,_⟩
 ·subst h0;exact ⟨_,_,h2⟩
 ·exact ⟨_,_,b⟩
theorem NM {w:World}{b:Nat}{x:Ae}{t:TypeId}(R:Aj w b #[.int .i64 x.kind,.int .i64 x.num,.string x.text,.int .i64 (x.at_:Int)] t):∀ j u,(JE x)[j]? =some u→w.cell? ((⟨b,0,none⟩:Addr).add j)=some u:=fun j u h=>by
 have a:(⟨b,0,none⟩:Addr).add j=⟨b,j,none⟩:=by by_cases e:j=0 <;> simp[Addr.add,e]
 rw[a,R.cell j,← h];simp[JE]
theorem Uq (x:Ae):∀ u∈JE x,u.oneCell'=true:=fun u h=>by
 simp only[JE,List.mem_cons,List.not_mem_nil,or_false] at h;rcases h with rfl | rfl | rfl | rfl <;> rfl
theorem AaE:(Tryz.prog.info? 93).map (fun i=>(i.zero,i.size,i.bytes))=some (some (.agg #[.int .i64 0,.int .i64 0,.string ByteArray.empty,.int .i64 0]),4,40):=by kernel_rfl
end Go.Proofs.YtoplnhndilmlcaaGreatDoor
namespace Go.Proofs.YtoplnhndilmlcaaGreatDoor
set_option maxHeartbeats 1600000
open Go.RowKit
set_option linter.unusedVariables false
variable {aS aB aT : Addr}
def PW (aS aB aT:Addr):SU→Value
 | .bad c=> .tuple #[.agg #[.int .i64 0,.int .i64 0,.string ⟨#[]⟩,.int .i64 0],.int .i64 0,Il aS aB aT c]
 | .tok k m s w=> .tuple #[.agg #[.int .i64 k,.int .i64 m,.string (Bg s),.int .i64 0],.int .i64 (w:Int),.nilIface]
theorem Cr {d:World}{b:Nat}{f g i j:Value}{t:TypeId}(h:Aj d b #[f,g,i,j] t)(v0 v1 a c:Value):
  ((((d.setCell ⟨b,0,none⟩ v0).setCell ⟨b,1,none⟩ v1).setCell ⟨b,2,none⟩ a).setCell ⟨b,3,none⟩ c).drew.cell? ⟨b,0,none⟩=some v0∧((((d.setCell ⟨b,0,none⟩ v0).setCell ⟨b,1,none⟩ v1).setCell ⟨b,2,none⟩ a).setCell ⟨b,3,none⟩ c).drew.cell? ⟨b,1,none⟩=some v1∧
  ((((d.setCell ⟨b,0,none⟩ v0).setCell ⟨b,1,none⟩ v1).setCell ⟨b,2,none⟩ a).setCell ⟨b,3,none⟩ c).drew.cell? ⟨b,2,none⟩=some a∧((((d.setCell ⟨b,0,none⟩ v0).setCell ⟨b,1,none⟩ v1).setCell ⟨b,2,none⟩ a).setCell ⟨b,3,none⟩ c).drew.cell? ⟨b,3,none⟩=some c:=by
 have R:Aj ((((d.setCell ⟨b,0,none⟩ v0).setCell ⟨b,1,none⟩ v1).setCell ⟨b,2,none⟩ a).setCell ⟨b,3,none⟩ c).drew b #[v0,v1,a,c] t:=⟨(Bj h v0 v1 a c).out⟩
 obtain ⟨k,g1,g2,g3,_⟩:=BX R;exact ⟨k,g1,g2,g3⟩
theorem Eo (aS aB aT:Addr):PW aS aB aT (.bad 3)= .tuple #[.agg #[.int .i64 0,.int .i64 0,.string ⟨#[]⟩,.int .i64 0],.int .i64 0,.iface 256 (.pointer (some aT))]:=rfl
theorem Aat (aS aB aT:Addr):PW aS aB aT (.bad 2)= .tuple #[.agg #[.int .i64 0,.int .i64 0,.string ⟨#[]⟩,.int .i64 0],.int .i64 0,.iface 256 (.pointer (some aB))]:=rfl
theorem PK (r:ByteArray)(w:World)(hs:r.size≤1048576)(S:M3 w aS aB aT):
  Calls Tryz.prog 108 #[.string r] w fun e w'=>e= .returned (PW aS aB aT (CJ (Al r)))∧Below w.heap.size w w':=by
 have l:=Jm DJ (Al r);rw[Av] at l;have d:=Aj.new w #[.int .i64 0,.int .i64 0,.string ⟨#[]⟩,.int .i64 0] 93;have f:=(Below.refl w.heap.size w).alloc NLN (.cells #[.int .i64 0,.int .i64 0,.string ⟨#[]⟩,.int .i64 0] 93);have m:=(S.below f NLN).gT;have p:=S.big;have q:w.heap.size≠5:=by omega
 have s: 5≠w.heap.size:=by omega
 go_enter Tryz.func108,Tryz.ntmps108
 go_wp2_with fail
 generalize w.alloc (.cells #[.int .i64 0,.int .i64 0,.string ⟨#[]⟩,.int .i64 0] 93)=t at d f m ⊢;refine (MI r _ (by unfold maxLen;omega)).mono ?_;rintro e n ⟨rfl,a⟩;rw[a];clear a;obtain ⟨u,d1,d2,d3,v⟩:=BX d;by_cases j: 32 < AN DJ (Al r)
 ·have o:(32 :Int) < (AN DJ (Al r):Int):=by omega
  go_wp2_with fail
  go_region
  go_wp2_with fail
  have g:=Au (b:=w.heap.size) f NLN (.int .i64 0) (.int .i64 0) (.string ⟨#[]⟩) (.int .i64 0);obtain ⟨c,g1,g2,g3⟩:=Cr d (.int .i64 0) (.int .i64 0) (.string ⟨#[]⟩) (.int .i64 0);refine bodyPost_ret (AJ Tryz.results108 rfl c g1 g2 g3) rfl ⟨?_,g.drew⟩;rw[CJ,if_pos j,Eo];rfl
 ·have o: ¬ ((32 :Int) < (AN DJ (Al r):Int)):=by omega
  have y:(AN DJ (Al r):Int)≤(r.size:Int):=by omega
  have k:=Ab (show CJ (Al r)= .tok (if FF ((Al r).take (AN DJ (Al r))) then 4 else 3) 0 ((Al r).take (AN DJ (Al r))) (AN DJ (Al r)) by rw[CJ,if_neg j]);have h:=Ab (show Al (r.extract 0 (AN DJ (Al r)))=(Al r).take (AN DJ (Al r)) by rw[CF,List.drop_zero,Nat.sub_zero]);go_wp2_with fail
  generalize r.extract 0 (AN DJ (Al r))=x at h ⊢;refine (ML x _).mono ?_;rintro e n ⟨rfl,a⟩;rw[a];clear a;cases a:FF (Al x)
  ·have i:=Ab a;clear a;go_wp2_with fail
   have g:=Au (b:=w.heap.size) f NLN (.int .i64 3) (.int .i64 0) (.string x) (.int .i64 0);obtain ⟨c,g1,g2,g3,_⟩:=BX (Bj d (.int .i64 3) (.int .i64 0) (.string x) (.int .i64 0));simp only[EY] at c g1 g2 g3;refine bodyPost_ret (AJ Tryz.results108 rfl c g1 g2 g3) rfl ⟨?_,g⟩;rw[Aa k,← Aa h,Aa i];simp only[PW,Cv];rfl
  ·have i:=Ab a;clear a;go_wp2_with fail
   have g:=Au (b:=w.heap.size) f NLN (.int .i64 4) (.int .i64 0) (.string x) (.int .i64 0);obtain ⟨c,g1,g2,g3,_⟩:=BX (Bj d (.int .i64 4) (.int .i64 0) (.string x) (.int .i64 0));simp only[EY] at c g1 g2 g3;refine bodyPost_ret (AJ Tryz.results108 rfl c g1 g2 g3) rfl ⟨?_,g⟩;rw[Aa k,← Aa h,Aa i];simp only[PW,Cv];rfl
end Go.Proofs.YtoplnhndilmlcaaGreatDoor
namespace Go.Proofs.YtoplnhndilmlcaaGreatDoor
set_option maxHeartbeats 3200000
open Go.RowKit
set_option linter.unusedVariables false
variable {aS aB aT : Addr}
theorem Abx {y:ByteArray}{n:Nat}(h:n < y.size):(Al y)[n]? =some y[n]:=by
 have a:n < (Al y).length:=by rw[Av];exact h
 rw[List.getElem?_eq_getElem a];rfl
theorem MM (r:ByteArray)(w:World)(hs:r.size≤1048576)(h0: 0 < r.size)(S:M3 w aS aB aT):
  Calls Tryz.prog 109 #[.string r] w fun e w'=>e= .returned (PW aS aB aT (Du ((Al r).drop 1)))∧Below w.heap.size w w':=by
 have f:=Aj.new w #[.int .i64 0,.int .i64 0,.string ⟨#[]⟩,.int .i64 0] 93;have g:=(Below.refl w.heap.size w).alloc NLN (.cells #[.int .i64 0,.int .i64 0,.string ⟨#[]⟩,.int .i64 0] 93);have q:=(S.below g NLN).gT;have C:=S.big;have E:w.heap.size≠5:=by omega
 have F: 5≠w.heap.size:=by omega
 have H:(1 :Int)≤(r.size:Int):=by omega
 have l:=Ab (RL r 1);have s:(r.extract 1 r.size).size=r.size - 1:=by rw[ByteArray.size_extract];omega
 go_enter Tryz.func109,Tryz.ntmps109
 go_wp2_with fail
 generalize w.alloc (.cells #[.int .i64 0,.int .i64 0,.string ⟨#[]⟩,.int .i64 0] 93)=I at f g q ⊢;generalize r.extract 1 r.size=y at l s ⊢;have m:=Jm Oc (Al y);rw[Av] at m;refine (YJ y _ (by unfold maxLen;omega)).mono ?_;rintro e J ⟨rfl,o⟩;rw[o];clear o;obtain ⟨K,d1,d2,d3,L⟩:=BX f;have a:=Ab (show Du ((Al r).drop 1)=if 32 < AN Oc (Al y)∨(Al y)[AN Oc (Al y)]? ≠some 34 then .bad 3 else .tok 2 0 ((Al y).take (AN Oc (Al y))) (AN Oc (Al y)+2) by rw[← Aa l];rfl);have j:=Ab (show Al (y.extract 0 (AN Oc (Al y)))=(Al y).take (AN Oc (Al y)) by rw[CF,List.drop_zero,Nat.sub_zero]);generalize AN Oc (Al y)=n at m a j ⊢;by_cases t: 32 < n
 ·have u:(32 :Int) < (n:Int):=by omega
  have a:=Ab ((Aa a).trans (if_pos (.inl t)));go_wp2_with fail
  go_region
  go_wp2_with fail
  have d:=Au (b:=w.heap.size) g NLN (.int .i64 0) (.int .i64 0) (.string ⟨#[]⟩) (.int .i64 0);obtain ⟨c,g1,g2,g3⟩:=Cr f (.int .i64 0) (.int .i64 0) (.string ⟨#[]⟩) (.int .i64 0);exact bodyPost_ret (AJ Tryz.results109 rfl c g1 g2 g3) rfl ⟨by rw[Aa a,Eo];rfl,d.drew⟩
 have u: ¬ ((32 :Int) < (n:Int)):=by omega
 by_cases M:n=y.size
 ·have e:(Al y)[n]? ≠some 34:=by rw[List.getElem?_eq_none (by rw[Av];omega)];simp
  have a:=Ab ((Aa a).trans (if_pos (.inr e)));clear e;have v:((n:Int)==((r.size - 1 :Nat):Int))=true:=beq_iff_eq.2 (by omega);have z:((n:Int)==(y.size:Int))=true:=beq_iff_eq.2 (by omega);go_wp2_with fail
  go_region
  go_wp2_with fail
  have d:=Au (b:=w.heap.size) g NLN (.int .i64 0) (.int .i64 0) (.string ⟨#[]⟩) (.int .i64 0);obtain ⟨c,g1,g2,g3⟩:=Cr f (.int .i64 0) (.int .i64 0) (.string ⟨#[]⟩) (.int .i64 0);exact bodyPost_ret (AJ Tryz.results109 rfl c g1 g2 g3) rfl ⟨by rw[Aa a,Eo];rfl,d.drew⟩
 have A:n < y.size:=by omega
 have N:(n:Int) < (y.size:Int):=by omega
 have O:(n:Int) < ((r.size - 1 :Nat):Int):=by omega
 have v:((n:Int)==((r.size - 1 :Nat):Int))=false:=beq_eq_false_iff_ne.2 (by omega);have z:((n:Int)==(y.size:Int))=false:=beq_eq_false_iff_ne.2 (by omega);have h:=Abx A;by_cases i:(y[n].toNat:Int)=34
 ·have p:y[n]=34:=UInt8.toNat_inj.1 (by have:(34 :UInt8).toNat=34:=rfl;omega);have e: ¬ (32 < n∨(Al y)[n]? ≠some 34):=by rw[h,p];simp;omega
  have a:=Ab ((Aa a).trans (if_neg e));clear e;clear h p;have B:((y[n].toNat:Int)== 34)=true:=beq_iff_eq.2 i;go_wp2_with fail
  generalize y.extract 0 n=x at j ⊢;have d:=Au (b:=w.heap.size) g NLN (.int .i64 2) (.int .i64 0) (.string x) (.int .i64 0);obtain ⟨c,g1,g2,g3,_⟩:=BX (Bj f (.int .i64 2) (.int .i64 0) (.string x) (.int .i64 0));simp only[EY] at c g1 g2 g3;refine bodyPost_ret (AJ Tryz.results109 rfl c g1 g2 g3) rfl ⟨?_,d⟩;rw[Aa a,← Aa j];simp only[PW,Cv];rw[Int.natCast_add];rfl
 ·have e:(Al y)[n]? ≠some 34:=by rw[h];intro k;exact i (by rw[Option.some.inj k];rfl)
  have a:=Ab ((Aa a).trans (if_pos (.inr e)));clear h e;have B:=beq_eq_false_iff_ne.2 i;have P:((y[n].toNat:Int) != 34)=true:=bne_iff_ne.2 i;go_wp2_with fail
  go_region
  go_wp2_with fail
  have d:=Au (b:=w.heap.size) g NLN (.int .i64 0) (.int .i64 0) (.string ⟨#[]⟩) (.int .i64 0);obtain ⟨c,g1,g2,g3⟩:=Cr f (.int .i64 0) (.int .i64 0) (.string ⟨#[]⟩) (.int .i64 0);exact bodyPost_ret (AJ Tryz.results109 rfl c g1 g2 g3) rfl ⟨by rw[Aa a,Eo];rfl,d.drew⟩
theorem Aau {l:List UInt8}{c:UInt8}(h:Lib.indexByte l c < 0):l.contains c=false:=by
 have h1:Lib.indexByte l c= -1:=by have:=Lib.indexByte_ge l c;omega
 rw[← Bool.not_eq_true,List.contains_iff_mem];intro hm;obtain ⟨i,hi,e⟩:=List.getElem_of_mem hm;exact Lib.indexByte_none h1 i (by rw[List.getElem?_eq_getElem hi,e])
theorem Aav {l:List UInt8}{c:UInt8}(h: ¬ Lib.indexByte l c < 0):l.contains c=true:=by
 obtain ⟨d,b⟩:=Int.eq_ofNat_of_zero_le (a:=Lib.indexByte l c) (by omega);have:=(Lib.indexByte_some b).1;rw[List.contains_iff_mem];exact List.mem_of_getElem? this
theorem Acw (c:UInt8):(c.toNat:Int).toNat.toUInt8=c:=by simp
theorem MN (w:World)(S:M3 w aS aB aT):∃ a,w.alloc (.cells #[.int .i64 0,.int .i64 0,.string ⟨#[]⟩,.int .i64 0] 93)=a∧Aj a w.heap.size #[.int .i64 0,.int .i64 0,.string ⟨#[]⟩,.int .i64 0] 93∧Below w.heap.size w a∧M3 a aS aB aT:=by
 have b:=(Below.refl w.heap.size w).alloc NLN (.cells #[.int .i64 0,.int .i64 0,.string ⟨#[]⟩,.int .i64 0] 93);exact ⟨_,rfl,Aj.new w _ _,b,S.below b NLN⟩
theorem PL {x:ByteArray}{l y:List UInt8}(hx:Al x=l.take 2)(h:(x.toList== y)=true)(hy:y∈CM):CM.contains (l.take 2)=true∧2≤l.length:=by
 rw[beq_iff_eq,ByteArray.toList_eq] at h;have e:l.take 2=y:=hx.symm.trans h;rw[e,List.contains_iff_mem];refine ⟨hy, ?_⟩;have h2:∀ a∈CM,a.length=2:=by decide
 have:=h2 _ hy;rw[← e,List.length_take] at this;omega
theorem Aaw {x:ByteArray}{l:List UInt8}(hx:Al x=l.take 2)(h:∀ y∈CM,(x.toList== y)=false):CM.contains (l.take 2)=false:=by
 rw[← Bool.not_eq_true,List.contains_iff_mem];intro hm;have:=h _ hm;rw[beq_eq_false_iff_ne,ByteArray.toList_eq] at this;exact this hx
theorem PM (r:ByteArray)(w:World)(hs:r.size≤1048576)(h0: 0 < r.size)(S:M3 w aS aB aT):
  Calls Tryz.prog 110 #[.string r] w fun e w'=>e= .returned (PW aS aB aT (BM r[0] (Al r)))∧Below w.heap.size w w':=by
 obtain ⟨t,q,i,j,s⟩:=MN w S;have u:=s.gB;have v:=S.big;have x:w.heap.size≠4:=by omega
 have z: 4≠w.heap.size:=by omega
 have A:(1 :Int)≤(r.size:Int):=by omega
 have B: 0≤min (2 :Int) (r.size:Int):=by omega
 have C:min (2 :Int) (r.size:Int)≤(r.size:Int):=by omega
 have k:=Ab (show Al (r.extract 0 (min 2 (r.size:Int)).toNat)=(Al r).take 2 by
  rw[CF,List.drop_zero,Nat.sub_zero];rcases Nat.lt_or_ge r.size 2 with h | h
  ·rw[show (min (2 :Int) (r.size:Int)).toNat=r.size by omega,List.take_of_length_le (by rw[Av];exact NLN),List.take_of_length_le (by rw[Av];omega)]
  ·rw[show (min (2 :Int) (r.size:Int)).toNat=2 by omega])
 have g:=Ab (show Al (r.extract 0 2)=(Al r).take 2 by rw[CF,List.drop_zero]);have m:=Ab (show Al (r.extract 0 1)= [r[0]] by
  have h:=BY r 0 h0;rw[List.drop_zero] at h;rw[CF,List.drop_zero,h];rfl)
 obtain ⟨E,d1,d2,d3,F⟩:=BX i;rcases Bool.eq_false_or_eq_true ((r.extract 0 (min 2 (r.size:Int)).toNat).toList== [61,62]) with h0 | h0
 ·have c:=Ab (PL (Aa k) h0 (by decide));have l:(2 :Int)≤(r.size:Int):=by have:=(Aa c).2;rw[Av] at this;omega
  go_enter Tryz.func110,Tryz.ntmps110
  go_wp2_with fail
  generalize r.extract 0 2=d at g ⊢;have f:=Au (b:=w.heap.size) j NLN (.int .i64 5) (.int .i64 0) (.string d) (.int .i64 0);obtain ⟨a,g1,g2,g3,_⟩:=BX (Bj i (.int .i64 5) (.int .i64 0) (.string d) (.int .i64 0));simp only[EY] at a g1 g2 g3;refine bodyPost_ret (AJ Tryz.results110 rfl a g1 g2 g3) rfl ⟨?_,f⟩;rw[BM,if_pos (Aa c).1,← Aa g];simp only[PW,Cv];rfl
 rcases Bool.eq_false_or_eq_true ((r.extract 0 (min 2 (r.size:Int)).toNat).toList== [61,61]) with h1 | h1
 ·have c:=Ab (PL (Aa k) h1 (by decide));have l:(2 :Int)≤(r.size:Int):=by have:=(Aa c).2;rw[Av] at this;omega
  go_enter Tryz.func110,Tryz.ntmps110
  go_wp2_with fail
  generalize r.extract 0 2=d at g ⊢;have f:=Au (b:=w.heap.size) j NLN (.int .i64 5) (.int .i64 0) (.string d) (.int .i64 0);obtain ⟨a,g1,g2,g3,_⟩:=BX (Bj i (.int .i64 5) (.int .i64 0) (.string d) (.int .i64 0));simp only[EY] at a g1 g2 g3;refine bodyPost_ret (AJ Tryz.results110 rfl a g1 g2 g3) rfl ⟨?_,f⟩;rw[BM,if_pos (Aa c).1,← Aa g];simp only[PW,Cv];rfl
 rcases Bool.eq_false_or_eq_true ((r.extract 0 (min 2 (r.size:Int)).toNat).toList== [33,61]) with h2 | h2
 ·have c:=Ab (PL (Aa k) h2 (by decide));have l:(2 :Int)≤(r.size:Int):=by have:=(Aa c).2;rw[Av] at this;omega
  go_enter Tryz.func110,Tryz.ntmps110
  go_wp2_with fail
  generalize r.extract 0 2=d at g ⊢;have f:=Au (b:=w.heap.size) j NLN (.int .i64 5) (.int .i64 0) (.string d) (.int .i64 0);obtain ⟨a,g1,g2,g3,_⟩:=BX (Bj i (.int .i64 5) (.int .i64 0) (.string d) (.int .i64 0));simp only[EY] at a g1 g2 g3;refine bodyPost_ret (AJ Tryz.results110 rfl a g1 g2 g3) rfl ⟨?_,f⟩;rw[BM,if_pos (Aa c).1,← Aa g];simp only[PW,Cv];rfl
 rcases Bool.eq_false_or_eq_true ((r.extract 0 (min 2 (r.size:Int)).toNat).toList== [60,61]) with h3 | h3
 ·have c:=Ab (PL (Aa k) h3 (by decide));have l:(2 :Int)≤(r.size:Int):=by have:=(Aa c).2;rw[Av] at this;omega
  go_enter Tryz.func110,Tryz.ntmps110
  go_wp2_with fail
  generalize r.extract 0 2=d at g ⊢;have f:=Au (b:=w.heap.size) j NLN (.int .i64 5) (.int .i64 0) (.string d) (.int .i64 0);obtain ⟨a,g1,g2,g3,_⟩:=BX (Bj i (.int .i64 5) (.int .i64 0) (.string d) (.int .i64 0));simp only[EY] at a g1 g2 g3;refine bodyPost_ret (AJ Tryz.results110 rfl a g1 g2 g3) rfl ⟨?_,f⟩;rw[BM,if_pos (Aa c).1,← Aa g];simp only[PW,Cv];rfl
 have n:=Ab (Aaw (Aa k) (by
  intro y hy;simp only[CM,List.mem_cons,List.not_mem_nil,or_false] at hy;rcases hy with rfl | rfl | rfl | rfl <;> assumption))
 go_enter Tryz.func110,Tryz.ntmps110
 go_wp2_with fail
 clear q;refine (Tryz.strings_IndexByte _ _ _).mono ?_;rintro e H ⟨rfl,o⟩;rw[o,Acw];clear o;rw[show (⟨#[60,43,45,42,47,37,124,38,92,40,41,123,125,44,59,61]⟩:ByteArray).data.toList=Ih from rfl];by_cases hi:Lib.indexByte Ih r[0] < 0
 ·have Hi:=Ab (Aau hi);go_wp2_with fail
  go_region
  go_wp2_with fail
  have f:=Au (b:=w.heap.size) j NLN (.int .i64 0) (.int .i64 0) (.string ⟨#[]⟩) (.int .i64 0);obtain ⟨a,g1,g2,g3⟩:=Cr i (.int .i64 0) (.int .i64 0) (.string ⟨#[]⟩) (.int .i64 0);refine bodyPost_ret (AJ Tryz.results110 rfl a g1 g2 g3) rfl ⟨?_,f.drew⟩;rw[BM,if_neg (by rw[Aa n];decide),if_neg (by rw[Aa Hi];decide),Aat];rfl
 ·have Hi:=Ab (Aav hi);go_wp2_with fail
  generalize r.extract 0 1=p at m ⊢;have f:=Au (b:=w.heap.size) j NLN (.int .i64 5) (.int .i64 0) (.string p) (.int .i64 0);obtain ⟨a,g1,g2,g3,_⟩:=BX (Bj i (.int .i64 5) (.int .i64 0) (.string p) (.int .i64 0));simp only[EY] at a g1 g2 g3;refine bodyPost_ret (AJ Tryz.results110 rfl a g1 g2 g3) rfl ⟨?_,f⟩;rw[BM,if_neg (by rw[Aa n];decide),if_pos (Aa Hi),← Aa m];simp only[PW,Cv];rfl
end Go.Proofs.YtoplnhndilmlcaaGreatDoor
