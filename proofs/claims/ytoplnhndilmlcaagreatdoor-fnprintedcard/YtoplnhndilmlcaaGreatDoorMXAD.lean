/-
  Mark, OwnM, Own, OWS, VPD, CLN, QA, JT. Own work.
-/
import Derived.Test.YtoplnhndilmlcaaGreatDoorMXAB
import Derived.Test.YtoplnhndilmlcaaGreatDoorMXAC
import Derived.Lib.SmallJoins
import Derived.Lib.ItoaNum
namespace Go.Proofs.YtoplnhndilmlcaaGreatDoor
open Go.RowKit
def Acz (k n:Nat):List ByteArray:=(List.range n).map fun j=>AaL (k+j)
def Acp (ss:List ByteArray) (k n i:Nat):List ByteArray:=(List.range n).map fun j=>if j < i then AaL (k+j) else DL ss j
set_option linter.unusedVariables false
theorem Ai.wide {l h lo hi:Nat}{w w':World}(t:Ai l h w w')(a:(l=0∧h=0)∨(lo≤l∧h≤hi)):Ai lo hi w w':=
 ⟨t.os,t.tape,t.output,t.size,fun k hk b=>t.block k hk (by omega)⟩
set_option maxRecDepth 100000
set_option maxHeartbeats 6400000
def Eh:Array Value:=#[.int .i64 26,.int .i64 1,.string ⟨#[111,114]⟩,.int .i64 25,.int .i64 2,.string ⟨#[97,110,100]⟩,.int .i64 19,.int .i64 4,.string ⟨#[61,61]⟩,.int .i64 20,.int .i64 4,.string ⟨#[33,61]⟩,.int .i64 21,.int .i64 4,.string ⟨#[60]⟩,.int .i64 22,.int .i64 4,.string ⟨#[60,61]⟩,.int .i64 23,.int .i64 4,.string ⟨#[105,110]⟩,.int .i64 24,.int .i64 4,.string ⟨#[119,105,116,104,105,110]⟩,.int .i64 11,.int .i64 5,.string ⟨#[43]⟩,.int .i64 12,.int .i64 5,.string ⟨#[45]⟩,.int .i64 16,.int .i64 5,.string ⟨#[124]⟩,.int .i64 18,.int .i64 5,.string ⟨#[92]⟩,.int .i64 13,.int .i64 6,.string ⟨#[42]⟩,.int .i64 14,.int .i64 6,.string ⟨#[47]⟩,.int .i64 15,.int .i64 6,.string ⟨#[37]⟩,.int .i64 17,.int .i64 6,.string ⟨#[38]⟩]
structure Opr where
 op:Int
 lv:Int
 text:ByteArray
def DZ:Nat→Opr
 | 0=>⟨26,1,⟨#[111,114]⟩⟩
 | 1=>⟨25,2,⟨#[97,110,100]⟩⟩
 | 2=>⟨19,4,⟨#[61,61]⟩⟩
 | 3=>⟨20,4,⟨#[33,61]⟩⟩
 | 4=>⟨21,4,⟨#[60]⟩⟩
 | 5=>⟨22,4,⟨#[60,61]⟩⟩
 | 6=>⟨23,4,⟨#[105,110]⟩⟩
 | 7=>⟨24,4,⟨#[119,105,116,104,105,110]⟩⟩
 | 8=>⟨11,5,⟨#[43]⟩⟩
 | 9=>⟨12,5,⟨#[45]⟩⟩
 | 10=>⟨16,5,⟨#[124]⟩⟩
 | 11=>⟨18,5,⟨#[92]⟩⟩
 | 12=>⟨13,6,⟨#[42]⟩⟩
 | 13=>⟨14,6,⟨#[47]⟩⟩
 | 14=>⟨15,6,⟨#[37]⟩⟩
 | 15=>⟨17,6,⟨#[38]⟩⟩
 | _=>⟨0,0,⟨#[]⟩⟩
theorem IL:∀ k,k < 16→Eh.extract (k * 3) (k * 3+3)= #[.int .i64 (DZ k).op,.int .i64 (DZ k).lv,.string (DZ k).text]
 | 0,_=>rfl
 | 1,_=>rfl
 | 2,_=>rfl
 | 3,_=>rfl
 | 4,_=>rfl
 | 5,_=>rfl
 | 6,_=>rfl
 | 7,_=>rfl
 | 8,_=>rfl
 | 9,_=>rfl
 | 10,_=>rfl
 | 11,_=>rfl
 | 12,_=>rfl
 | 13,_=>rfl
 | 14,_=>rfl
 | 15,_=>rfl
 | n+16,h=>absurd h (by omega)
theorem Ri (op:Int)(h: 11≤op∧op≤26):∃ k,k < 16∧(DZ k).op=op:=by
 have:op=11∨op=12∨op=13∨op=14∨op=15∨op=16∨op=17∨op=18∨op=19∨op=20∨op=21∨op=22∨op=23∨op=24∨op=25∨op=26:=by omega
 rcases this with e | e | e | e | e | e | e | e | e | e | e | e | e | e | e | e <;> subst e
 ·exact ⟨8,by decide,rfl⟩
 ·exact ⟨9,by decide,rfl⟩
 ·exact ⟨12,by decide,rfl⟩
 ·exact ⟨13,by decide,rfl⟩
 ·exact ⟨14,by decide,rfl⟩
 ·exact ⟨10,by decide,rfl⟩
 ·exact ⟨15,by decide,rfl⟩
 ·exact ⟨11,by decide,rfl⟩
 ·exact ⟨2,by decide,rfl⟩
 ·exact ⟨3,by decide,rfl⟩
 ·exact ⟨4,by decide,rfl⟩
 ·exact ⟨5,by decide,rfl⟩
 ·exact ⟨6,by decide,rfl⟩
 ·exact ⟨7,by decide,rfl⟩
 ·exact ⟨1,by decide,rfl⟩
 ·exact ⟨0,by decide,rfl⟩
theorem Aby:∀ k,k < 16→11≤(DZ k).op∧(DZ k).op≤26
 | 0,_ | 1,_ | 2,_ | 3,_ | 4,_ | 5,_ | 6,_ | 7,_ | 8,_ | 9,_ | 10,_ | 11,_ | 12,_ | 13,_ | 14,_ | 15,_=>by decide
 | n+16,h=>absurd h (by omega)
def Ov (op:Int):Bool:=decide (11≤op∧op≤26)
def Abz (op:Int) (e:Ending):Prop:=∃ (x y:Int) (s:ByteArray),e= .returned (.tuple #[.agg #[.int .i64 x,.int .i64 y,.string s],.bool (Ov op)])
theorem Gt {w:World}{b:Nat}{v0 v1 a:Value}{t:TypeId}(R:Aj w b #[v0,v1,a] t):w.cell? ⟨b,0,none⟩=some v0∧w.cell? ⟨b,1,none⟩=some v1∧w.cell? ⟨b,2,none⟩=some a∧∀ j,w.frozen? ⟨b,j,none⟩=false:=
 ⟨R.cell 0,R.cell 1,R.cell 2,fun j=>R.frozen j⟩
theorem IM {d:Func}{a b:Tmp}(h:d.results= #[.cell a 187,.tmp b]){c:Array Value}{w:World}{g:Nat}{v0 v1 f u:Value}(i:c.getD a undef= .pointer (some ⟨g,0,none⟩))(j:c.getD b undef=u)
  (k:w.cell? ⟨g,0,none⟩=some v0)(g1:w.cell? ⟨g,1,none⟩=some v1)(g2:w.cell? ⟨g,2,none⟩=some f):
  (results d c).run Tryz.prog w= .ok (.tuple #[.agg #[v0,v1,f],u]) w:=by
 rw[Array.getD_eq_getD_getElem?] at i j;simp[results,h,i,j,go_sem,k,g1,g2]
theorem ES (op:Int)(w:World)(A: 10 < w.heap.size)(hc:∀ k,w.cell? ⟨10,k,none⟩=Eh[k]?):
  Calls Tryz.prog 101 #[.int .i64 op] w fun e w'=>Abz op e∧Below w.heap.size w w':=by
 have t:=Ab (show ∀ k,(w.alloc (.cells #[.int .i64 0,.int .i64 0,.string ⟨#[]⟩] 187)).cell? ⟨10,k,none⟩=Eh[k]? from fun k=>(World.cell?_alloc_lt _ _ ⟨10,k,none⟩ A).trans (hc k));clear hc;have u:=(Below.refl w.heap.size w).alloc NLN (.cells #[.int .i64 0,.int .i64 0,.string ⟨#[]⟩] 187);have v:=Aj.new w #[.int .i64 0,.int .i64 0,.string ⟨#[]⟩] 187;go_enter Tryz.func101,Tryz.ntmps101
 go_wp2_with (refine Ds rfl 212 _ rfl 10 rfl Eh _ (Aa t) Tryz.underlying212 rfl (by kernel_rfl) ?_)
 clear t;go_loopw [7] (fun i wr=>∃ k:Nat,k≤16∧i= .int .i64 k∧Below w.heap.size w wr∧Aj wr w.heap.size #[.int .i64 0,.int .i64 0,.string ⟨#[]⟩] 187∧∀ j,j < k→(DZ j).op≠op) (fun i _=>16 - (intOf i).toNat)
 case atStart=>exact ⟨0,by omega,rfl,u,v,fun j h=>absurd h (by omega)⟩
 case round=>
  obtain ⟨k,hk,rfl,f,b,x⟩:=hrel;have g:=Ab x;clear x u v;by_cases l:k < 16
  ·have O:(k:Int) < 16:=by omega
   have q:=Ab (IL k l);have y:=Ab (Aby k l);have m:=Ab l;have P:=b.lt;have n:=Ab (show (DZ k).op≠op→∀ j,j < k+1→(DZ j).op≠op from fun e j z=>by
    by_cases B:j=k
    ·subst B;exact e
    ·exact Aa g j (by omega))
   have c:=Ab (show (DZ k).op=op→Ov op=true from fun e=>by rw[← e];exact decide_eq_true (Aa y));clear g y l;generalize DZ k=a at q n c;have C:=f.alloc f.size (.cells #[.int .i64 a.op,.int .i64 a.lv,.string a.text] 187);have E:=b.alloc (.cells #[.int .i64 a.op,.int .i64 a.lv,.string a.text] 187);have Q:=Aj.new wr #[.int .i64 a.op,.int .i64 a.lv,.string a.text] 187;by_cases d:a.op=op
   ·have F:(a.op== op)=true:=beq_iff_eq.2 d;have H:=Ab (Aa c d);clear d c n;obtain ⟨I,J,q2,K⟩:=Gt b;go_wp2_with (refine Be rfl 212 _ _ rfl Eh rfl k rfl 16 187 Tryz.underlying212 (Aa m) _ Tryz.underlying187 rfl 3 (by kernel_rfl) _ (Aa q) ?_)
    have r:Aj _ w.heap.size #[.int .i64 a.op,.int .i64 a.lv,.string a.text] 187:=(((b.set 0 (.int .i64 a.op)).set 1 (.int .i64 a.lv)).set 2 (.string a.text)).alloc (.cells #[.int .i64 a.op,.int .i64 a.lv,.string a.text] 187);have o:=(((f.setCell (p:=⟨w.heap.size,0,none⟩) NLN (.int .i64 a.op)).setCell (p:=⟨w.heap.size,1,none⟩) NLN (.int .i64 a.lv)).setCell (p:=⟨w.heap.size,2,none⟩) NLN (.string a.text))
    have L:=o.alloc o.size (.cells #[.int .i64 a.op,.int .i64 a.lv,.string a.text] 187);obtain ⟨s,g1,g2,M⟩:=Gt r;exact bodyPost_ret (IM Tryz.results101 rfl rfl s g1 g2) rfl ⟨⟨_,_,_,by rw[Aa H];rfl⟩,L⟩
   ·have F:(a.op== op)=false:=beq_eq_false_iff_ne.2 d;have N:=Ab (Aa n d);clear d c n;go_wp2_with (refine Be rfl 212 _ _ rfl Eh rfl k rfl 16 187 Tryz.underlying212 (Aa m) _ Tryz.underlying187 rfl 3 (by kernel_rfl) _ (Aa q) ?_)
    go_roundw
    case rel=>exact ⟨k+1,Aa m,by go_num,C,E,Aa N⟩
    case measure=>have:=Aa m;simp[intOf];omega
  ·have e:k=16:=by omega
   subst e;have c:=Ab (show Ov op=false from decide_eq_false fun h=>by
    obtain ⟨j,z,e⟩:=Ri op h;exact Aa g j z e)
   clear g;obtain ⟨I,J,q2,K⟩:=Gt b;go_wp2_with fail
   have r:Aj _ w.heap.size #[.int .i64 0,.int .i64 0,.string ⟨#[]⟩] 187:=((b.set 0 (.int .i64 0)).set 1 (.int .i64 0)).set 2 (.string ⟨#[]⟩);have o:=(((f.setCell (p:=⟨w.heap.size,0,none⟩) NLN (.int .i64 0)).setCell (p:=⟨w.heap.size,1,none⟩) NLN (.int .i64 0)).setCell (p:=⟨w.heap.size,2,none⟩) NLN (.string ⟨#[]⟩))
   obtain ⟨s,g1,g2,M⟩:=Gt r;exact bodyPost_ret (IM Tryz.results101 rfl rfl s g1 g2) rfl ⟨⟨_,_,_,by rw[Aa c];rfl⟩,o⟩
theorem Gd (op:Int)(w:World)(d: 10 < w.heap.size)(hc:∀ k,w.cell? ⟨10,k,none⟩=Eh[k]?):
  Calls Tryz.prog 91 #[.int .i64 op] w fun e w'=>e= .returned (.int .i64 (Fx op))∧Below w.heap.size w w':=by
 have f:=Ab hc;clear hc;by_cases h0: 1≤op∧op≤7
 ·have:op=1∨op=2∨op=3∨op=4∨op=5∨op=6∨op=7:=by omega
  rcases this with e | e | e | e | e | e | e <;> subst e <;> (go_enter Tryz.func91,Tryz.ntmps91;go_wp2;go_ret;exact ⟨rfl,BRN⟩)
 by_cases h1: 8≤op∧op≤10
 ·have:op=8∨op=9∨op=10:=by omega
  rcases this with e | e | e <;> subst e <;> (go_enter Tryz.func91,Tryz.ntmps91;go_wp2;go_ret;exact ⟨rfl,BRN⟩)
 by_cases h3:op=27
 ·subst h3;go_enter Tryz.func91,Tryz.ntmps91
  go_wp2
  go_ret
  exact ⟨rfl,BRN⟩
 have g:=Ab (show Fx op=if Ov op=true then 2 else -1 by
  rw[Fx,if_neg h0,if_neg h1,Ov];by_cases h2: 11≤op∧op≤26
  ·rw[if_pos h2,if_pos (decide_eq_true h2)]
  ·rw[if_neg h2,if_neg h3,if_neg (by rw[decide_eq_false h2];decide)])
 have e1:(op== 1)=false:=beq_eq_false_iff_ne.2 (by omega);have e2:(op== 2)=false:=beq_eq_false_iff_ne.2 (by omega);have e3:(op== 3)=false:=beq_eq_false_iff_ne.2 (by omega);have e4:(op== 4)=false:=beq_eq_false_iff_ne.2 (by omega);have e5:(op== 5)=false:=beq_eq_false_iff_ne.2 (by omega);have j:(op== 6)=false:=beq_eq_false_iff_ne.2 (by omega);have l:(op== 7)=false:=beq_eq_false_iff_ne.2 (by omega);have e8:(op== 8)=false:=beq_eq_false_iff_ne.2 (by omega);have m:(op== 9)=false:=beq_eq_false_iff_ne.2 (by omega);have n:(op== 10)=false:=beq_eq_false_iff_ne.2 (by omega);have o:(op== 27)=false:=beq_eq_false_iff_ne.2 (by omega);clear h0 h1 h3;go_enter Tryz.func91,Tryz.ntmps91
 cases c:Ov op
 ·have a:=Ab c;clear c;go_wp2_with (go_at_call 101;refine (ES _ _ d (Aa f)).mono ?_;rintro e h ⟨⟨v0,v1,i,rfl⟩,b⟩;rw[Aa a])
  go_ret
  exact ⟨by rw[Aa g,Aa a];rfl,b.alloc b.size _⟩
 ·have a:=Ab c;clear c;go_wp2_with (go_at_call 101;refine (ES _ _ d (Aa f)).mono ?_;rintro e h ⟨⟨v0,v1,i,rfl⟩,b⟩;rw[Aa a])
  go_ret
  exact ⟨by rw[Aa g,Aa a];rfl,b.alloc b.size _⟩
set_option maxHeartbeats 2000000
theorem Sq (a:Option Addr)(n c:Nat)(d:List ByteArray)(w:World)(h:Bb w a n c d)(v:d.length≤1048576):
  Calls Tryz.prog 138 #[.slice a n c] w fun e w'=>(∃ x l,e= .returned (.slice x d.length l)∧w'.ownsRow w.heap.size 9 1 (.slice x d.length l) d.length (d.map Value.string))∧Below w.heap.size w w':=by
 obtain ⟨y,z,A,B,C⟩:=info_parts La;have m:=h.len;cases a with
 | none=>
  have h0:n=0:=by
   rcases Nat.eq_zero_or_pos n with q | q
   ·exact q
   ·obtain ⟨b,E,e,_⟩:=h.cells 0 q;cases e
  subst h0;obtain rfl:d= []:=List.eq_nil_of_length_eq_zero m.symm;clear h v m;have F:∀ (w:World) (a:Option Addr) (n c f g:Nat),(binOp .eql 78 (.slice a n c) (.slice none f g)).run Tryz.prog w= .ok (.bool a.isNone) w:=fun w a n c f g=>Lib.run_eql_slice_nil w _ _ a n c f g Tryz.underlying78;go_enter Tryz.func138,Tryz.ntmps138
  go_wp2_with fail
  go_ret
  exact ⟨⟨none,0,rfl,World.ownsRow_nil _ _ _ _⟩,BRN⟩
 | some H=>
  have F:∀ (w:World) (a:Option Addr) (n c f g:Nat),(binOp .eql 78 (.slice a n c) (.slice none f g)).run Tryz.prog w= .ok (.bool a.isNone) w:=fun w a n c f g=>Lib.run_eql_slice_nil w _ _ a n c f g Tryz.underlying78;have N:∀ w,Sem.run Tryz.prog (underlying 78) w= .ok (TypeDesc.slice 9) w:=run_underlying Tryz.underlying78;have I:=Ab h;have i:=Ab m;have O:n≤1048576:=by omega
  clear h m;go_enter Tryz.func138,Tryz.ntmps138
  go_wp2_with (at_builtin;refine wpList_append_own _ rfl _ _ 78 rfl w.heap.size 9 y (.string ByteArray.empty) 1 16 Tryz.underlying78 z A B C rfl (by decide) _ _ _ rfl (World.ownsRow_made w #[] 0 NLN (Nat.zero_le _) rfl) H n c (d.map Value.string) rfl ?qc1 ?qc2 ?qc3 ?qc4 ?qc5 ?qc6 ?_)
  case qc1=>rw[List.length_map,Aa i];omega
  case qc2=>
   intro j u p;have o:j < n:=by
    have:=(List.getElem?_eq_some_iff.1 p).1;rw[List.length_map] at this;rw[Aa i];exact this
   obtain ⟨b,E,e,P,hc⟩:=(Aa I).cells j o;cases e;rw[Addr.add_lit];refine Lib.cell?_alloc_some _ ?_;rw[hc,← p,List.getElem?_map,List.getElem?_eq_getElem (by rw[← Aa i];exact o),Cz _ _ (by rw[← Aa i];exact o)];rfl
  case qc3=>intro u hu;obtain ⟨x,_,rfl⟩:=List.mem_map.1 hu;rfl
  case qc4=>unfold maxLen;omega
  case qc5=>omega
  case qc6=>simp
  intro J K r s L;have M:=((Below.refl _ w).alloc NLN (.cells #[] 9)).grown s (by simp) (by intro k hk;simp[Value.ownBlock] at hk;omega);have t:K.ownsRow w.heap.size 9 1 J n (d.map Value.string):=by simpa using r
  obtain ⟨x,l,rfl,_⟩:=Af t;clear r L s;go_wp2_with fail
  go_ret
  have e:=Aa i;subst e;exact ⟨⟨x,l,rfl,t⟩,M⟩
theorem CA {w:World}{a base':Nat}{e:TypeId}{size:Nat}{v:Value}{n:Nat}{b:List Value}(h:w.ownsRow a e size v n b)(c:base'≤a):w.ownsRow base' e size v n b:=by
 refine ⟨h.1, ?_⟩;rcases h.2 with h2 | ⟨g,cap,d,f,h3,h4⟩
 ·exact .inl h2
 ·exact .inr ⟨g,cap,d,f,Nat.le_trans c h3,h4⟩
inductive Ex where
 | int (i n:Int)
 | text (i:Int) (s:ByteArray)
 | bool (i:Int) (b:Bool)
 | set (i:Int) (a:Option Addr) (n c:Nat) (ss:List ByteArray)
 | name (i:Int) (s:ByteArray)
 | attr (i n:Int)
 | lett (i n:Int)
 | un (i op:Int) (k:Ex)
 | bin (i op:Int) (l r:Ex)
 | ite (i:Int) (c t e:Ex)
def Ex.val:Ex→Value
 | .int i n=> .iface 130 (.agg #[.int .i64 i,.int .i64 n])
 | .text i s=> .iface 133 (.agg #[.int .i64 i,.string s])
 | .bool i b=> .iface 135 (.agg #[.int .i64 i,.bool b])
 | .set i a n c _=> .iface 138 (.agg #[.int .i64 i,.slice a n c])
 | .name i s=> .iface 141 (.agg #[.int .i64 i,.string s])
 | .attr i n=> .iface 184 (.agg #[.int .i64 i,.int .i64 n])
 | .lett i n=> .iface 185 (.agg #[.int .i64 i,.int .i64 n])
 | .un i op k=> .iface 143 (.agg #[.int .i64 i,.int .i64 op,k.val])
 | .bin i op l r=> .iface 146 (.agg #[.int .i64 i,.int .i64 op,l.val,r.val])
 | .ite i c t e=> .iface 149 (.agg #[.int .i64 i,c.val,t.val,e.val])
def Ex.op:Ex→Int
 | .int .. =>1 | .text .. =>2 | .bool .. =>3 | .set .. =>4 | .name .. =>5 | .attr .. =>6 | .lett .. =>7
 | .un _ op _=>op | .bin _ op _ _=>op | .ite .. =>27
def Ex.cnt:Ex→Nat
 | .un _ _ k=>k.cnt+1
 | .bin _ _ l r=>l.cnt+r.cnt+1
 | .ite _ c t e=>c.cnt+t.cnt+e.cnt+1
 | _=>1
def Bi (op:Int):Int:=
 if op=27 then 0 else if op=26 then 1 else if op=25 then 2 else if op=9 then 3 else if 19≤op∧op≤24 then 4
 else if op=11∨op=12∨op=16∨op=18 then 5 else if op=13∨op=14∨op=15∨op=17 then 6 else if op=8 then 7 else 8
theorem DU (op:Int): 0≤Bi op:=by unfold Bi;repeat' split <;> try decide
theorem F8 (op:Int):Bi op≤8:=by unfold Bi;repeat' split <;> try decide
def Rf:List ByteArray:= [⟨#[43]⟩,⟨#[45]⟩,⟨#[42]⟩,⟨#[47]⟩,⟨#[37]⟩,⟨#[124]⟩,⟨#[38]⟩,⟨#[92]⟩,⟨#[61,61]⟩,⟨#[33,61]⟩,⟨#[60]⟩,⟨#[60,61]⟩,⟨#[105,110]⟩,⟨#[119,105,116,104,105,110]⟩,⟨#[97,110,100]⟩,⟨#[111,114]⟩]
def Bo (op:Int):ByteArray:=Rf.getD (op - 11).toNat ⟨#[]⟩
theorem CD (op:Int):(Bo op).size≤6:=by
 unfold Bo;generalize (op - 11).toNat=k
 match k with
 | 0 | 1 | 2 | 3 | 4 | 5 | 6 | 7 | 8 | 9 | 10 | 11 | 12 | 13 | 14 | 15=>simp[Rf,ByteArray.size]
 | k+16=>simp[Rf,List.getD,ByteArray.size]
def F7 (k:Nat):ByteArray:=⟨(Lib.decDigits k).toArray⟩
theorem Rg:∀ (k n:Nat),n < 10 ^ (k+1)→(Lib.decDigits n).length≤k+1
 | 0,n,h=>by
  have h10:n < 10:=by simpa using h
  rw[Lib.decDigits,dif_pos h10];simp
 | k+1,n,h=>by
  by_cases h10:n < 10
  ·rw[Lib.decDigits,dif_pos h10];simp
  ·rw[Lib.decDigits,dif_neg h10];have:=Rg k (n / 10) (by have:(10 :Nat) ^ (k+1+1)=10 ^ (k+1) * 10:=Nat.pow_succ ..;omega);simp;omega
theorem G6 {n:Nat}(h:n≤9223372036854775807):(F7 n).size≤19:=by
 have:=Rg 18 n (by omega);simpa[F7,ByteArray.size] using this
def AA (first:Bool):List ByteArray→ByteArray
 | []=>⟨#[]⟩
 | x ::r=>(if first then ⟨#[]⟩ else ⟨#[44,32]⟩) ++(⟨#[34]⟩ ++x ++⟨#[34]⟩) ++AA false r
theorem DV (a:ByteArray):a ++(⟨#[]⟩:ByteArray)=a:=ByteArray.append_empty
theorem Fl (a:ByteArray):(⟨#[]⟩:ByteArray) ++a=a:=ByteArray.empty_append
theorem Ko (x:ByteArray):∀ (f:Bool) (l:List ByteArray),AA f (l ++ [x])=AA f l ++AA (f && l.isEmpty) [x]
 | f, []=>by simp[AA,Fl]
 | f,y ::r=>by
  rw[List.cons_append,AA,AA,Ko x false r,ByteArray.append_assoc];simp[ByteArray.append_assoc]
theorem Fm:∀ (f:Bool) (l:List ByteArray),(∀ x∈l,x.size≤32)→(AA f l).size≤36 * l.length
 | f, [],_=>by simp[AA,ByteArray.size]
 | f,x ::r,h=>by
  have h1:=Fm false r (fun y hy=>h y (List.mem_cons_of_mem _ hy));have h2:=h x (List.mem_cons_self ..);rw[AA];simp only[ByteArray.size_append,List.length_cons];have:(if f=true then (⟨#[]⟩:ByteArray) else ⟨#[44,32]⟩).size≤2:=by cases f <;> simp[ByteArray.size]
  have e:(⟨#[34]⟩:ByteArray).size=1:=rfl;omega
def Ng (ss:List ByteArray):ByteArray:=⟨#[123]⟩ ++AA true ss ++⟨#[125]⟩
def par (b:Bool) (s:ByteArray):ByteArray:=if b then ⟨#[40]⟩ ++s ++⟨#[41]⟩ else s
theorem GJ (b:Bool)(s:ByteArray):(par b s).size≤s.size+2:=by
 have e1:(⟨#[40]⟩:ByteArray).size=1:=rfl;have e2:(⟨#[41]⟩:ByteArray).size=1:=rfl;cases b
 ·simp[par]
 ·simp only[par,if_true,ByteArray.size_append];omega
def Dv (op:Int):Int:=if Bi op=4 then 5 else Bi op
def Ex.pr:Ex→ByteArray
 | .int _ n=>F7 n.toNat
 | .text _ s=>⟨#[34]⟩ ++s ++⟨#[34]⟩
 | .bool _ b=>if b then ⟨#[116,114,117,101]⟩ else ⟨#[102,97,108,115,101]⟩
 | .set _ _ _ _ ss=>Ng ss
 | .name _ s=>s
 | .attr .. =>⟨#[]⟩
 | .lett .. =>⟨#[]⟩
 | .un _ op k=>if op=8 then ⟨#[45]⟩ ++par (decide (Bi k.op < 7)) k.pr else if op=9 then ⟨#[110,111,116,32]⟩ ++par (decide (Bi k.op < 3)) k.pr
  else ⟨#[115,105,122,101,40]⟩ ++k.pr ++⟨#[41]⟩
 | .bin _ op l r=>par (decide (Bi l.op < Dv op)) l.pr ++(⟨#[32]⟩ ++Bo op ++⟨#[32]⟩) ++par (decide (Bi r.op < Bi op+1)) r.pr
 | .ite _ c t e=>⟨#[105,102,32]⟩ ++c.pr ++⟨#[32,116,104,101,110,32]⟩ ++t.pr ++⟨#[32,101,108,115,101,32]⟩ ++e.pr
def Ex.put (e:Ex) (want:Int):ByteArray:=par (decide (Bi e.op < want)) e.pr
theorem Bt (e:Ex):e.put 0=e.pr:=by
 have:=DU e.op;rw[Ex.put,par,decide_eq_false (by omega)];rfl
theorem XY {e:Ex}{a:Int}(h:a≤Bi e.op):e.put a=e.pr:=by
 rw[Ex.put,par,decide_eq_false (by omega)];rfl
theorem UD {e:Ex}{a:Int}(h:Bi e.op < a):e.put a=⟨#[40]⟩ ++e.pr ++⟨#[41]⟩:=by
 rw[Ex.put,par,decide_eq_true h];rfl
def Ex.fit (w:World):Ex→Prop
 | .int _ n=>0≤n∧n≤9223372036854775807
 | .text _ s=>s.size≤32
 | .bool .. =>True
 | .set _ a n c ss=>Bb w a n c ss∧n≤64∧∀ x∈ss,x.size≤32
 | .name _ s=>s.size≤32
 | .attr .. =>False
 | .lett .. =>False
 | .un _ op k=>(8≤op∧op≤10)∧k.fit w
 | .bin _ op l r=>(11≤op∧op≤26)∧l.fit w∧r.fit w
 | .ite _ c t e=>c.fit w∧t.fit w∧e.fit w
theorem Ex.fit_below {w w':World}{B:Nat}(a:Below B w w')(b:w.heap.size≤B):∀ (e:Ex),e.fit w→e.fit w'
 | .int ..,h=>h
 | .text ..,h=>h
 | .bool ..,h=>h
 | .set ..,h=>⟨h.1.below a b,h.2⟩
 | .name ..,h=>h
 | .attr ..,h=>h
 | .lett ..,h=>h
 | .un _ _ k,h=>⟨h.1,k.fit_below a b h.2⟩
 | .bin _ _ l r,h=>⟨h.1,l.fit_below a b h.2.1,r.fit_below a b h.2.2⟩
 | .ite _ c t e,h=>⟨c.fit_below a b h.1,t.fit_below a b h.2.1,e.fit_below a b h.2.2⟩
theorem Ex.pr_size {w:World} :∀ (e:Ex),e.fit w→e.pr.size≤4000 * e.cnt
 | .int _ n,h=>by
  have:=G6 (n:=n.toNat) (by have:=h.2;omega);simp only[Ex.pr,Ex.cnt];omega
 | .text _ s,h=>by
  have h1:s.size≤32:=h;have e:(⟨#[34]⟩:ByteArray).size=1:=rfl;simp only[Ex.pr,Ex.cnt,ByteArray.size_append];omega
 | .bool _ b,_=>by
  have e1:(⟨#[116,114,117,101]⟩:ByteArray).size=4:=rfl;have e2:(⟨#[102,97,108,115,101]⟩:ByteArray).size=5:=rfl;cases b <;> simp only[Ex.pr,Ex.cnt,if_true,Bool.false_eq_true,if_false] <;> omega
 | .set _ _ n _ ss,h=>by
  have h1:=Fm true ss h.2.2;have h2:=h.1.len;have h3:=h.2.1;have e1:(⟨#[123]⟩:ByteArray).size=1:=rfl;have e2:(⟨#[125]⟩:ByteArray).size=1:=rfl;simp only[Ex.pr,Ex.cnt,Ng,ByteArray.size_append];omega
 | .name _ s,h=>by
  have h1:s.size≤32:=h;simp only[Ex.pr,Ex.cnt];omega
 | .attr ..,h=>absurd h id
 | .lett ..,h=>absurd h id
 | .un _ op k,h=>by
  have h1:=k.pr_size h.2;have a:=GJ (decide (Bi k.op < 7)) k.pr;have d:=GJ (decide (Bi k.op < 3)) k.pr;have e1:(⟨#[45]⟩:ByteArray).size=1:=rfl;have e2:(⟨#[110,111,116,32]⟩:ByteArray).size=4:=rfl;have e3:(⟨#[115,105,122,101,40]⟩:ByteArray).size=5:=rfl;have e4:(⟨#[41]⟩:ByteArray).size=1:=rfl;simp only[Ex.pr,Ex.cnt];split
  ·simp only[ByteArray.size_append];omega
  ·split <;> simp only[ByteArray.size_append] <;> omega
 | .bin _ op l r,h=>by
  have h1:=l.pr_size h.2.1;have h2:=r.pr_size h.2.2;have a:=GJ (decide (Bi l.op < Dv op)) l.pr;have d:=GJ (decide (Bi r.op < Bi op+1)) r.pr;have e1:(⟨#[32]⟩:ByteArray).size=1:=rfl;have e2:=CD op;simp only[Ex.pr,Ex.cnt,ByteArray.size_append];omega
 | .ite _ c t e,h=>by
  have h1:=c.pr_size h.1;have h2:=t.pr_size h.2.1;have h3:=e.pr_size h.2.2;have e1:(⟨#[105,102,32]⟩:ByteArray).size=3:=rfl;have e2:(⟨#[32,116,104,101,110,32]⟩:ByteArray).size=6:=rfl;have e3:(⟨#[32,101,108,115,101,32]⟩:ByteArray).size=6:=rfl;simp only[Ex.pr,Ex.cnt,ByteArray.size_append];omega
theorem Ex.put_size {w:World}(e:Ex)(h:e.fit w)(a:Int):(e.put a).size≤4000 * e.cnt+2:=by
 have h1:=e.pr_size h;have h2:=GJ (decide (Bi e.op < a)) e.pr;rw[Ex.put];omega
inductive CP (N:List Nd):Nat→Ex→Prop
 | int {i:Nat} {x:Nd} (h:N[i]? =some x) (ho:x.op=1) (hk:x.kids= []):CP N i (.int i x.num)
 | text {i:Nat} {x:Nd} (h:N[i]? =some x) (ho:x.op=2) (hk:x.kids= []):CP N i (.text i x.text)
 | bool {i:Nat} {x:Nd} (h:N[i]? =some x) (ho:x.op=3) (hk:x.kids= []):CP N i (.bool i (decide (x.num=1)))
 | set {i:Nat} {x:Nd} (h:N[i]? =some x) (ho:x.op=4) (hk:x.kids= []) (a:Option Addr) (n c:Nat):CP N i (.set i a n c x.names)
 | name {i:Nat} {x:Nd} (h:N[i]? =some x) (ho:x.op=5) (hk:x.kids= []):CP N i (.name i x.text)
 | attr {i:Nat} {x:Nd} (h:N[i]? =some x) (ho:x.op=6) (hk:x.kids= []):CP N i (.attr i x.num)
 | lett {i:Nat} {x:Nd} (h:N[i]? =some x) (ho:x.op=7) (hk:x.kids= []):CP N i (.lett i x.num)
 | un {i k:Nat} {x:Nd} {e:Ex} (h:N[i]? =some x) (ho: 8≤x.op∧x.op≤10) (hk:x.kids= [(k:Int)]) (hi:k < i) (t:CP N k e):CP N i (.un i x.op e)
 | bin {i k l:Nat} {x:Nd} {e f:Ex} (h:N[i]? =some x) (ho: 11≤x.op∧x.op≤26) (hk:x.kids= [(k:Int),(l:Int)]) (hi:k < i∧l < i) (t:CP N k e) (u:CP N l f):CP N i (.bin i x.op e f)
 | ite {i k l m:Nat} {x:Nd} {e f g:Ex} (h:N[i]? =some x) (ho:x.op=27) (hk:x.kids= [(k:Int),(l:Int),(m:Int)]) (hi:k < i∧l < i∧m < i) (t:CP N k e) (u:CP N l f) (v:CP N m g):CP N i (.ite i e f g)
theorem CP.lt {N:List Nd}{i:Nat}{e:Ex}(h:CP N i e):i < N.length:=by
 cases h <;> exact (List.getElem?_eq_some_iff.1 (by assumption)).1
theorem CP.op {N:List Nd}{i:Nat}{e:Ex}(h:CP N i e):∃ x,N[i]? =some x∧x.op=e.op:=by
 cases h <;> exact ⟨_,by assumption,by first | assumption | rfl⟩
def Jf (Es:List Ex):Nat:=(Es.map Ex.cnt).sum
theorem Mk {N:List Nd}{a b:Nat}{z:List (Nat × Nat)}(h:AH (N.map Nd.kids) a z b):∀ (Es:List Ex),Es.length=z.length→(∀ j,(h1:j < z.length)→(h2:j < Es.length)→CP N z[j].1 Es[j])→a+Jf Es=b:=by
 induction h with
 | nil a=>
  intro Es A _;have:Es= []:=List.eq_nil_of_length_eq_zero A;subst this;simp[Jf]
 | @cons a t b ks z hk ht hf E F=>
  intro Es A C
  match Es,A with
  | e ::Es,A=>
   have he:CP N t e:=C 0 (by simp) (by simp);have M:=F Es (by simpa using A) (fun j h1 h2=>C (j+1) (by simpa using h1) (by simpa using h2));have H:∃ x,N[t]? =some x∧x.kids=Ar ks:=by
    rw[List.getElem?_map] at ht;cases hx:N[t]? with
    | none=>rw[hx] at ht;cases ht
    | some x=>rw[hx] at ht;exact ⟨x,rfl,Option.some.inj ht⟩
   obtain ⟨x,hx,I⟩:=H;have O:a+e.cnt=t+1:=by
    have B:∀ (r:List Ex) (s:List Nat),x.kids=s.map (fun (q:Nat)=>(q:Int))→r.length=s.length→(∀ j,(h1:j < s.length)→(h2:j < r.length)→CP N s[j] r[j])→a+Jf r=t:=by
     intro r s hq J K;have e1:ks.map (fun p=>p.1)=s:=by
      have:=I.symm.trans hq;rw[Ar] at this;have h2:=congrArg (List.map Int.toNat) this;simpa[List.map_map,Function.comp_def] using h2
     have e2:ks.length=r.length:=by rw[J,← e1,List.length_map]
     exact (E r e2.symm (fun j h1 h2=>by
      have:=K j (by rw[← e1,List.length_map];exact h1) h2;have e3:s[j]'(by rw[← e1,List.length_map];exact h1)=ks[j].1:=by simp[← e1]
      rw[← e3];exact this))
    have d:∀ {y:Nd},N[t]? =some y→y=x:=fun h=>Option.some.inj (h.symm.trans hx);have w:x.kids= []→a=t:=fun h0=>by
     have:=B [] [] (by rw[h0];rfl) rfl (fun j h=>absurd h (by simp));simpa[Jf] using this
    cases he with
    | int h o hk=>rw[w (d h ▸ hk)];rfl
    | text h o hk=>rw[w (d h ▸ hk)];rfl
    | bool h o hk=>rw[w (d h ▸ hk)];rfl
    | set h o hk a n c=>rw[w (d h ▸ hk)];rfl
    | name h o hk=>rw[w (d h ▸ hk)];rfl
    | attr h o hk=>rw[w (d h ▸ hk)];rfl
    | lett h o hk=>rw[w (d h ▸ hk)];rfl
    | @un i k y e h o hk hi u=>
     have:=B [e] [k] (by rw[← d h,hk];rfl) rfl (fun j h1 h2=>by
      have:j=0:=by simpa using h1
      subst this;exact u)
     simp[Jf] at this;simp only[Ex.cnt];omega
    | @bin i k l y e f h o hk hi u v=>
     have:=B [e,f] [k,l] (by rw[← d h,hk];rfl) rfl (fun j h1 h2=>by
      match j,h1 with
      | 0,_=>exact u
      | 1,_=>exact v)
     simp[Jf] at this;simp only[Ex.cnt];omega
    | @ite i k l m y e f g h o hk hi u v L=>
     have:=B [e,f,g] [k,l,m] (by rw[← d h,hk];rfl) rfl (fun j h1 h2=>by
      match j,h1 with
      | 0,_=>exact u
      | 1,_=>exact v
      | 2,_=>exact L)
     simp[Jf] at this;simp only[Ex.cnt];omega
   have e5:Jf (e ::Es)=e.cnt+Jf Es:=by simp[Jf]
   rw[e5];omega
def Ex.kids:Ex→List Ex
 | .un _ _ k=> [k]
 | .bin _ _ l r=> [l,r]
 | .ite _ c t e=> [c,t,e]
 | _=> []
end Go.Proofs.YtoplnhndilmlcaaGreatDoor
