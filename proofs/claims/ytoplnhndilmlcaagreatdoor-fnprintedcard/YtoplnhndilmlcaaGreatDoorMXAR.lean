/-
  EDI, QG, QB, QI, VPL, VPM0, VPU, VPV, VPW, VPX, TU, TX. Own work.
-/
import Derived.Test.YtoplnhndilmlcaaGreatDoorMXAK
import Derived.Test.YtoplnhndilmlcaaGreatDoorMXAH
import Derived.Test.YtoplnhndilmlcaaGreatDoorMXAC
import Derived.Test.YtoplnhndilmlcaaGreatDoorMXAV
import Derived.Test.YtoplnhndilmlcaaGreatDoorShelf
import Derived.Lib.LaidTab
import Derived.Lib.SmallJoins
import Derived.Test.YtoplnhndilmlcaaGreatDoorMXAG
import Derived.Test.YtoplnhndilmlcaaGreatDoorVPK
import Derived.Test.YtoplnhndilmlcaaGreatDoorMXAU
import Derived.Test.YtoplnhndilmlcaaGreatDoorMXAB
import Derived.Lib.ParseIntB
import Derived.Lib.AtoiErrMem
namespace Go.Proofs.YtoplnhndilmlcaaGreatDoor
set_option maxRecDepth 100000
open Go.RowKit
set_option linter.unusedVariables false
theorem FD {P:Program}{w:World}{d:Array Oper}{f:List Oper}{b:Oper}{a:Act}{j:Exit→Act→World→Prop}(k:b.guard=none)(s x:Operand)(t:TypeId)
  (l:b.op= .call { callee:= .builtin .append,args:=#[s,x],argTypes:=#[t,t] })
  (m:Nat)(e:TypeId)(i:TypeInfo)(size c:Nat)(ht:P.underlying t=some (.slice e))(hi:P.info? e=some i)
  (v:Value)(n:Nat)(o:List Value)(hs:a.eval s=v)(p:w.ownsRow m e size v n o)(hx:a.eval x= .slice none 0 c)
  (h:wpList P d j f (a.put b.dst v) w):wpList P d j (b ::f) a w:=by
 refine wpList_plain k fun K q=>?_;have r:(Builtin.append_ #[t,t] b.type #[v,.slice none 0 c]).run P w= .ok v w:=by
  rcases p.2 with ⟨rfl,rfl⟩ | ⟨g,cap,y,rfl,_,_,u,_⟩
  ·simp[Builtin.append_,run_underlying ht,sizeOf,typeInfo,hi,Builtin.lenOf,Builtin.firstCells]
  ·simp[Builtin.append_,run_underlying ht,sizeOf,typeInfo,hi,Builtin.lenOf,Builtin.firstCells,u,storeCells]
 unfold Oper.wp;simp[execOp,l,resolve,invoke,builtin,hs,hx,r,Result.andThen];exact q _ _ h
theorem AaV (b a j:Nat):(⟨b,a,none⟩:Addr).add j=⟨b,a+j,none⟩:=by
 by_cases e:j=0 <;> simp[Addr.add,e]
theorem Ef {r:Array Oper}{t:List Oper}{f:Oper}{g:Act}{y:Exit→Act→World→Prop}{w:World}(z:f.guard=none)(s x:Operand)(A:f.op= .call { callee:= .builtin .append,args:=#[s,x],argTypes:=#[30,30] })(b:Nat)(v:Value)(k:Nat)(l:List Value)(hs:g.eval s=v)(m:w.ownsRow b 3 1 v k l)(a:Option Addr)(n c:Nat)(d:List Int)(hx:g.eval x= .slice a n c)(h:Do w a n c d)(hk:k+n≤1048576)(B:b≤w.heap.size)
  (C:∀ o w',w'.ownsRow b 3 1 o (k+n) (l ++At d)→Below b w w'→wpList Tryz.prog r y t (g.put f.dst o) w'):wpList Tryz.prog r y (f ::t) g w:=by
 obtain ⟨i,hi,H,I,J⟩:=info_parts Qc;have E:=h.len;cases a with
 | none=>
  have h0:n=0:=by
   rcases Nat.eq_zero_or_pos n with q | q
   ·exact q
   ·obtain ⟨K,L,p,_⟩:=h.cells 0 (by omega);cases p
  subst h0;obtain rfl:d= []:=List.eq_nil_of_length_eq_zero E;exact FD z s x 30 A b 3 i 1 c Tryz.underlying30 hi v k l hs m hx (C v w (by simpa[At] using m) BRN)
 | some M=>
  refine wpList_append_own w z s x 30 A b 3 i (.int .i64 0) 1 8 Tryz.underlying30 hi H I J rfl (by decide) v k l hs m M n c (At d) hx ?_ ?_ ?_ ?_ ?_ B ?_
  ·simp[At,E]
  ·intro j u hu;have F:j < d.length:=by
    have:=(List.getElem?_eq_some_iff.1 hu).1;simpa[At] using this
   obtain ⟨K,L,p,_,N⟩:=h.cells j F;cases p;rw[AaV,N,← hu];simp[At,F]
  ·intro u hu;obtain ⟨s,_,rfl⟩:=List.mem_map.1 hu;rfl
  ·unfold maxLen;omega
  ·omega
  ·intro o w' O P _;exact C o w' O (BRN.grown P B (fun q hq=>(m.lt q hq).1))
set_option maxHeartbeats 1600000
abbrev QP (w:World):Prop:=Lib.TabIs Tryz.prog w "internal/strconv.uint64pow10" .u64 Lib.pow10Tab
theorem AbU: Tryz.prog.globalNamed "internal/strconv.uint64pow10" =some 11:=by kernel_rfl
theorem QP.below {w w':World}{B:Nat}(h:QP w)(a:Below B w w')(b:w.heap.size≤B):QP w':=Joins.tab_stays AbU h (a.mono b) NLN
theorem Nj (x:Int)(w:World)(h0: 0≤x)(hk:x≤9223372036854775807)(ht:QP w):
  Calls Tryz.prog 63 #[.int .i64 x,.int .i64 10] w fun e w'=>e= .returned (.string (F7 x.toNat))∧Below w.heap.size w w':=by
 refine (Tryz.strconv_FormatInt_10 x (by omega) (by omega) w ht).mono ?_;rintro e w' ⟨rfl,k,os,rfl⟩;refine ⟨?_, ?_⟩
 ·rw[Lib.itoa,if_neg (by omega)];rfl
 ·exact ⟨rfl,rfl,rfl,by simp,fun k hk=>by rw[Sort.heap_grow_old _ _ (by simpa using hk)];rfl⟩
theorem DW (B b:Nat)(s acc:ByteArray)(w:World)(g:Nat)(a:w.heap.size=g)(h:Pr B b acc w)(c:acc.size+s.size≤140737488355328):
  Calls Tryz.prog 28 #[.pointer (some ⟨b,0,none⟩),.slice (some ⟨g,0,none⟩) 1 1] (w.alloc (.cells #[.string s] 9)) fun e w'=>e= .returned (.tuple #[])∧Pr B b (acc ++s) w'∧Kp B b w w':=by
 subst a;exact Ck B b s acc w h c
theorem UN (B b:Nat)(s t u acc:ByteArray)(w:World)(g:Nat)(a:w.heap.size=g)(h:Pr B b acc w)(c:acc.size+(s.size+t.size+u.size)≤140737488355328):
  Calls Tryz.prog 28 #[.pointer (some ⟨b,0,none⟩),.slice (some ⟨g,0,none⟩) 3 3] (w.alloc (.cells #[.string s,.string t,.string u] 9)) fun e w'=>e= .returned (.tuple #[])∧Pr B b (acc ++(s ++t ++u)) w'∧Kp B b w w':=by
 subst a;exact Mp B b s t u acc w h c
def Fo (B b:Nat) (acc:ByteArray) (w:World) (r:Ending) (w':World):Prop:=r= .returned (.tuple #[])∧Pr B b acc w'∧Kp B b w w'
def Dk (B b:Nat) (w0:World) (v:Value) (pr:Int→ByteArray) (cnt:Nat):Prop:=
 ∀ (least:Int) (acc:ByteArray) (w:World),Below B w0 w→Pr B b acc w→acc.size+4000 * cnt+2≤100000000000→Calls Tryz.prog 29 #[.pointer (some ⟨b,0,none⟩),v,.int .i64 least] w (Fo B b (acc ++pr least) w)
def ZV (B b:Nat) (w0:World) (e:Ex):Prop:=
 ∀ (least:Int) (acc:ByteArray) (w:World),least≤Bi e.op→Below B w0 w→Pr B b acc w→acc.size+4000 * e.cnt≤100000000000→Calls Tryz.prog 29 #[.pointer (some ⟨b,0,none⟩),e.val,.int .i64 least] w (Fo B b (acc ++e.pr) w)
theorem CE (B b:Nat)(a:World)(e:Ex)(l:Cw a)(x:a.heap.size≤B)(hf:e.fit a)(i:ZV B b a e):Dk B b a e.val e.put e.cnt:=by
 intro m acc w c h n;by_cases o:Bi e.op < m
 ·rw[UD o];have d:=Ab (BR e a w (l.below c x) hf);have f:=Ab (show ∀ (acc:ByteArray) (w:World),Below B a w→Pr B b acc w→acc.size+4000 * e.cnt≤100000000000→Calls Tryz.prog 29 #[.pointer (some ⟨b,0,none⟩),e.val,.int .i64 0] w (Fo B b (acc ++e.pr) w) from fun acc w=>i 0 acc w (DU _));have g:=Ab n;have j:=Ab (e.pr_size hf);obtain ⟨t,u,p⟩:=e.form;rw[p] at d f ⊢;clear p i hf n l;generalize Bi e.op=lv at d o;generalize e.pr=L at f j;generalize e.cnt=cnt at f j g;have y:B≤w.heap.size:=by have:=h.le;omega
  have z:=Ab c;clear c;go_enter Tryz.func29,Tryz.ntmps29
  go_wp2_with fail
  refine (Aa d).mono ?_;rintro r A ⟨rfl,q⟩;have C:=h.below q;have s:Kp B b w A:=Kp.of_all q y;have k:(⟨#[40]⟩:ByteArray).size=1:=rfl;have E:(⟨#[41]⟩:ByteArray).size=1:=rfl;clear d;go_wp2_with fail
  refine (Ck B b _ acc _ C (by have:=Aa g;rw[k];omega)).mono ?_;rintro r M ⟨rfl,F,v⟩;go_wp2_with fail
  refine (Aa f _ _ (((Aa z).trans s.low).trans v.low) F (by have:=Aa g;rw[ByteArray.size_append,k];omega)).mono ?_;rintro r N ⟨rfl,H,I⟩;go_wp2_with fail
  refine (Ck B b _ _ _ H (by have:=Aa g;have:=Aa j;rw[ByteArray.size_append,ByteArray.size_append,k,E];omega)).mono ?_;rintro r O ⟨rfl,J,K⟩;go_wp2_with fail
  go_end0
  exact ⟨rfl,by simpa only[ByteArray.append_assoc] using J,((s.trans v).trans I).trans K⟩
 ·rw[XY (by omega)];exact i m acc w (by omega) c h (by omega)
def unT (op:Int) (pr:Int→ByteArray):ByteArray:=
 if op=8 then ⟨#[45]⟩ ++pr 7 else if op=9 then ⟨#[110,111,116,32]⟩ ++pr 3 else ⟨#[115,105,122,101,40]⟩ ++pr 0 ++⟨#[41]⟩
theorem AaR (i op:Int)(k:Ex):(Ex.un i op k).pr=unT op k.put:=by
 rw[Ex.pr,unT,Bt];rfl
def Yp (op:Int) (p q:Int→ByteArray):ByteArray:=p (Dv op) ++(⟨#[32]⟩ ++Bo op ++⟨#[32]⟩) ++q (Bi op+1)
theorem Yq (i op:Int)(l r:Ex):(Ex.bin i op l r).pr=Yp op l.put r.put:=rfl
theorem V8 (B b:Nat)(q:World)(i op:Int)(t:TypeId)(u:Value)(c:Int→ByteArray)(cnt:Nat)(A: 8≤op∧op≤10)(s:Dk B b q (.iface t u) c cnt)(hs:(c 0).size≤4000 * cnt+2)
  (acc:ByteArray)(w:World)(v:Below B q w)(h:Pr B b acc w)(x:acc.size+4000 * (cnt+1)≤100000000000):
  Calls Tryz.prog 66 #[.pointer (some ⟨b,0,none⟩),.agg #[.int .i64 i,.int .i64 op,.iface t u]] w (Fo B b (acc ++unT op c) w):=by
 have m:=Ab s;have f:=Ab x;have C:=Ab hs;have n:=Ab v;have E:B≤w.heap.size:=by have:=h.le;omega
 have K:=h.le.2;have F:op=8∨op=9∨op=10:=by omega
 clear s x hs v A;have o:=h.alloc (.cells #[.int .i64 i,.int .i64 op,.iface t u] 143);have g:Kp B b w _:=Kp.alloc0 w (.cells #[.int .i64 i,.int .i64 op,.iface t u] 143) E;have p:=Aj.new w #[.int .i64 i,.int .i64 op,.iface t u] 143;rcases F with rfl | rfl | rfl
 ·have d:(⟨#[45]⟩:ByteArray).size=1:=rfl;go_enter Tryz.func66,Tryz.ntmps66
  go_wp2_with fail
  refine (DW B b _ acc _ _ (by simp) o (by have:=Aa f;rw[d];omega)).mono ?_;rintro r y ⟨rfl,j,a⟩;have c1:=(a.row p (by omega) (by decide)).cell 2;simp at c1;go_wp2_with fail
  refine (Aa m _ _ _ (((Aa n).trans g.low).trans a.low) j (by have:=Aa f;rw[ByteArray.size_append,d];omega)).mono ?_;rintro r z ⟨rfl,k,l⟩;go_wp2_with fail
  go_end0
  exact ⟨rfl,by rw[show unT 8 c=⟨#[45]⟩ ++c 7 from rfl];simpa only[ByteArray.append_assoc] using k,(g.trans a).trans l⟩
 ·have d:(⟨#[110,111,116,32]⟩:ByteArray).size=4:=rfl;go_enter Tryz.func66,Tryz.ntmps66
  go_wp2_with fail
  refine (DW B b _ acc _ _ (by simp) o (by have:=Aa f;rw[d];omega)).mono ?_;rintro r y ⟨rfl,j,a⟩;have c1:=(a.row p (by omega) (by decide)).cell 2;simp at c1;go_wp2_with fail
  refine (Aa m _ _ _ (((Aa n).trans g.low).trans a.low) j (by have:=Aa f;rw[ByteArray.size_append,d];omega)).mono ?_;rintro r z ⟨rfl,k,l⟩;go_wp2_with fail
  go_end0
  exact ⟨rfl,by rw[show unT 9 c=⟨#[110,111,116,32]⟩ ++c 3 from rfl];simpa only[ByteArray.append_assoc] using k,(g.trans a).trans l⟩
 ·have d:(⟨#[115,105,122,101,40]⟩:ByteArray).size=5:=rfl;go_enter Tryz.func66,Tryz.ntmps66
  go_wp2_with fail
  refine (DW B b _ acc _ _ (by simp) o (by have:=Aa f;rw[d];omega)).mono ?_;rintro r y ⟨rfl,j,a⟩;have c1:=(a.row p (by omega) (by decide)).cell 2;simp at c1;go_wp2_with fail
  refine (Aa m _ _ _ (((Aa n).trans g.low).trans a.low) j (by have:=Aa f;rw[ByteArray.size_append,d];omega)).mono ?_;rintro r z ⟨rfl,k,l⟩;go_wp2_with fail
  have H:(⟨#[41]⟩:ByteArray).size=1:=rfl;refine (Ck B b _ _ _ k (by have:=Aa f;have:=Aa C;rw[ByteArray.size_append,ByteArray.size_append,d,H];omega)).mono ?_;rintro r L ⟨rfl,I,J⟩;go_wp2_with fail
  go_end0
  exact ⟨rfl,by rw[show unT 10 c=⟨#[115,105,122,101,40]⟩ ++c 0 ++⟨#[41]⟩ from rfl];simpa only[ByteArray.append_assoc] using I,((g.trans a).trans l).trans J⟩
theorem DC {w:World}{b:Nat}{v0 v1 a c:Value}{t:TypeId}(R:Aj w b #[v0,v1,a,c] t):w.cell? ⟨b,0,none⟩=some v0∧w.cell? ⟨b,1,none⟩=some v1∧w.cell? ⟨b,2,none⟩=some a∧w.cell? ⟨b,3,none⟩=some c:=
 ⟨R.cell 0,R.cell 1,R.cell 2,R.cell 3⟩
theorem Tt (B b:Nat)(l:World)(i op:Int)(t:TypeId)(u:Value)(p:Int→ByteArray)(m:Nat)(a:TypeId)(c:Value)(q:Int→ByteArray)(n:Nat)(sg:ByteArray)
  (S:Hid (Dk B b l (.iface t u) p m))(T:Hid (Dk B b l (.iface a c) q n))(z:Hid ((p (5)).size≤4000 * m+2))(A:Hid (sg.size≤6))
  (acc:ByteArray)(w:World)(C:Hid (Below B l w))(h:Pr B b acc w)(o:Hid (acc.size+4000 * (m+n+1)≤100000000000))
  (E:Hid (Calls Tryz.prog 101 #[.int .i64 op] (w.alloc (.cells #[.int .i64 i,.int .i64 op,.iface t u,.iface a c] 146)) fun e w'=>e= .returned (.tuple #[.agg #[.int .i64 op,.int .i64 4,.string sg],.bool true])∧Below (w.heap.size+1) (w.alloc (.cells #[.int .i64 i,.int .i64 op,.iface t u,.iface a c] 146)) w')):
  Calls Tryz.prog 67 #[.pointer (some ⟨b,0,none⟩),.agg #[.int .i64 i,.int .i64 op,.iface t u,.iface a c]] w (Fo B b (acc ++(p (5) ++(⟨#[32]⟩ ++sg ++⟨#[32]⟩) ++q (5))) w):=by
 have U:B≤w.heap.size:=by have:=h.le;omega
 have ag:=h.le.2;have F:=h.alloc (.cells #[.int .i64 i,.int .i64 op,.iface t u,.iface a c] 146);have H:Kp B b w _:=Kp.alloc0 w (.cells #[.int .i64 i,.int .i64 op,.iface t u,.iface a c] 146) U;have I:=Aj.new w #[.int .i64 i,.int .i64 op,.iface t u,.iface a c] 146;have J:(⟨#[32]⟩:ByteArray).size=1:=rfl;go_enter Tryz.func67,Tryz.ntmps67
 go_wp2_with fail
 refine (Aa E).mono ?_;rintro r g ⟨rfl,f⟩;clear E;have d:(w.alloc (.cells #[.int .i64 i,.int .i64 op,.iface t u,.iface a c] 146)).heap.size=w.heap.size+1:=by simp
 have K:=F.below (by rw[d];exact f);have L:Kp B b w g:=H.trans (Kp.of_all (by rw[d];exact f) (by rw[d];omega));have V:=f.size;rw[d] at V;have M:=I.after f (by rw[d];exact NLN);clear I F H f d;have N:=K.alloc (.cells #[.int .i64 op,.int .i64 4,.string sg] 187);have s:Kp B b w _:=L.trans (Kp.alloc0 g (.cells #[.int .i64 op,.int .i64 4,.string sg] 187) (by omega));have v:=M.alloc (.cells #[.int .i64 op,.int .i64 4,.string sg] 187);have O:=Aj.new g #[.int .i64 op,.int .i64 4,.string sg] 187;obtain ⟨W,c1,c2,c3⟩:=DC v;have ah:w.heap.size < g.heap.size:=by omega
 dsimp only;go_wp2_with fail
 refine (Aa S _ _ _ ((Aa C).trans s.low) N (by have:=Aa o;omega)).mono ?_;rintro r ai ⟨rfl,P,j⟩;have x:=j.row v (by omega) (by decide);have y:=j.row O (by omega) (by decide);have Q:=s.trans j;obtain ⟨X,d1,d2,d3⟩:=DC x;obtain ⟨Y,Z,aa,_⟩:=Gt y;clear M v O L s j K N W c1 c2 c3;dsimp only;go_wp2_with fail
 refine (Mp B b _ _ _ _ _ P (by have:=Aa o;have:=Aa z;have:=Aa A;rw[ByteArray.size_append,J];omega)).mono ?_;rintro r aj ⟨rfl,ab,k⟩;have ac:=k.row x (by omega) (by decide);have ad:=k.row y (by omega) (by decide);have R:=Q.trans k;obtain ⟨ak,f1,f2,al⟩:=DC ac;obtain ⟨ao,g1,g2,_⟩:=Gt ad;clear x y Q k P X d1 d2 d3 Y Z aa;dsimp only;go_wp2_with fail
 refine (Aa T _ _ _ ((Aa C).trans R.low) ab (by have:=Aa o;have:=Aa z;have:=Aa A;rw[ByteArray.size_append,ByteArray.size_append,ByteArray.size_append,ByteArray.size_append,J];omega)).mono ?_;rintro r ap ⟨rfl,ae,af⟩;dsimp only;go_wp2_with fail
 go_end0
 exact ⟨rfl,by simpa only[ByteArray.append_assoc] using ae,R.trans af⟩
theorem Py (B b:Nat)(l:World)(i op:Int)(t:TypeId)(u:Value)(p:Int→ByteArray)(m:Nat)(a:TypeId)(c:Value)(q:Int→ByteArray)(n:Nat)(lv:Int)(sg:ByteArray)(h0: 0≤lv)(h8:lv≤8)(h4:(lv== 4)=false)
  (S:Hid (Dk B b l (.iface t u) p m))(T:Hid (Dk B b l (.iface a c) q n))(z:Hid ((p (lv)).size≤4000 * m+2))(A:Hid (sg.size≤6))
  (acc:ByteArray)(w:World)(C:Hid (Below B l w))(h:Pr B b acc w)(o:Hid (acc.size+4000 * (m+n+1)≤100000000000))
  (E:Hid (Calls Tryz.prog 101 #[.int .i64 op] (w.alloc (.cells #[.int .i64 i,.int .i64 op,.iface t u,.iface a c] 146)) fun e w'=>e= .returned (.tuple #[.agg #[.int .i64 op,.int .i64 lv,.string sg],.bool true])∧Below (w.heap.size+1) (w.alloc (.cells #[.int .i64 i,.int .i64 op,.iface t u,.iface a c] 146)) w')):
  Calls Tryz.prog 67 #[.pointer (some ⟨b,0,none⟩),.agg #[.int .i64 i,.int .i64 op,.iface t u,.iface a c]] w (Fo B b (acc ++(p (lv) ++(⟨#[32]⟩ ++sg ++⟨#[32]⟩) ++q (lv+1))) w):=by
 have U:B≤w.heap.size:=by have:=h.le;omega
 have ag:=h.le.2;have F:=h.alloc (.cells #[.int .i64 i,.int .i64 op,.iface t u,.iface a c] 146);have H:Kp B b w _:=Kp.alloc0 w (.cells #[.int .i64 i,.int .i64 op,.iface t u,.iface a c] 146) U;have I:=Aj.new w #[.int .i64 i,.int .i64 op,.iface t u,.iface a c] 146;have J:(⟨#[32]⟩:ByteArray).size=1:=rfl;go_enter Tryz.func67,Tryz.ntmps67
 go_wp2_with fail
 refine (Aa E).mono ?_;rintro r g ⟨rfl,f⟩;clear E;have d:(w.alloc (.cells #[.int .i64 i,.int .i64 op,.iface t u,.iface a c] 146)).heap.size=w.heap.size+1:=by simp
 have K:=F.below (by rw[d];exact f);have L:Kp B b w g:=H.trans (Kp.of_all (by rw[d];exact f) (by rw[d];omega));have V:=f.size;rw[d] at V;have M:=I.after f (by rw[d];exact NLN);clear I F H f d;have N:=K.alloc (.cells #[.int .i64 op,.int .i64 lv,.string sg] 187);have s:Kp B b w _:=L.trans (Kp.alloc0 g (.cells #[.int .i64 op,.int .i64 lv,.string sg] 187) (by omega));have v:=M.alloc (.cells #[.int .i64 op,.int .i64 lv,.string sg] 187);have O:=Aj.new g #[.int .i64 op,.int .i64 lv,.string sg] 187;obtain ⟨W,c1,c2,c3⟩:=DC v;have ah:w.heap.size < g.heap.size:=by omega
 dsimp only;go_wp2_with fail
 refine (Aa S _ _ _ ((Aa C).trans s.low) N (by have:=Aa o;omega)).mono ?_;rintro r ai ⟨rfl,P,j⟩;have x:=j.row v (by omega) (by decide);have y:=j.row O (by omega) (by decide);have Q:=s.trans j;obtain ⟨X,d1,d2,d3⟩:=DC x;obtain ⟨Y,Z,aa,_⟩:=Gt y;clear M v O L s j K N W c1 c2 c3;dsimp only;go_wp2_with fail
 refine (Mp B b _ _ _ _ _ P (by have:=Aa o;have:=Aa z;have:=Aa A;rw[ByteArray.size_append,J];omega)).mono ?_;rintro r aj ⟨rfl,ab,k⟩;have ac:=k.row x (by omega) (by decide);have ad:=k.row y (by omega) (by decide);have R:=Q.trans k;obtain ⟨ak,f1,f2,al⟩:=DC ac;obtain ⟨ao,g1,g2,_⟩:=Gt ad;clear x y Q k P X d1 d2 d3 Y Z aa;dsimp only;go_wp2_with fail
 refine (Aa T _ _ _ ((Aa C).trans R.low) ab (by have:=Aa o;have:=Aa z;have:=Aa A;rw[ByteArray.size_append,ByteArray.size_append,ByteArray.size_append,ByteArray.size_append,J];omega)).mono ?_;rintro r ap ⟨rfl,ae,af⟩;dsimp only;go_wp2_with fail
 go_end0
 exact ⟨rfl,by simpa only[ByteArray.append_assoc] using ae,R.trans af⟩
theorem TB (B b:Nat)(a:World)(i op:Int)(t:TypeId)(u:Value)(p:Int→ByteArray)(m:Nat)(c:TypeId)(d:Value)(q:Int→ByteArray)(n:Nat)(o: 11≤op∧op≤26)(r:Cw a)(s:a.heap.size≤B)
  (j:Dk B b a (.iface t u) p m)(k:Dk B b a (.iface c d) q n)(hs:(p (Dv op)).size≤4000 * m+2)
  (acc:ByteArray)(w:World)(g:Below B a w)(h:Pr B b acc w)(l:acc.size+4000 * (m+n+1)≤100000000000):
  Calls Tryz.prog 67 #[.pointer (some ⟨b,0,none⟩),.agg #[.int .i64 i,.int .i64 op,.iface t u,.iface c d]] w (Fo B b (acc ++Yp op p q) w):=by
 have v:B≤w.heap.size:=by have:=h.le;omega
 have x:Kp B b w _:=Kp.alloc0 w (.cells #[.int .i64 i,.int .i64 op,.iface t u,.iface c d] 146) v;have f:=Ab (EQ op _ (r.below (g.trans x.low) s) o);simp only[World.size_alloc] at f;by_cases h4:Bi op=4
 ·have e1:Dv op=5:=by rw[Dv,if_pos h4]
  rw[e1] at hs;rw[h4] at f;have:=Tt B b a i op t u p m c d q n (Bo op) (Ab j) (Ab k) (Ab hs) (Ab (CD op)) acc w (Ab g) h (Ab l) f;rw[Yp,e1,h4];exact this
 ·have e1:Dv op=Bi op:=by rw[Dv,if_neg h4]
  rw[e1] at hs;have:=Py B b a i op t u p m c d q n (Bi op) (Bo op) (DU op) (F8 op) (beq_eq_false_iff_ne.2 h4) (Ab j) (Ab k) (Ab hs) (Ab (CD op)) acc w (Ab g) h (Ab l) f;rw[Yp,e1];exact this
theorem Abl (B b:Nat)(a:World)(o:Cw a)(p:QP a)(g:a.heap.size≤B)(i n:Int)(hf:(Ex.int i n).fit a):ZV B b a (.int i n):=by
 intro q acc w j k h l;have c:=Ab (BR (.int i n) a w (o.below k g) hf);have s:decide (Bi (Ex.int i n).op < q)=false:=decide_eq_false (by omega);generalize Bi (Ex.int i n).op=lv at c s j;have t:B≤w.heap.size:=by have:=h.le;omega
 have K:=h.le.2;simp only[Ex.cnt] at l;have u:=Ab l;have v:=p.below k g;have h0: 0≤n:=hf.1;have h1:n≤9223372036854775807:=hf.2;clear hf;simp only[Ex.val] at c ⊢;clear j;have L:=BU (T:=130) Tryz.underlying130 45;go_enter Tryz.func29,Tryz.ntmps29
 go_wp2_with fail
 refine (Aa c).mono ?_;rintro r d ⟨rfl,f⟩;have x:=h.below f;have y:Kp B b w d:=Kp.of_all f t;have M:=f.size;clear c;dsimp only;have z:=(v.below f NLN).below ((Below.refl d.heap.size d).alloc NLN (.cells #[.int .i64 i,.int .i64 n] 130)) NLN;have A:=x.alloc (.cells #[.int .i64 i,.int .i64 n] 130);have C:Kp B b w _:=y.trans (Kp.alloc0 d (.cells #[.int .i64 i,.int .i64 n] 130) (by omega));go_wp2_with fail
 refine (Nj _ _ h0 h1 z).mono ?_;rintro r E ⟨rfl,m⟩;have F:=A.below m;have H:Kp B b w E:=C.trans (Kp.of_all m (by simp;omega));have N:=G6 (n:=n.toNat) (by omega);dsimp only;go_wp2_with fail
 refine (Ck B b _ acc _ F (by have:=Aa u;omega)).mono ?_;rintro r O ⟨rfl,I,J⟩;dsimp only;go_wp2_with fail
 go_end0
 exact ⟨rfl,I,H.trans J⟩
theorem ZW (B b:Nat)(a:World)(k:Cw a)(C:QP a)(l:a.heap.size≤B)(i:Int)(s:ByteArray)(hf:(Ex.text i s).fit a):ZV B b a (.text i s):=by
 intro m acc w f n h g;have c:=Ab (BR (.text i s) a w (k.below n l) hf);have o:decide (Bi (Ex.text i s).op < m)=false:=decide_eq_false (by omega);generalize Bi (Ex.text i s).op=lv at c o f;have p:B≤w.heap.size:=by have:=h.le;omega
 have E:=h.le.2;simp only[Ex.cnt] at g;have q:=Ab g;have h1:s.size≤32:=hf;have t:(⟨#[34]⟩:ByteArray).size=1:=rfl;clear hf;simp only[Ex.val] at c ⊢;clear f;have F:=Ah (S:=133) (T:=130) Tryz.underlying130 Tryz.zeroValue130 (by decide) 45;have a1:=BU (T:=133) Tryz.underlying133 45;go_enter Tryz.func29,Tryz.ntmps29
 go_wp2_with fail
 refine (Aa c).mono ?_;rintro r j ⟨rfl,d⟩;have u:=h.below d;have v:Kp B b w j:=Kp.of_all d p;have H:=d.size;clear c;dsimp only;have x:=u.alloc (.cells #[.int .i64 i,.string s] 133);have y:Kp B b w _:=v.trans (Kp.alloc0 j (.cells #[.int .i64 i,.string s] 133) (by omega));go_wp2_with fail
 refine (UN B b _ _ _ acc _ _ (by simp) x (by have:=Aa q;rw[t];omega)).mono ?_;rintro r I ⟨rfl,z,A⟩;dsimp only;go_wp2_with fail
 go_end0
 exact ⟨rfl,z,y.trans A⟩
theorem ZX (B b:Nat)(a:World)(k:Cw a)(A:QP a)(l:a.heap.size≤B)(i:Int)(s:ByteArray)(hf:(Ex.name i s).fit a):ZV B b a (.name i s):=by
 intro m acc w f n h g;have c:=Ab (BR (.name i s) a w (k.below n l) hf);have o:decide (Bi (Ex.name i s).op < m)=false:=decide_eq_false (by omega);generalize Bi (Ex.name i s).op=lv at c o f;have p:B≤w.heap.size:=by have:=h.le;omega
 have C:=h.le.2;simp only[Ex.cnt] at g;have q:=Ab g;have h1:s.size≤32:=hf;clear hf;simp only[Ex.val] at c ⊢;clear f;have E:=Ah (S:=141) (T:=130) Tryz.underlying130 Tryz.zeroValue130 (by decide) 45;have a1:=Ah (S:=141) (T:=133) Tryz.underlying133 Tryz.zeroValue133 (by decide) 45;have a2:=Ah (S:=141) (T:=135) Tryz.underlying135 Tryz.zeroValue135 (by decide) 45;have a3:=Ah (S:=141) (T:=138) Tryz.underlying138 Tryz.zeroValue138 (by decide) 45;have a4:=BU (T:=141) Tryz.underlying141 45;go_enter Tryz.func29,Tryz.ntmps29
 go_wp2_with fail
 refine (Aa c).mono ?_;rintro r j ⟨rfl,d⟩;have t:=h.below d;have u:Kp B b w j:=Kp.of_all d p;have F:=d.size;clear c;dsimp only;have v:=t.alloc (.cells #[.int .i64 i,.string s] 141);have x:Kp B b w _:=u.trans (Kp.alloc0 j (.cells #[.int .i64 i,.string s] 141) (by omega));go_wp2_with fail
 refine (DW B b _ acc _ _ (by simp) v (by have:=Aa q;omega)).mono ?_;rintro r H ⟨rfl,y,z⟩;dsimp only;go_wp2_with fail
 go_end0
 exact ⟨rfl,y,x.trans z⟩
theorem Ms (b:Bool)(w:World):
  Calls Tryz.prog 64 #[.bool b] w fun e w'=>e= .returned (.string (if b then ⟨#[116,114,117,101]⟩ else ⟨#[102,97,108,115,101]⟩))∧w'=w:=by
 cases b
 ·go_enter Tryz.func64,Tryz.ntmps64
  go_wp2
  go_ret
  exact ⟨rfl,rfl⟩
 ·go_enter Tryz.func64,Tryz.ntmps64
  go_wp2
  go_ret
  exact ⟨rfl,rfl⟩
theorem ZY (B b:Nat)(a:World)(m:Cw a)(H:QP a)(n:a.heap.size≤B)(i:Int)(v:Bool)(hf:(Ex.bool i v).fit a):ZV B b a (.bool i v):=by
 intro o acc w f p h g;have c:=Ab (BR (.bool i v) a w (m.below p n) hf);have q:decide (Bi (Ex.bool i v).op < o)=false:=decide_eq_false (by omega);generalize Bi (Ex.bool i v).op=lv at c q f;have t:B≤w.heap.size:=by have:=h.le;omega
 have I:=h.le.2;simp only[Ex.cnt] at g;have u:=Ab g;clear hf;have j:=Ab (Ms v);have e5:(if v then (⟨#[116,114,117,101]⟩:ByteArray) else ⟨#[102,97,108,115,101]⟩).size≤5:=by cases v <;> decide
 have k:=Ab (show (Ex.bool i v).pr=if v then (⟨#[116,114,117,101]⟩:ByteArray) else ⟨#[102,97,108,115,101]⟩ from rfl);rw[Aa k];clear k;generalize (if v then (⟨#[116,114,117,101]⟩:ByteArray) else ⟨#[102,97,108,115,101]⟩)=s at j e5 ⊢;simp only[Ex.val] at c ⊢;clear f;have J:=Ah (S:=135) (T:=130) Tryz.underlying130 Tryz.zeroValue130 (by decide) 45;have a1:=Ah (S:=135) (T:=133) Tryz.underlying133 Tryz.zeroValue133 (by decide) 45;have a2:=BU (T:=135) Tryz.underlying135 45;go_enter Tryz.func29,Tryz.ntmps29
 go_wp2_with fail
 refine (Aa c).mono ?_;rintro r l ⟨rfl,d⟩;have x:=h.below d;have y:Kp B b w l:=Kp.of_all d t;have K:=d.size;clear c;dsimp only;have z:=x.alloc (.cells #[.int .i64 i,.bool v] 135);have A:Kp B b w _:=y.trans (Kp.alloc0 l (.cells #[.int .i64 i,.bool v] 135) (by omega));go_wp2_with fail
 refine (Aa j _).mono ?_;rintro r L ⟨rfl,C⟩;subst C;dsimp only;go_wp2_with fail
 refine (DW B b _ acc _ _ (by simp) z (by have:=Aa u;omega)).mono ?_;rintro r M ⟨rfl,E,F⟩;dsimp only;go_wp2_with fail
 go_end0
 exact ⟨rfl,E,A.trans F⟩
theorem Abm (B b:Nat)(d:World)(t:Cw d)(I:QP d)(m:d.heap.size≤B)(i:Int)(a:Option Addr)(n c:Nat)(f:List ByteArray)(hf:(Ex.set i a n c f).fit d):ZV B b d (.set i a n c f):=by
 intro u acc w o j h p;have g:=Ab (BR (.set i a n c f) d w (t.below j m) hf);have v:decide (Bi (Ex.set i a n c f).op < u)=false:=decide_eq_false (by omega);generalize Bi (Ex.set i a n c f).op=lv at g v o;have x:B≤w.heap.size:=by have:=h.le;omega
 have J:=h.le.2;simp only[Ex.cnt] at p;have y:=Ab p;have k:=Ab hf;have z:=Ab j;clear hf j;simp only[Ex.val] at g ⊢;clear o;have K:=Ah (S:=138) (T:=130) Tryz.underlying130 Tryz.zeroValue130 (by decide) 45;have a1:=Ah (S:=138) (T:=133) Tryz.underlying133 Tryz.zeroValue133 (by decide) 45;have a2:=Ah (S:=138) (T:=135) Tryz.underlying135 Tryz.zeroValue135 (by decide) 45;have a3:=BU (T:=138) Tryz.underlying138 45;go_enter Tryz.func29,Tryz.ntmps29
 go_wp2_with fail
 refine (Aa g).mono ?_;rintro r q ⟨rfl,l⟩;have A:=h.below l;have C:Kp B b w q:=Kp.of_all l x;have L:=l.size;clear g;dsimp only;have E:=A.alloc (.cells #[.int .i64 i,.slice a n c] 138);have s:Kp B b w _:=C.trans (Kp.alloc0 q (.cells #[.int .i64 i,.slice a n c] 138) (by omega));go_wp2_with fail
 refine (ZU B b d a n c f (Aa k).1 m (Aa k).2.1 (Aa k).2.2 acc _ ((Aa z).trans s.low) E (by have:=Aa y;omega)).mono ?_;rintro r M ⟨rfl,F,H⟩;dsimp only;go_wp2_with fail
 go_end0
 exact ⟨rfl,F,s.trans H⟩
theorem Ab1 (B b:Nat)(a:World)(x:Cw a)(M:QP a)(y:a.heap.size≤B)(i op:Int)(k:Ex)(hf:(Ex.un i op k).fit a)(d:Dk B b a k.val k.put k.cnt):ZV B b a (.un i op k):=by
 intro z acc w n f h g;have c:=Ab (BR (.un i op k) a w (x.below f y) hf);have A:decide (Bi (Ex.un i op k).op < z)=false:=decide_eq_false (by omega);generalize Bi (Ex.un i op k).op=lv at c A n;have C:B≤w.heap.size:=by have:=h.le;omega
 have N:=h.le.2;simp only[Ex.cnt] at g;have o:=Ab g;have E:=Ab hf.1;have j:=Ab (show (k.put 0).size≤4000 * k.cnt+2 from k.put_size hf.2 0);have F:=Ab f;rw[AaR];simp only[Ex.val] at c ⊢;obtain ⟨t,u,q⟩:=k.form;rw[q] at c d ⊢;have l:=Ab d;clear q hf f d g;generalize k.put=p at l j;generalize k.cnt=cnt at l j o;clear n;have O:=Ah (S:=143) (T:=130) Tryz.underlying130 Tryz.zeroValue130 (by decide) 45;have a1:=Ah (S:=143) (T:=133) Tryz.underlying133 Tryz.zeroValue133 (by decide) 45;have a2:=Ah (S:=143) (T:=135) Tryz.underlying135 Tryz.zeroValue135 (by decide) 45;have a3:=Ah (S:=143) (T:=138) Tryz.underlying138 Tryz.zeroValue138 (by decide) 45;have a4:=Ah (S:=143) (T:=141) Tryz.underlying141 Tryz.zeroValue141 (by decide) 45;have a5:=BU (T:=143) Tryz.underlying143 45;go_enter Tryz.func29,Tryz.ntmps29
 go_wp2_with fail
 refine (Aa c).mono ?_;rintro r s ⟨rfl,m⟩;have H:=h.below m;have I:Kp B b w s:=Kp.of_all m C;have P:=m.size;clear c;dsimp only;have J:=H.alloc (.cells #[.int .i64 i,.int .i64 op,.iface t u] 143);have v:Kp B b w _:=I.trans (Kp.alloc0 s (.cells #[.int .i64 i,.int .i64 op,.iface t u] 143) (by omega));go_wp2_with fail
 refine (V8 B b a i op t u p cnt (Aa E) (Aa l) (Aa j) acc _ ((Aa F).trans v.low) J (Aa o)).mono ?_;rintro r Q ⟨rfl,K,L⟩;dsimp only;go_wp2_with fail
 go_end0
 exact ⟨rfl,K,v.trans L⟩
theorem Abn (B b:Nat)(a:World)(d:Cw a)(Y:QP a)(H:a.heap.size≤B)(i op:Int)(k l:Ex)(hf:(Ex.bin i op k l).fit a)(f:Dk B b a k.val k.put k.cnt)(g:Dk B b a l.val l.put l.cnt):ZV B b a (.bin i op k l):=by
 intro L acc w I j h o;have c:=Ab (BR (.bin i op k l) a w (d.below j H) hf);have M:decide (Bi (Ex.bin i op k l).op < L)=false:=decide_eq_false (by omega);generalize Bi (Ex.bin i op k l).op=lv at c M I;have N:B≤w.heap.size:=by have:=h.le;omega
 have Z:=h.le.2;simp only[Ex.cnt] at o;have s:=Ab o;have O:=Ab hf.1;have v:=Ab (show (k.put (Dv op)).size≤4000 * k.cnt+2 from k.put_size hf.2.1 _);have P:=Ab d;have Q:=Ab j;rw[Yq];simp only[Ex.val] at c ⊢;obtain ⟨t,u,x⟩:=k.form;obtain ⟨y,z,A⟩:=l.form;rw[x,A] at c ⊢;rw[x] at f;rw[A] at g;have C:=Ab f;have E:=Ab g;clear x A hf j f g o d;generalize k.put=p at C v;generalize k.cnt=m at C v s;generalize l.put=q at E;generalize l.cnt=n at E s;clear I;have aa:=Ah (S:=146) (T:=130) Tryz.underlying130 Tryz.zeroValue130 (by decide) 45;have a1:=Ah (S:=146) (T:=133) Tryz.underlying133 Tryz.zeroValue133 (by decide) 45;have a2:=Ah (S:=146) (T:=135) Tryz.underlying135 Tryz.zeroValue135 (by decide) 45;have a3:=Ah (S:=146) (T:=138) Tryz.underlying138 Tryz.zeroValue138 (by decide) 45;have a4:=Ah (S:=146) (T:=141) Tryz.underlying141 Tryz.zeroValue141 (by decide) 45;have a5:=Ah (S:=146) (T:=143) Tryz.underlying143 Tryz.zeroValue143 (by decide) 45;have a6:=BU (T:=146) Tryz.underlying146 45;go_enter Tryz.func29,Tryz.ntmps29
 go_wp2_with fail
 refine (Aa c).mono ?_;rintro r J ⟨rfl,F⟩;have R:=h.below F;have U:Kp B b w J:=Kp.of_all F N;have ab:=F.size;clear c;dsimp only;have V:=R.alloc (.cells #[.int .i64 i,.int .i64 op,.iface t u,.iface y z] 146);have K:Kp B b w _:=U.trans (Kp.alloc0 J (.cells #[.int .i64 i,.int .i64 op,.iface t u,.iface y z] 146) (by omega));go_wp2_with fail
 refine (TB B b a i op t u p m y z q n (Aa O) (Aa P) H (Aa C) (Aa E) (Aa v) acc _ ((Aa Q).trans K.low) V (Aa s)).mono ?_;rintro r ac ⟨rfl,W,X⟩;dsimp only;go_wp2_with fail
 go_end0
 exact ⟨rfl,W,K.trans X⟩
theorem Abo (B b:Nat)(a:World)(X:Cw a)(aD:QP a)(ak:a.heap.size≤B)(i:Int)(c t e:Ex)(hf:(Ex.ite i c t e).fit a)(k:Dk B b a c.val c.put c.cnt)(l:Dk B b a t.val t.put t.cnt)(m:Dk B b a e.val e.put e.cnt):ZV B b a (.ite i c t e):=by
 intro al acc w Y n h o;have g:=Ab (BR (.ite i c t e) a w (X.below n ak) hf);have ao:decide (Bi (Ex.ite i c t e).op < al)=false:=decide_eq_false (by omega);generalize Bi (Ex.ite i c t e).op=lv at g ao Y;have ap:B≤w.heap.size:=by have:=h.le;omega
 have aE:=h.le.2;simp only[Ex.cnt] at o;have d:=Ab o;have f:=Ab (show (c.put 0).size≤4000 * c.cnt+2 from c.put_size hf.1 _);have j:=Ab (show (t.put 0).size≤4000 * t.cnt+2 from t.put_size hf.2.1 _);have p:=Ab n;have Z:=Ab (show (Ex.ite i c t e).pr=⟨#[105,102,32]⟩ ++c.put 0 ++⟨#[32,116,104,101,110,32]⟩ ++t.put 0 ++⟨#[32,101,108,115,101,32]⟩ ++e.put 0 by rw[Bt,Bt,Bt];rfl);rw[Aa Z];simp only[Ex.val] at g ⊢;obtain ⟨q,s,u⟩:=c.form;obtain ⟨v,x,y⟩:=t.form;obtain ⟨z,A,C⟩:=e.form;rw[u,y,C] at g ⊢;rw[u] at k;rw[y] at l;rw[C] at m;have E:=Ab k;have F:=Ab l;have H:=Ab m;clear u y C hf n k l m o X Z;generalize c.put=aF at E f;generalize c.cnt=aG at E f d;generalize t.put=aH at F j;generalize t.cnt=aI at F j d;generalize e.put=pe at H;generalize e.cnt=me at H d;have e1:(⟨#[105,102,32]⟩:ByteArray).size=3:=rfl;have e2:(⟨#[32,116,104,101,110,32]⟩:ByteArray).size=6:=rfl;have e3:(⟨#[32,101,108,115,101,32]⟩:ByteArray).size=6:=rfl;clear Y;have aJ:=Ah (S:=149) (T:=130) Tryz.underlying130 Tryz.zeroValue130 (by decide) 45;have a1:=Ah (S:=149) (T:=133) Tryz.underlying133 Tryz.zeroValue133 (by decide) 45;have a2:=Ah (S:=149) (T:=135) Tryz.underlying135 Tryz.zeroValue135 (by decide) 45;have a3:=Ah (S:=149) (T:=138) Tryz.underlying138 Tryz.zeroValue138 (by decide) 45;have a4:=Ah (S:=149) (T:=141) Tryz.underlying141 Tryz.zeroValue141 (by decide) 45;have a5:=Ah (S:=149) (T:=143) Tryz.underlying143 Tryz.zeroValue143 (by decide) 45;have a6:=Ah (S:=149) (T:=146) Tryz.underlying146 Tryz.zeroValue146 (by decide) 45;have aK:=BU (T:=149) Tryz.underlying149 45;go_enter Tryz.func29,Tryz.ntmps29
 go_wp2_with fail
 refine (Aa g).mono ?_;rintro r I ⟨rfl,J⟩;have aq:=h.below J;have ar:Kp B b w I:=Kp.of_all J ap;have aL:=J.size;clear g;dsimp only;have aa:=aq.alloc (.cells #[.int .i64 i,.iface q s,.iface v x,.iface z A] 149);have ab:Kp B b w _:=ar.trans (Kp.alloc0 I (.cells #[.int .i64 i,.iface q s,.iface v x,.iface z A] 149) (by omega));have ac:=Aj.new I #[.int .i64 i,.iface q s,.iface v x,.iface z A] 149;go_wp2_with fail
 refine (DW B b _ acc _ _ (by simp) aa (by have:=Aa d;rw[e1];omega)).mono ?_;rintro r aM ⟨rfl,ad,K⟩;have L:=K.row ac (by omega) (by decide);have M:=ab.trans K;obtain ⟨au,c1,c2,c3⟩:=DC L;clear ac ab aa K;dsimp only;go_wp2_with fail
 refine (Aa E _ _ _ ((Aa p).trans M.low) ad (by have:=Aa d;rw[ByteArray.size_append,e1];omega)).mono ?_;rintro r aN ⟨rfl,ae,N⟩;have O:=N.row L (by omega) (by decide);have af:=M.trans N;obtain ⟨av,d1,d2,d3⟩:=DC O;clear L M ad N au c1 c2 c3;dsimp only;go_wp2_with fail
 refine (Ck B b _ _ _ ae (by have:=Aa d;have:=Aa f;rw[ByteArray.size_append,ByteArray.size_append,e1,e2];omega)).mono ?_;rintro r aO ⟨rfl,ag,P⟩;have Q:=P.row O (by omega) (by decide);have R:=af.trans P;obtain ⟨aw,f1,f2,ax⟩:=DC Q;clear O af ae P av d1 d2 d3;dsimp only;go_wp2_with fail
 refine (Aa F _ _ _ ((Aa p).trans R.low) ag (by have:=Aa d;have:=Aa f;rw[ByteArray.size_append,ByteArray.size_append,ByteArray.size_append,e1,e2];omega)).mono ?_;rintro r aP ⟨rfl,ah,U⟩;have V:=U.row Q (by omega) (by decide);have ai:=R.trans U;obtain ⟨ay,g1,g2,g3⟩:=DC V;clear Q R ag U aw f1 f2 ax;dsimp only;go_wp2_with fail
 refine (Ck B b _ _ _ ah (by have:=Aa d;have:=Aa f;have:=Aa j;rw[ByteArray.size_append,ByteArray.size_append,ByteArray.size_append,ByteArray.size_append,e1,e2,e3];omega)).mono ?_;rintro r aQ ⟨rfl,az,W⟩;have aA:=W.row V (by omega) (by decide);have aj:=ai.trans W;obtain ⟨aR,aS,aT,aU⟩:=DC aA;clear V ai ah W ay g1 g2 g3;dsimp only;go_wp2_with fail
 refine (Aa H _ _ _ ((Aa p).trans aj.low) az (by have:=Aa d;have:=Aa f;have:=Aa j;rw[ByteArray.size_append,ByteArray.size_append,ByteArray.size_append,ByteArray.size_append,ByteArray.size_append,e1,e2,e3];omega)).mono ?_;rintro r aV ⟨rfl,aB,aC⟩;dsimp only;go_wp2_with fail
 go_end0
 exact ⟨rfl,by simpa only[ByteArray.append_assoc] using aB,aj.trans aC⟩
theorem BC (B b:Nat)(d:World)(f:Cw d)(j:QP d)(g:d.heap.size≤B):∀ (e:Ex),e.fit d→Dk B b d e.val e.put e.cnt
 | .int i n,h=>CE B b d _ f g h (Abl B b d f j g i n h)
 | .text i s,h=>CE B b d _ f g h (ZW B b d f j g i s h)
 | .bool i v,h=>CE B b d _ f g h (ZY B b d f j g i v h)
 | .set i a n c ss,h=>CE B b d _ f g h (Abm B b d f j g i a n c ss h)
 | .name i s,h=>CE B b d _ f g h (ZX B b d f j g i s h)
 | .attr ..,h=>absurd h id
 | .lett ..,h=>absurd h id
 | .un i op k,h=>CE B b d _ f g h (Ab1 B b d f j g i op k h (BC B b d f j g k h.2))
 | .bin i op k l,h=>CE B b d _ f g h (Abn B b d f j g i op k l h (BC B b d f j g k h.2.1) (BC B b d f j g l h.2.2))
 | .ite i c t e,h=>CE B b d _ f g h (Abo B b d f j g i c t e h (BC B b d f j g c h.1) (BC B b d f j g t h.2.1) (BC B b d f j g e h.2.2))
theorem Kw {w:World}{a:Nat}{x:Option Addr}{n c:Nat}{L:List Int}(h:w.ownsRow a 3 1 (.slice x n c) n (At L))(b:n≤1048576):Do w x n c L:=by
 have d:L.length=n:=by have:=h.1;rw[At,List.length_map] at this;omega
 refine ⟨d,b,fun j f=>?_⟩;obtain ⟨l,m,i,hc⟩:=Af h;cases i;obtain ⟨g,rfl,_,k⟩:=hc (by omega);refine ⟨g,0,rfl,(h.lt g rfl).2, ?_⟩;rw[Nat.zero_add];exact k j _ (by rw[At,List.getElem?_map,List.getElem?_eq_getElem f];rfl)
def EP (N:List Nd) (L:List St):Bool:=match Cj (N.map Nd.kids) N.length [] 0 with
 | none=>false
 | some S=>decide (Ar S=L.flatMap An)
theorem JT {w:World}{b:Nat}{v0 v1:Value}{t:TypeId}(R:Aj w b #[v0,v1] t):w.cell? ⟨b,0,none⟩=some v0∧w.cell? ⟨b,1,none⟩=some v1:=⟨R.cell 0,R.cell 1⟩
theorem Sc {K:List (List Int)} :∀ {k:Nat} {S:List (Nat × Nat)},Cj K k [] 0=some S→S.length≤k∧k≤K.length∨k=0∧S= []
 | 0,S,h=>by right;rw[Cj] at h;cases h;exact ⟨rfl,rfl⟩
 | k+1,S,h=>by
  left;rw[FO K k 1 [] 0] at h;cases h1:Cj K k [] 0 with
  | none=>rw[h1] at h;cases h
  | some b=>
   rw[h1] at h
   change Cj K 1 b (0+k)=some S at h
   rw[Nat.zero_add,Cj] at h;cases h2:K[k]? with
   | none=>rw[h2] at h;cases h
   | some ks=>
    rw[h2] at h;dsimp only at h;cases h3:CW b k ks with
    | none=>rw[h3] at h;cases h
    | some d=>
     rw[h3] at h
     change some d=some S at h
     cases h;have g:=(List.getElem?_eq_some_iff.1 h2).1;obtain ⟨i,B,e1,_,_,e2⟩:=MR h3;have f:=Sc h1;rw[e2,List.length_append,List.length_singleton];rcases f with ⟨c,a⟩ | ⟨c,a⟩
     ·rw[e1,List.length_append] at c;omega
     ·rw[e1] at a;have:=List.append_eq_nil_iff.1 a;rw[this.1];simp;omega
structure UU (w:World) (a:Option Addr) (n c:Nat) (L:List Int):Prop where
 len:L.length=n
 cap:n≤c
 small:c≤maxLen
 cells:∀ j,(h:j < L.length)→∃ b off,a=some ⟨b,off,none⟩∧b < w.heap.size∧w.cell? ⟨b,off+j,none⟩=some (.int .i64 L[j])
def UV (w:World) (b o:Nat) (x:Nd):Prop:=∃ an nn cn ak nk ck,w.cell? ⟨b,o,none⟩=some (.int .i64 x.op)∧w.cell? ⟨b,o+1,none⟩=some (.int .i64 x.num)∧w.cell? ⟨b,o+2,none⟩=some (.string x.text)∧w.cell? ⟨b,o+3,none⟩=some (.slice an nn cn)∧w.cell? ⟨b,o+4,none⟩=some (.slice ak nk ck)∧Bb w an nn cn x.names∧UU w ak nk ck x.kids
structure AbD (w:World) (a:Option Addr) (n c:Nat) (L:List Nd):Prop where
 len:L.length=n
 cap:n≤c
 small:c≤maxLen
 sizes:∀ x∈L,x.text.size≤maxLen
 cells:∀ j,(h:j < L.length)→∃ b off,a=some ⟨b,off,none⟩∧b < w.heap.size∧UV w b (off+j * 5) L[j]
structure AbE (w:World) (a:Option Addr) (n c:Nat) (L:List St):Prop where
 len:L.length=n
 cap:n≤c
 small:c≤maxLen
 sizes:∀ s∈L,s.name.size≤maxLen
 cells:∀ j,(h:j < L.length)→∃ b off,a=some ⟨b,off,none⟩∧b < w.heap.size∧w.cell? ⟨b,off+j * 4,none⟩=some (.int .i64 L[j].kind)∧w.cell? ⟨b,off+j * 4+1,none⟩=some (.string L[j].name)∧w.cell? ⟨b,off+j * 4+2,none⟩=some (.int .i64 L[j].cond)∧w.cell? ⟨b,off+j * 4+3,none⟩=some (.int .i64 L[j].grant)
theorem UU.below {w w':World}{B:Nat}{a:Option Addr}{n c:Nat}{L:List Int}(h:UU w a n c L)(d:Below B w w')(m:w.heap.size≤B):UU w' a n c L:=
 ⟨h.len,h.cap,h.small,fun j g=>by
  obtain ⟨b,f,i,k,l⟩:=h.cells j g;exact ⟨b,f,i,Nat.lt_of_lt_of_le k d.size,(d.cell (p:=⟨b,f+j,none⟩) (by show b < B;omega)).trans l⟩⟩
theorem UV.below {w w':World}{B b a:Nat}{x:Nd}(h:UV w b a x)(o:b < w.heap.size)(c:Below B w w')(f:w.heap.size≤B):UV w' b a x:=by
 obtain ⟨an,nn,g,i,j,k,l,c1,c2,c3,c4,m,n⟩:=h;have d:b < B:=by omega
 exact ⟨an,nn,g,i,j,k,(c.cell (p:=⟨b,a,none⟩) d).trans l,(c.cell (p:=⟨b,a+1,none⟩) d).trans c1,(c.cell (p:=⟨b,a+2,none⟩) d).trans c2,(c.cell (p:=⟨b,a+3,none⟩) d).trans c3,(c.cell (p:=⟨b,a+4,none⟩) d).trans c4,m.below c f,n.below c f⟩
theorem AbD.below {w w':World}{B:Nat}{a:Option Addr}{n c:Nat}{L:List Nd}(h:AbD w a n c L)(d:Below B w w')(g:w.heap.size≤B):AbD w' a n c L:=
 ⟨h.len,h.cap,h.small,h.sizes,fun j i=>by
  obtain ⟨b,k,l,f,hc⟩:=h.cells j i;exact ⟨b,k,l,Nat.lt_of_lt_of_le f d.size,hc.below f d g⟩⟩
theorem AbE.below {w w':World}{B:Nat}{a:Option Addr}{n c:Nat}{L:List St}(h:AbE w a n c L)(d:Below B w w')(o:w.heap.size≤B):AbE w' a n c L:=
 ⟨h.len,h.cap,h.small,h.sizes,fun j i=>by
  obtain ⟨b,f,k,l,m,c1,c2,c3⟩:=h.cells j i;have g:b < B:=by omega
  exact ⟨b,f,k,Nat.lt_of_lt_of_le l d.size,(d.cell (p:=⟨b,f+j * 4,none⟩) g).trans m,(d.cell (p:=⟨b,f+j * 4+1,none⟩) g).trans c1,(d.cell (p:=⟨b,f+j * 4+2,none⟩) g).trans c2,(d.cell (p:=⟨b,f+j * 4+3,none⟩) g).trans c3⟩⟩
def Aay (x:Nd):Prop:=x.text.size≤1048576∧x.names.length≤1048576∧tot x.names≤1048576∧x.kids.length≤1048576
theorem Do.setFar {w:World}{a:Option Addr}{n c:Nat}{L:List Int}(h:Do w a n c L){p:Addr}(f:∀ x,a=some x→p.block≠x.block)(u:Value):Do (w.setCell p u) a n c L:=
 ⟨h.len,h.small,fun j g=>by
  obtain ⟨b,i,d,k,hc⟩:=h.cells j g;refine ⟨b,i,d,by simpa using k, ?_⟩;rw[← hc];exact World.cell?_of_block (heap_setCell_other w p b u (fun e=>f _ d e.symm))⟩
theorem Rx {w:World}{d:Nat}{e:TypeId}{size g n c:Nat}{f:List Value}(h:w.ownsRow d e size (.slice (some ⟨g,0,none⟩) n c) n f):∃ a,Aj w g a e∧a.size=c * size:=by
 rcases h.2 with ⟨b,_⟩ | ⟨i,cap,a,b,h1,h2,h3,h4,h5,h6⟩
 ·cases b
 ·cases b;exact ⟨a,⟨h2⟩,h5⟩
def YS (cs:Array Value) (p:Nat) (v0 v1 v2 v3 v4:Value):Array Value:=((((cs.setIfInBounds p v0).setIfInBounds (p+1) v1).setIfInBounds (p+2) v2).setIfInBounds (p+3) v3).setIfInBounds (p+4) v4
theorem GP {cs:Array Value}{p q:Nat}(h:q < p)(v0 v1 a b c:Value):(YS cs p v0 v1 a b c)[q]? =cs[q]? :=by
 unfold YS;rw[Array.getElem?_setIfInBounds_ne (by omega),Array.getElem?_setIfInBounds_ne (by omega),Array.getElem?_setIfInBounds_ne (by omega),Array.getElem?_setIfInBounds_ne (by omega),Array.getElem?_setIfInBounds_ne (by omega)]
def Lx (W:World) (b p:Nat) (v0 v1 v2 v3 v4:Value):World:=((((W.setCell ⟨b,p,none⟩ v0).setCell ⟨b,p+1,none⟩ v1).setCell ⟨b,p+2,none⟩ v2).setCell ⟨b,p+3,none⟩ v3).setCell ⟨b,p+4,none⟩ v4
theorem Bb.put5 {w:World}{x:Addr}{n c:Nat}{d:List ByteArray}(h:Bb w (some x) n c d){b p:Nat}(a:b≠x.block)(v0 v1 f g i:Value):Bb (Lx w b p v0 v1 f g i) (some x) n c d:=
 ((((h.setFar (p:=⟨b,p,none⟩) (fun y e=>by cases e;exact a) v0).setFar (p:=⟨b,p+1,none⟩) (fun y e=>by cases e;exact a) v1).setFar (p:=⟨b,p+2,none⟩) (fun y e=>by cases e;exact a) f).setFar (p:=⟨b,p+3,none⟩) (fun y e=>by cases e;exact a) g).setFar (p:=⟨b,p+4,none⟩) (fun y e=>by cases e;exact a) i
theorem Do.put5 {w:World}{x:Addr}{n c:Nat}{d:List Int}(h:Do w (some x) n c d){b p:Nat}(a:b≠x.block)(v0 v1 f g i:Value):Do (Lx w b p v0 v1 f g i) (some x) n c d:=
 ((((h.setFar (p:=⟨b,p,none⟩) (fun y e=>by cases e;exact a) v0).setFar (p:=⟨b,p+1,none⟩) (fun y e=>by cases e;exact a) v1).setFar (p:=⟨b,p+2,none⟩) (fun y e=>by cases e;exact a) f).setFar (p:=⟨b,p+3,none⟩) (fun y e=>by cases e;exact a) g).setFar (p:=⟨b,p+4,none⟩) (fun y e=>by cases e;exact a) i
theorem Wd.put5 {w:World}{x:Addr}{n:Nat}{t:TypeId}(h:Wd w x n t){b p:Nat}(a:b≠x.block)(v0 v1 c d f:Value):Wd (Lx w b p v0 v1 c d f) x n t:=
 ((((h.setFar (p:=⟨b,p,none⟩) a v0).setFar (p:=⟨b,p+1,none⟩) a v1).setFar (p:=⟨b,p+2,none⟩) a c).setFar (p:=⟨b,p+3,none⟩) a d).setFar (p:=⟨b,p+4,none⟩) a f
def NdX (w:World) (g:Nat) (cs:Array Value) (o:Nat) (x:Nd):Prop:=∃ x1 nn x2 nk,cs[o]? =some (.int .i64 x.op)∧cs[o+1]? =some (.int .i64 x.num)∧cs[o+2]? =some (.string x.text)∧cs[o+3]? =some (.slice (some x1) nn nn)∧cs[o+4]? =some (.slice (some x2) nk nk)∧Bb w (some x1) nn nn x.names∧Do w (some x2) nk nk x.kids∧(Wd w x1 nn 9∧Wd w x2 nk 3)∧g < x1.block∧g < x2.block
theorem NdX.step {w c:World}{g:Nat}{cs:Array Value}{b p:Nat}{x:Nd}(h:NdX w g cs b x)(a:Below w.heap.size w c)(r:b+5≤p)(v0 v1 d f i:Value):NdX (Lx c g p v0 v1 d f i) g (YS cs p v0 v1 d f i) b x:=by
 obtain ⟨k,nn,l,m,n,c1,c2,c3,c4,o,q,j,g1,g2⟩:=h;exact ⟨k,nn,l,m,(GP (by omega) _ _ _ _ _).trans n,(GP (by omega) _ _ _ _ _).trans c1,(GP (by omega) _ _ _ _ _).trans c2,(GP (by omega) _ _ _ _ _).trans c3,(GP (by omega) _ _ _ _ _).trans c4,(o.below a NLN).put5 (by omega) _ _ _ _ _,(q.below a NLN).put5 (by omega) _ _ _ _ _,⟨(j.1.below a NLN).put5 (by omega) _ _ _ _ _,(j.2.below a NLN).put5 (by omega) _ _ _ _ _⟩,g1,g2⟩
theorem NdX.at {w:World}{g:Nat}{cs:Array Value}{a:Nat}{x:Nd}{t:TypeId}(h:NdX w g cs a x)(R:Aj w g cs t):YM w g a x:=by
 obtain ⟨f,nn,i,j,b,c1,c2,c3,c4,c,d,_,_,_⟩:=h;exact ⟨_,_,_,_,_,_,(R.cell _).trans b,(R.cell _).trans c1,(R.cell _).trans c2,(R.cell _).trans c3,(R.cell _).trans c4,c,d⟩
def Hi (w:World) (g:Nat) (N:List Nd):Prop:=∃ cs,(Aj w g cs 80∧cs.size=N.length * 5)∧∀ j,(hj:j < N.length)→NdX w g cs (j * 5) N[j]
theorem Hi.nds {w:World}{g n:Nat}{N:List Nd}(h:Hi w g N)(a:N.length=n)(b:n≤1048576)(hs:∀ x∈N,Aay x):Fe w (some ⟨g,0,none⟩) n n N:=by
 obtain ⟨cs,⟨R,_⟩,hx⟩:=h;exact ⟨a,b,fun x hx=>(hs x hx).1,fun j c=>⟨g,0,rfl,R.lt,by rw[Nat.zero_add];exact (hx j c).at R⟩⟩
theorem Hi.below {w w':World}{B g:Nat}{N:List Nd}(h:Hi w g N)(a:Below B w w')(b:w.heap.size≤B):Hi w' g N:=by
 obtain ⟨cs,⟨R,d⟩,hx⟩:=h;refine ⟨cs,⟨R.after a b,d⟩,fun j f=>?_⟩;obtain ⟨i,nn,k,l,m,c1,c2,c3,c4,n,o,c,g1,g2⟩:=hx j f;exact ⟨i,nn,k,l,m,c1,c2,c3,c4,n.below a b,o.below a b,⟨c.1.below a b,c.2.below a b⟩,g1,g2⟩
theorem KU.setFar {w:World}{g n c:Nat}{L:List St}(h:KU w (some ⟨g,0,none⟩) n c L){p:Addr}(d:p.block≠g)(u:Value):KU (w.setCell p u) (some ⟨g,0,none⟩) n c L:=
 ⟨h.len,h.small,h.sizes,fun j f=>by
  obtain ⟨b,m,i,k,l,c1,c2,c3⟩:=h.cells j f;cases i;have e:∀ a,(w.setCell p u).cell? ⟨g,a,none⟩=w.cell? ⟨g,a,none⟩:=fun a=>World.cell?_of_block (heap_setCell_other w p g u (fun e=>d e.symm));exact ⟨g,0,rfl,by simpa using k,(e _).trans l,(e _).trans c1,(e _).trans c2,(e _).trans c3⟩⟩
def YT (cs:Array Value) (p:Nat) (v0 v1 v2 v3:Value):Array Value:=(((cs.setIfInBounds p v0).setIfInBounds (p+1) v1).setIfInBounds (p+2) v2).setIfInBounds (p+3) v3
theorem Ju {cs:Array Value}{p q:Nat}(h:q < p)(v0 v1 a b:Value):(YT cs p v0 v1 a b)[q]? =cs[q]? :=by
 unfold YT;rw[Array.getElem?_setIfInBounds_ne (by omega),Array.getElem?_setIfInBounds_ne (by omega),Array.getElem?_setIfInBounds_ne (by omega),Array.getElem?_setIfInBounds_ne (by omega)]
def StX (cs:Array Value) (o:Nat) (s:St):Prop:=cs[o]? =some (.int .i64 s.kind)∧cs[o+1]? =some (.string s.name)∧cs[o+2]? =some (.int .i64 s.cond)∧cs[o+3]? =some (.int .i64 s.grant)
theorem StX.step {cs:Array Value}{a p:Nat}{s:St}(h:StX cs a s)(d:a+4≤p)(v0 v1 b c:Value):StX (YT cs p v0 v1 b c) a s:=
 ⟨(Ju (by omega) _ _ _ _).trans h.1,(Ju (by omega) _ _ _ _).trans h.2.1,(Ju (by omega) _ _ _ _).trans h.2.2.1,(Ju (by omega) _ _ _ _).trans h.2.2.2⟩
end Go.Proofs.YtoplnhndilmlcaaGreatDoor
namespace Go.Proofs.YtoplnhndilmlcaaGreatDoor
set_option maxHeartbeats 3200000
open Go.RowKit
set_option linter.unusedVariables false
variable {aS aB aT : Addr}
theorem Jn (M:Nat)(a: 10000000000000000000≤M):∀ (d:List UInt8) (acc:Nat),d.all FA=true→(acc+1) * 10 ^ d.length≤10000000000000000000→∃ u,Lib.parseUintM M acc d= .ok u∧(u:Int)=(acc:Int) * 10 ^ d.length+Ie d
 | [],acc,_,_=>⟨acc,rfl,by simp[Ie]⟩
 | c ::r,acc,h,hb=>by
  rw[List.all_cons,Bool.and_eq_true] at h;obtain ⟨h1,h2⟩:=(US c).1 h.1;have b: 1≤10 ^ r.length:=Nat.one_le_pow _ _ (by decide);rw[List.length_cons,Nat.pow_succ] at hb;have f:(acc+1) * 10≤10000000000000000000:=by
   refine Nat.le_trans ?_ hb;rw[Nat.mul_comm (10 ^ r.length) 10,← Nat.mul_assoc];exact Nat.le_mul_of_pos_right _ (by omega)
  obtain ⟨u,e1,e2⟩:=Jn M a r (acc * 10+(c.toNat - 48)) h.2 (by
   refine Nat.le_trans ?_ hb;rw[Nat.mul_comm (10 ^ r.length) 10,← Nat.mul_assoc];exact Nat.mul_le_mul_right _ (by omega))
  refine ⟨u, ?_, ?_⟩
  ·rw[Lib.parseUintM,if_pos (by omega),if_neg (by omega),if_neg (by omega)];exact e1
  ·rw[e2,YK,List.length_cons,Int.pow_succ,← Int.add_assoc]
   congr 1
   rw[Int.natCast_add,Int.natCast_mul,Int.natCast_sub (by omega),Int.add_mul,Int.mul_comm (10 ^ r.length) 10,← Int.mul_assoc];rfl
theorem Ot {d:List UInt8}(h0:d≠ [])(a:d.length≤19)(h:d.all FA=true):Lib.parseIntB 64 d=if 9223372036854775807 < Ie d then .range else .ok (Ie d):=by
 obtain ⟨u,e1,e2⟩:=Jn (2 ^ 64 - 1) (by decide) d 0 h (by
  have: 10 ^ d.length≤10 ^ 19:=Nat.pow_le_pow_right (by decide) a;have e: 10 ^ 19=10000000000000000000:=rfl;omega)
 simp only[Int.natCast_zero,Int.zero_mul,Int.zero_add] at e2;cases d with
 | nil=>exact absurd rfl h0
 | cons c r=>
  have hc:=(US c).1 (by rw[List.all_cons,Bool.and_eq_true] at h;exact h.1);have b: ¬ c.toNat=43:=by omega
  have f: ¬ c.toNat=45:=by omega
  have e3:Lib.parseUintB 64 (c ::r)= .ok u:=by rw[Lib.parseUintB,if_neg (by simp)];exact e1
  rw[Lib.parseIntB];simp only[b,f,or_self,if_false,e3];by_cases hu: 9223372036854775807 < Ie (c ::r)
  ·rw[if_pos hu,if_pos ⟨not_false,by show 9223372036854775808≤u;omega⟩]
  ·rw[if_neg hu,if_neg (fun k=>by have: 9223372036854775808≤u:=k.2;omega),if_neg (fun k=>k.1),e2]
theorem MO (r:ByteArray)(w:World)(hs:r.size≤1048576)(h0: 1≤AN FA (Al r))(S:M3 w aS aB aT):
  Calls Tryz.prog 107 #[.string r] w fun e w'=>e= .returned (PW aS aB aT (EG (Al r)))∧Below w.heap.size w w':=by
 obtain ⟨y,V,z,m,F⟩:=MN w S;have K:=F.gT;have Z:=S.big;have aa:w.heap.size≠5:=by omega
 have ab: 5≠w.heap.size:=by omega
 have U:=Jm FA (Al r);rw[Av] at U;obtain ⟨C,d1,d2,d3,E⟩:=BX z;have o:=Ab (show Al (r.extract 0 (AN FA (Al r)))=(Al r).take (AN FA (Al r)) by rw[CF,List.drop_zero,Nat.sub_zero]);have L:=Ab (RR FA (Al r));have a:=Ab (show EG (Al r)=if 19 < AN FA (Al r)∨Ci (Al r) (AN FA (Al r))=true∨9223372036854775807 < Ie ((Al r).take (AN FA (Al r))) then .bad 3 else .tok 1 (Ie ((Al r).take (AN FA (Al r)))) [] (AN FA (Al r)) from rfl);have M:(r.extract 0 (AN FA (Al r))).size=AN FA (Al r):=by rw[ByteArray.size_extract];omega
 go_enter Tryz.func107,Tryz.ntmps107
 go_wp2_with fail
 clear V;refine (YI r _ (by unfold maxLen;omega)).mono ?_;rintro e ac ⟨rfl,c⟩;rw[c];clear c;generalize AN FA (Al r)=n at h0 U a o L M ⊢;have ad:(n:Int)≤(r.size:Int):=by omega
 by_cases O: 19 < n
 ·have W:(19 :Int) < (n:Int):=by omega
  have a:=Ab ((Aa a).trans (if_pos (.inl O)));go_wp2_with fail
  go_region
  go_wp2_with fail
  have i:=Au (b:=w.heap.size) m NLN (.int .i64 0) (.int .i64 0) (.string ⟨#[]⟩) (.int .i64 0);obtain ⟨g,g1,g2,g3⟩:=Cr z (.int .i64 0) (.int .i64 0) (.string ⟨#[]⟩) (.int .i64 0);exact bodyPost_ret (AJ Tryz.results107 rfl g g1 g2 g3) rfl ⟨by rw[Aa a,Eo];rfl,i.drew⟩
 have W: ¬ ((19 :Int) < (n:Int)):=by omega
 by_cases X:n < r.size
 ·have Y:(n:Int) < (r.size:Int):=by omega
  have hf:Ci (Al r) n=(NY r[n] || decide (r[n]=95)):=by
   have:=TI (s:=r) (j:=0) X (Nat.zero_le _)
   rwa[List.drop_zero,Nat.sub_zero] at this
  cases A:KW (r[n].toNat:Int)
  ·by_cases P:(r[n].toNat:Int)=95
   ·have e:Ci (Al r) n=true:=by rw[hf];simp[NY,Abw P]
    have a:=Ab ((Aa a).trans (if_pos (.inr (.inl e))));clear e hf A;go_wp2_with (go_at_call 93;refine (AQ _ _).mono ?_;rintro e w' ⟨rfl,c⟩;rw[show KW 95=false from by decide,c];clear c)
    go_region
    go_wp2_with fail
    have i:=Au (b:=w.heap.size) m NLN (.int .i64 0) (.int .i64 0) (.string ⟨#[]⟩) (.int .i64 0);obtain ⟨g,g1,g2,g3⟩:=Cr z (.int .i64 0) (.int .i64 0) (.string ⟨#[]⟩) (.int .i64 0);exact bodyPost_ret (AJ Tryz.results107 rfl g g1 g2 g3) rfl ⟨by rw[Aa a,Eo];rfl,i.drew⟩
   ·have e:Ci (Al r) n=false:=by rw[hf];simp[NY,A,Aas P]
    have ae:=beq_eq_false_iff_ne.2 P;have Q:=Ab e;have R:=Ab A;clear e hf A;go_wp2_with (go_at_call 93;refine (AQ _ _).mono ?_;rintro e w' ⟨rfl,c⟩;rw[Aa R,c];clear c)
    generalize r.extract 0 n=x at o M ⊢;have H:Al x≠ []:=fun k=>by have:=congrArg List.length k;rw[Av,List.length_nil] at this;omega
    have h:=Ot (d:=Al x) H (by rw[Av];omega) (by rw[Aa o];exact Aa L);rw[Aa o] at h;clear C d1 d2 d3 E H K;by_cases l: 9223372036854775807 < Ie ((Al r).take n)
    ·have a:=Ab ((Aa a).trans (if_pos (.inr (.inr l))));rw[if_pos l] at h;obtain ⟨T,p,I⟩:=F.gR;have q:=Tryz.strconv_ParseInt_10_at64_range_var x (by omega) (by rw[show x.data.toList=(Al r).take n from Aa o];exact h) T p y I;clear I h l;refine q.mono ?_;rintro e J ⟨N,rfl,_,_,f⟩;clear q;have u:=z.after f NLN;have B:=m.trans (f.mono m.size);have K:=(F.below f NLN).gT;clear f;obtain ⟨C,d1,d2,d3,E⟩:=BX u;go_wp2_with fail
     go_region
     go_wp2_with fail
     have i:=Au (b:=w.heap.size) B NLN (.int .i64 0) (.int .i64 0) (.string ⟨#[]⟩) (.int .i64 0);obtain ⟨g,g1,g2,g3⟩:=Cr u (.int .i64 0) (.int .i64 0) (.string ⟨#[]⟩) (.int .i64 0);exact bodyPost_ret (AJ Tryz.results107 rfl g g1 g2 g3) rfl ⟨by rw[Aa a,Eo];rfl,i.drew⟩
    ·have e: ¬ (19 < n∨Ci (Al r) n=true∨9223372036854775807 < Ie ((Al r).take n)):=by
      rintro (k | k | k)
      ·exact O k
      ·rw[Aa Q] at k;cases k
      ·exact l k
     have a:=Ab ((Aa a).trans (if_neg e));rw[if_neg l] at h;have q:=Tryz.strconv_ParseInt_10_at64_ok x (by omega) _ (by rw[show x.data.toList=(Al r).take n from Aa o];exact h) y;clear h l e;refine q.mono ?_;rintro e J ⟨rfl,c⟩;clear q;have f:Below y.heap.size y J:=by
      rcases c with rfl | ⟨t,rfl⟩
      ·exact BRN
      ·exact Lib.bytesWorld_below y _ t
     clear c;generalize Ie ((Al r).take n)=v at a ⊢;have u:=z.after f NLN;have B:=m.trans (f.mono m.size);clear f;obtain ⟨C,d1,d2,d3,E⟩:=BX u;go_wp2_with fail
     have i:=Au (b:=w.heap.size) B NLN (.int .i64 1) (.int .i64 v) (.string ⟨#[]⟩) (.int .i64 0);obtain ⟨g,g1,g2,g3,_⟩:=BX (Bj u (.int .i64 1) (.int .i64 v) (.string ⟨#[]⟩) (.int .i64 0));simp only[EY] at g g1 g2 g3;refine bodyPost_ret (AJ Tryz.results107 rfl g g1 g2 g3) rfl ⟨?_,i⟩;rw[Aa a];rfl
  ·have e:Ci (Al r) n=true:=by rw[hf];simp[NY,A]
   have a:=Ab ((Aa a).trans (if_pos (.inr (.inl e))));have R:=Ab A;clear e hf A;go_wp2_with (go_at_call 93;refine (AQ _ _).mono ?_;rintro e w' ⟨rfl,c⟩;rw[Aa R,c];clear c)
   go_region
   go_wp2_with fail
   have i:=Au (b:=w.heap.size) m NLN (.int .i64 0) (.int .i64 0) (.string ⟨#[]⟩) (.int .i64 0);obtain ⟨g,g1,g2,g3⟩:=Cr z (.int .i64 0) (.int .i64 0) (.string ⟨#[]⟩) (.int .i64 0);exact bodyPost_ret (AJ Tryz.results107 rfl g g1 g2 g3) rfl ⟨by rw[Aa a,Eo];rfl,i.drew⟩
 ·have Y: ¬ ((n:Int) < (r.size:Int)):=by omega
  have Q:=Ab (show Ci (Al r) n=false by have:=RT (s:=r) (j:=0) (k:=n) (by omega);rwa[List.drop_zero,Nat.sub_zero] at this);go_wp2_with fail
  generalize r.extract 0 n=x at o M ⊢;have H:Al x≠ []:=fun k=>by have:=congrArg List.length k;rw[Av,List.length_nil] at this;omega
  have h:=Ot (d:=Al x) H (by rw[Av];omega) (by rw[Aa o];exact Aa L);rw[Aa o] at h;clear C d1 d2 d3 E H K;by_cases l: 9223372036854775807 < Ie ((Al r).take n)
  ·have a:=Ab ((Aa a).trans (if_pos (.inr (.inr l))));rw[if_pos l] at h;obtain ⟨T,p,I⟩:=F.gR;have q:=Tryz.strconv_ParseInt_10_at64_range_var x (by omega) (by rw[show x.data.toList=(Al r).take n from Aa o];exact h) T p y I;clear I h l;refine q.mono ?_;rintro e J ⟨N,rfl,_,_,f⟩;clear q;have u:=z.after f NLN;have B:=m.trans (f.mono m.size);have K:=(F.below f NLN).gT;clear f;obtain ⟨C,d1,d2,d3,E⟩:=BX u;go_wp2_with fail
   go_region
   go_wp2_with fail
   have i:=Au (b:=w.heap.size) B NLN (.int .i64 0) (.int .i64 0) (.string ⟨#[]⟩) (.int .i64 0);obtain ⟨g,g1,g2,g3⟩:=Cr u (.int .i64 0) (.int .i64 0) (.string ⟨#[]⟩) (.int .i64 0);exact bodyPost_ret (AJ Tryz.results107 rfl g g1 g2 g3) rfl ⟨by rw[Aa a,Eo];rfl,i.drew⟩
  ·have e: ¬ (19 < n∨Ci (Al r) n=true∨9223372036854775807 < Ie ((Al r).take n)):=by
    rintro (k | k | k)
    ·exact O k
    ·rw[Aa Q] at k;cases k
    ·exact l k
   have a:=Ab ((Aa a).trans (if_neg e));rw[if_neg l] at h;have q:=Tryz.strconv_ParseInt_10_at64_ok x (by omega) _ (by rw[show x.data.toList=(Al r).take n from Aa o];exact h) y;clear h l e;refine q.mono ?_;rintro e J ⟨rfl,c⟩;clear q;have f:Below y.heap.size y J:=by
    rcases c with rfl | ⟨t,rfl⟩
    ·exact BRN
    ·exact Lib.bytesWorld_below y _ t
   clear c;generalize Ie ((Al r).take n)=v at a ⊢;have u:=z.after f NLN;have B:=m.trans (f.mono m.size);clear f;obtain ⟨C,d1,d2,d3,E⟩:=BX u;go_wp2_with fail
   have i:=Au (b:=w.heap.size) B NLN (.int .i64 1) (.int .i64 v) (.string ⟨#[]⟩) (.int .i64 0);obtain ⟨g,g1,g2,g3,_⟩:=BX (Bj u (.int .i64 1) (.int .i64 v) (.string ⟨#[]⟩) (.int .i64 0));simp only[EY] at g g1 g2 g3;refine bodyPost_ret (AJ Tryz.results107 rfl g g1 g2 g3) rfl ⟨?_,i⟩;rw[Aa a];rfl
end Go.Proofs.YtoplnhndilmlcaaGreatDoor
namespace Go.Proofs.YtoplnhndilmlcaaGreatDoor
set_option maxRecDepth 100000
set_option maxHeartbeats 3200000
open Go.RowKit
set_option linter.unusedVariables false
variable {aS aB aT : Addr}
theorem RW {r:ByteArray}(h0: 0 < r.size):Al r=r[0] ::(Al r).drop 1:=by
 have h:=BY r 0 h0
 rwa[List.drop_zero] at h
theorem KZ {r:ByteArray}(h0: 0 < r.size):Dy (Al r)=if KW (r[0].toNat:Int) then CJ (Al r) else if dgI (r[0].toNat:Int) then EG (Al r) else if r[0]=34 then Du ((Al r).drop 1) else BM r[0] (Al r):=by
 have h:=RW h0;generalize (Al r).drop 1=q at h ⊢;rw[h];rfl
theorem Jo (aS aB aT:Addr)(a:SU):∃ (k m:Int) (x:ByteArray) (n:Int) (b:Value),PW aS aB aT a= .tuple #[.agg #[.int .i64 k,.int .i64 m,.string x,.int .i64 0],.int .i64 n,b]:=by
 cases a with
 | bad c=>exact ⟨_,_,_,_,_,rfl⟩
 | tok k m s w=>exact ⟨_,_,_,_,_,rfl⟩
theorem Nt (r:ByteArray)(w:World)(hs:r.size≤1048576)(h0: 0 < r.size)(S:M3 w aS aB aT):
  Calls Tryz.prog 76 #[.string r] w fun e w'=>e= .returned (PW aS aB aT (Dy (Al r)))∧Below w.heap.size w w':=by
 have H:(0 :Int) < (r.size:Int):=by omega
 obtain ⟨I,y,i,f,z⟩:=MN w S;obtain ⟨l,d1,d2,d3,o⟩:=BX i;cases p:dgI (r[0].toNat:Int)
 ·cases A:KW (r[0].toNat:Int)
  ·have q:=Ab p;have j:=Ab A;clear p A;by_cases F:(r[0].toNat:Int)=34
   ·have B:=Ab (show r[0]=34 from UInt8.toNat_inj.1 (by have:(34 :UInt8).toNat=34:=rfl;omega));have s:=Ab (show Dy (Al r)=Du ((Al r).drop 1) by rw[KZ h0];rw[Aa j,Aa q,if_neg (by decide),if_neg (by decide),if_pos (Aa B)]);go_enter Tryz.func76,Tryz.ntmps76
    go_wp2_with (first | (go_at_call 106;refine (BL _ _).mono ?_;rintro e w' ⟨rfl,a⟩;rw[show dgI 34=false from by decide,a];clear a) | (go_at_call 93;refine (AQ _ _).mono ?_;rintro e w' ⟨rfl,a⟩;rw[show KW 34=false from by decide,a];clear a))
    clear y;refine (MM r _ hs h0 z).mono ?_;rintro e C ⟨rfl,c⟩;obtain ⟨k,m,x,n,E,d⟩:=Jo aS aB aT (Du ((Al r).drop 1));rw[d];have t:=Ab d;clear d;have g:=i.after c NLN;have u:=f.trans (c.mono f.size);clear c l d1 d2 d3 o i f;obtain ⟨l,d1,d2,d3,o⟩:=BX g;go_wp2_with fail
    have v:=Au (b:=w.heap.size) u NLN (.int .i64 k) (.int .i64 m) (.string x) (.int .i64 0);obtain ⟨h,g1,g2,g3,_⟩:=BX (Bj g (.int .i64 k) (.int .i64 m) (.string x) (.int .i64 0));simp only[EY] at h g1 g2 g3;refine bodyPost_ret (AJ Tryz.results76 rfl h g1 g2 g3) rfl ⟨?_,v⟩;rw[Aa s,Aa t];rfl
   ·have J:=beq_eq_false_iff_ne.2 F;have B:=Ab (show ¬ r[0]=34 from fun e=>F (by rw[e];rfl));have s:=Ab (show Dy (Al r)=BM r[0] (Al r) by rw[KZ h0];rw[Aa j,Aa q,if_neg (by decide),if_neg (by decide),if_neg (Aa B)]);go_enter Tryz.func76,Tryz.ntmps76
    go_wp2_with (first | (go_at_call 106;refine (BL _ _).mono ?_;rintro e w' ⟨rfl,a⟩;rw[Aa q,a];clear a) | (go_at_call 93;refine (AQ _ _).mono ?_;rintro e w' ⟨rfl,a⟩;rw[Aa j,a];clear a))
    clear y;refine (PM r _ hs h0 z).mono ?_;rintro e C ⟨rfl,c⟩;obtain ⟨k,m,x,n,E,d⟩:=Jo aS aB aT (BM r[0] (Al r));rw[d];have t:=Ab d;clear d;have g:=i.after c NLN;have u:=f.trans (c.mono f.size);clear c l d1 d2 d3 o i f;obtain ⟨l,d1,d2,d3,o⟩:=BX g;go_wp2_with fail
    have v:=Au (b:=w.heap.size) u NLN (.int .i64 k) (.int .i64 m) (.string x) (.int .i64 0);obtain ⟨h,g1,g2,g3,_⟩:=BX (Bj g (.int .i64 k) (.int .i64 m) (.string x) (.int .i64 0));simp only[EY] at h g1 g2 g3;refine bodyPost_ret (AJ Tryz.results76 rfl h g1 g2 g3) rfl ⟨?_,v⟩;rw[Aa s,Aa t];rfl
  ·have q:=Ab p;have j:=Ab A;clear p A;have s:=Ab (show Dy (Al r)=CJ (Al r) by rw[KZ h0];rw[Aa j,if_pos rfl]);go_enter Tryz.func76,Tryz.ntmps76
   go_wp2_with (first | (go_at_call 106;refine (BL _ _).mono ?_;rintro e w' ⟨rfl,a⟩;rw[Aa q,a];clear a) | (go_at_call 93;refine (AQ _ _).mono ?_;rintro e w' ⟨rfl,a⟩;rw[Aa j,a];clear a))
   clear y;refine (PK r _ hs z).mono ?_;rintro e C ⟨rfl,c⟩;obtain ⟨k,m,x,n,E,d⟩:=Jo aS aB aT (CJ (Al r));rw[d];have t:=Ab d;clear d;have g:=i.after c NLN;have u:=f.trans (c.mono f.size);clear c l d1 d2 d3 o i f;obtain ⟨l,d1,d2,d3,o⟩:=BX g;go_wp2_with fail
   have v:=Au (b:=w.heap.size) u NLN (.int .i64 k) (.int .i64 m) (.string x) (.int .i64 0);obtain ⟨h,g1,g2,g3,_⟩:=BX (Bj g (.int .i64 k) (.int .i64 m) (.string x) (.int .i64 0));simp only[EY] at h g1 g2 g3;refine bodyPost_ret (AJ Tryz.results76 rfl h g1 g2 g3) rfl ⟨?_,v⟩;rw[Aa s,Aa t];rfl
 ·have j:=Ab (show KW (r[0].toNat:Int)=false by
   rw[dgI,decide_eq_true_eq] at p;rw[KW,decide_eq_false_iff_not];omega)
  have hr1: 1≤AN FA (Al r):=by rw[RW h0];exact MJ p
  have q:=Ab p;clear p;have s:=Ab (show Dy (Al r)=EG (Al r) by rw[KZ h0];rw[Aa j,Aa q,if_neg (by decide),if_pos rfl]);go_enter Tryz.func76,Tryz.ntmps76
  go_wp2_with (first | (go_at_call 106;refine (BL _ _).mono ?_;rintro e w' ⟨rfl,a⟩;rw[Aa q,a];clear a) | (go_at_call 93;refine (AQ _ _).mono ?_;rintro e w' ⟨rfl,a⟩;rw[Aa j,a];clear a))
  clear y;refine (MO r _ hs hr1 z).mono ?_;rintro e C ⟨rfl,c⟩;obtain ⟨k,m,x,n,E,d⟩:=Jo aS aB aT (EG (Al r));rw[d];have t:=Ab d;clear d;have g:=i.after c NLN;have u:=f.trans (c.mono f.size);clear c l d1 d2 d3 o i f;obtain ⟨l,d1,d2,d3,o⟩:=BX g;go_wp2_with fail
  have v:=Au (b:=w.heap.size) u NLN (.int .i64 k) (.int .i64 m) (.string x) (.int .i64 0);obtain ⟨h,g1,g2,g3,_⟩:=BX (Bj g (.int .i64 k) (.int .i64 m) (.string x) (.int .i64 0));simp only[EY] at h g1 g2 g3;refine bodyPost_ret (AJ Tryz.results76 rfl h g1 g2 g3) rfl ⟨?_,v⟩;rw[Aa s,Aa t];rfl
end Go.Proofs.YtoplnhndilmlcaaGreatDoor
