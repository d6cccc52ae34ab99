/-
  QA, CLN, TF, GG, TM. Own work.
-/
import Derived.Test.YtdldimphcpojoaaGreatDoorMXAC
import Derived.Lib.ItoaNum
import Derived.Test.YtdldimphcpojoaaGreatDoorMXAL
import Derived.Test.YtdldimphcpojoaaGreatDoorMXAA
import Derived.Lib.SmallJoins
import Derived.Test.YtdldimphcpojoaaGreatDoorAs
import Derived.Test.YtdldimphcpojoaaGreatDoorMXAP
import Derived.Deep.RegionHeld3
import Derived.Test.YtdldimphcpojoaaGreatDoorMXAK
namespace Go.Proofs.YtdldimphcpojoaaGreatDoor
open Go.RowKit
set_option linter.unusedVariables false
inductive Ex where
 | int (i n:Int)
 | text (i:Int) (s:ByteArray)
 | bool (i:Int) (b:Bool)
 | set (i:Int) (a:Option Addr) (n c:Nat) (ss:List ByteArray)
 | name (i:Int) (s:ByteArray)
 | attr (i n:Int)
 | lett (i n:Int)
 | un (i op:Int) (k:Ex)
 | bin (i op:Int) (l r:Ex)
 | ite (i:Int) (c t e:Ex)
def Ex.val:Ex→Value
 | .int i n=> .iface 182 (.agg #[.int .i64 i,.int .i64 n])
 | .text i s=> .iface 184 (.agg #[.int .i64 i,.string s])
 | .bool i b=> .iface 186 (.agg #[.int .i64 i,.bool b])
 | .set i a n c _=> .iface 188 (.agg #[.int .i64 i,.slice a n c])
 | .name i s=> .iface 190 (.agg #[.int .i64 i,.string s])
 | .attr i n=> .iface 191 (.agg #[.int .i64 i,.int .i64 n])
 | .lett i n=> .iface 192 (.agg #[.int .i64 i,.int .i64 n])
 | .un i op k=> .iface 194 (.agg #[.int .i64 i,.int .i64 op,k.val])
 | .bin i op l r=> .iface 196 (.agg #[.int .i64 i,.int .i64 op,l.val,r.val])
 | .ite i c t e=> .iface 198 (.agg #[.int .i64 i,c.val,t.val,e.val])
def Ex.op:Ex→Int
 | .int .. =>1 | .text .. =>2 | .bool .. =>3 | .set .. =>4 | .name .. =>5 | .attr .. =>6 | .lett .. =>7
 | .un _ op _=>op | .bin _ op _ _=>op | .ite .. =>27
def Ex.cnt:Ex→Nat
 | .un _ _ k=>k.cnt+1
 | .bin _ _ l r=>l.cnt+r.cnt+1
 | .ite _ c t e=>c.cnt+t.cnt+e.cnt+1
 | _=>1
def Dw (op:Int):Int:=
 if op=27 then 0 else if op=26 then 1 else if op=25 then 2 else if op=9 then 3 else if 19≤op∧op≤24 then 4
 else if op=11∨op=12∨op=16∨op=18 then 5 else if op=13∨op=14∨op=15∨op=17 then 6 else if op=8 then 7 else 8
theorem FG (op:Int): 0≤Dw op:=by unfold Dw;repeat' split <;> try decide
theorem Iz (op:Int):Dw op≤8:=by unfold Dw;repeat' split <;> try decide
def Ph:List ByteArray:= [⟨#[43]⟩,⟨#[45]⟩,⟨#[42]⟩,⟨#[47]⟩,⟨#[37]⟩,⟨#[124]⟩,⟨#[38]⟩,⟨#[92]⟩,⟨#[61,61]⟩,⟨#[33,61]⟩,⟨#[60]⟩,⟨#[60,61]⟩,⟨#[105,110]⟩,⟨#[119,105,116,104,105,110]⟩,⟨#[97,110,100]⟩,⟨#[111,114]⟩]
def Cp (op:Int):ByteArray:=Ph.getD (op - 11).toNat ⟨#[]⟩
theorem DK (op:Int):(Cp op).size≤6:=by
 unfold Cp;generalize (op - 11).toNat=k
 match k with
 | 0 | 1 | 2 | 3 | 4 | 5 | 6 | 7 | 8 | 9 | 10 | 11 | 12 | 13 | 14 | 15=>simp[Ph,ByteArray.size]
 | k+16=>simp[Ph,List.getD,ByteArray.size]
def J3 (k:Nat):ByteArray:=⟨(Lib.decDigits k).toArray⟩
theorem Pi:∀ (k n:Nat),n < 10 ^ (k+1)→(Lib.decDigits n).length≤k+1
 | 0,n,h=>by
  have h10:n < 10:=by simpa using h
  rw[Lib.decDigits,dif_pos h10];simp
 | k+1,n,h=>by
  by_cases h10:n < 10
  ·rw[Lib.decDigits,dif_pos h10];simp
  ·rw[Lib.decDigits,dif_neg h10];have:=Pi k (n / 10) (by have:(10 :Nat) ^ (k+1+1)=10 ^ (k+1) * 10:=Nat.pow_succ ..;omega);simp;omega
theorem Jl {n:Nat}(h:n≤9223372036854775807):(J3 n).size≤19:=by
 have:=Pi 18 n (by omega);simpa[J3,ByteArray.size] using this
def Fc (first:Bool):List ByteArray→ByteArray
 | []=>⟨#[]⟩
 | x ::r=>(if first then ⟨#[]⟩ else ⟨#[44,32]⟩) ++(⟨#[34]⟩ ++x ++⟨#[34]⟩) ++Fc false r
theorem J8 (a:ByteArray):a ++(⟨#[]⟩:ByteArray)=a:=ByteArray.append_empty
theorem IA (a:ByteArray):(⟨#[]⟩:ByteArray) ++a=a:=ByteArray.empty_append
theorem JN:∀ (f:Bool) (l:List ByteArray),(∀ x∈l,x.size≤32)→(Fc f l).size≤36 * l.length
 | f, [],_=>by simp[Fc,ByteArray.size]
 | f,x ::r,h=>by
  have h1:=JN false r (fun y hy=>h y (List.mem_cons_of_mem _ hy));have h2:=h x (List.mem_cons_self ..);rw[Fc];simp only[ByteArray.size_append,List.length_cons];have:(if f=true then (⟨#[]⟩:ByteArray) else ⟨#[44,32]⟩).size≤2:=by cases f <;> simp[ByteArray.size]
  have e:(⟨#[34]⟩:ByteArray).size=1:=rfl;omega
def Ub (ss:List ByteArray):ByteArray:=⟨#[123]⟩ ++Fc true ss ++⟨#[125]⟩
def par (b:Bool) (s:ByteArray):ByteArray:=if b then ⟨#[40]⟩ ++s ++⟨#[41]⟩ else s
theorem Gd (b:Bool)(s:ByteArray):(par b s).size≤s.size+2:=by
 have e1:(⟨#[40]⟩:ByteArray).size=1:=rfl;have e2:(⟨#[41]⟩:ByteArray).size=1:=rfl;cases b
 ·simp[par]
 ·simp only[par,if_true,ByteArray.size_append];omega
def Sz (op:Int):Int:=if Dw op=4 then 5 else Dw op
def Ex.pr:Ex→ByteArray
 | .int _ n=>J3 n.toNat
 | .text _ s=>⟨#[34]⟩ ++s ++⟨#[34]⟩
 | .bool _ b=>if b then ⟨#[116,114,117,101]⟩ else ⟨#[102,97,108,115,101]⟩
 | .set _ _ _ _ ss=>Ub ss
 | .name _ s=>s
 | .attr .. =>⟨#[]⟩
 | .lett .. =>⟨#[]⟩
 | .un _ op k=>if op=8 then ⟨#[45]⟩ ++par (decide (Dw k.op < 7)) k.pr else if op=9 then ⟨#[110,111,116,32]⟩ ++par (decide (Dw k.op < 3)) k.pr
  else ⟨#[115,105,122,101,40]⟩ ++k.pr ++⟨#[41]⟩
 | .bin _ op l r=>par (decide (Dw l.op < Sz op)) l.pr ++(⟨#[32]⟩ ++Cp op ++⟨#[32]⟩) ++par (decide (Dw r.op < Dw op+1)) r.pr
 | .ite _ c t e=>⟨#[105,102,32]⟩ ++c.pr ++⟨#[32,116,104,101,110,32]⟩ ++t.pr ++⟨#[32,101,108,115,101,32]⟩ ++e.pr
def Ex.put (e:Ex) (want:Int):ByteArray:=par (decide (Dw e.op < want)) e.pr
theorem Ds (e:Ex):e.put 0=e.pr:=by
 have:=FG e.op;rw[Ex.put,par,decide_eq_false (by omega)];rfl
def Ex.fit (w:World):Ex→Prop
 | .int _ n=>0≤n∧n≤9223372036854775807
 | .text _ s=>s.size≤32
 | .bool .. =>True
 | .set _ a n c ss=>Bg w a n c ss∧n≤64∧∀ x∈ss,x.size≤32
 | .name _ s=>s.size≤32
 | .attr .. =>False
 | .lett .. =>False
 | .un _ op k=>(8≤op∧op≤10)∧k.fit w
 | .bin _ op l r=>(11≤op∧op≤26)∧l.fit w∧r.fit w
 | .ite _ c t e=>c.fit w∧t.fit w∧e.fit w
theorem Ex.fit_below {w w':World}{B:Nat}(a:Below B w w')(b:w.heap.size≤B):∀ (e:Ex),e.fit w→e.fit w'
 | .int ..,h=>h
 | .text ..,h=>h
 | .bool ..,h=>h
 | .set ..,h=>⟨h.1.below a b,h.2⟩
 | .name ..,h=>h
 | .attr ..,h=>h
 | .lett ..,h=>h
 | .un _ _ k,h=>⟨h.1,k.fit_below a b h.2⟩
 | .bin _ _ l r,h=>⟨h.1,l.fit_below a b h.2.1,r.fit_below a b h.2.2⟩
 | .ite _ c t e,h=>⟨c.fit_below a b h.1,t.fit_below a b h.2.1,e.fit_below a b h.2.2⟩
theorem Ex.pr_size {w:World} :∀ (e:Ex),e.fit w→e.pr.size≤4000 * e.cnt
 | .int _ n,h=>by
  have:=Jl (n:=n.toNat) (by have:=h.2;omega);simp only[Ex.pr,Ex.cnt];omega
 | .text _ s,h=>by
  have h1:s.size≤32:=h;have e:(⟨#[34]⟩:ByteArray).size=1:=rfl;simp only[Ex.pr,Ex.cnt,ByteArray.size_append];omega
 | .bool _ b,_=>by
  have e1:(⟨#[116,114,117,101]⟩:ByteArray).size=4:=rfl;have e2:(⟨#[102,97,108,115,101]⟩:ByteArray).size=5:=rfl;cases b <;> simp only[Ex.pr,Ex.cnt,if_true,Bool.false_eq_true,if_false] <;> omega
 | .set _ _ n _ ss,h=>by
  have h1:=JN true ss h.2.2;have h2:=h.1.len;have h3:=h.2.1;have e1:(⟨#[123]⟩:ByteArray).size=1:=rfl;have e2:(⟨#[125]⟩:ByteArray).size=1:=rfl;simp only[Ex.pr,Ex.cnt,Ub,ByteArray.size_append];omega
 | .name _ s,h=>by
  have h1:s.size≤32:=h;simp only[Ex.pr,Ex.cnt];omega
 | .attr ..,h=>absurd h id
 | .lett ..,h=>absurd h id
 | .un _ op k,h=>by
  have h1:=k.pr_size h.2;have a:=Gd (decide (Dw k.op < 7)) k.pr;have d:=Gd (decide (Dw k.op < 3)) k.pr;have e1:(⟨#[45]⟩:ByteArray).size=1:=rfl;have e2:(⟨#[110,111,116,32]⟩:ByteArray).size=4:=rfl;have e3:(⟨#[115,105,122,101,40]⟩:ByteArray).size=5:=rfl;have e4:(⟨#[41]⟩:ByteArray).size=1:=rfl;simp only[Ex.pr,Ex.cnt];split
  ·simp only[ByteArray.size_append];omega
  ·split <;> simp only[ByteArray.size_append] <;> omega
 | .bin _ op l r,h=>by
  have h1:=l.pr_size h.2.1;have h2:=r.pr_size h.2.2;have a:=Gd (decide (Dw l.op < Sz op)) l.pr;have d:=Gd (decide (Dw r.op < Dw op+1)) r.pr;have e1:(⟨#[32]⟩:ByteArray).size=1:=rfl;have e2:=DK op;simp only[Ex.pr,Ex.cnt,ByteArray.size_append];omega
 | .ite _ c t e,h=>by
  have h1:=c.pr_size h.1;have h2:=t.pr_size h.2.1;have h3:=e.pr_size h.2.2;have e1:(⟨#[105,102,32]⟩:ByteArray).size=3:=rfl;have e2:(⟨#[32,116,104,101,110,32]⟩:ByteArray).size=6:=rfl;have e3:(⟨#[32,101,108,115,101,32]⟩:ByteArray).size=6:=rfl;simp only[Ex.pr,Ex.cnt,ByteArray.size_append];omega
theorem Ex.put_size {w:World}(e:Ex)(h:e.fit w)(a:Int):(e.put a).size≤4000 * e.cnt+2:=by
 have h1:=e.pr_size h;have h2:=Gd (decide (Dw e.op < a)) e.pr;rw[Ex.put];omega
inductive Ev (N:List Nd):Nat→Ex→Prop
 | int {i:Nat} {x:Nd} (h:N[i]? =some x) (ho:x.op=1) (hk:x.kids= []):Ev N i (.int i x.num)
 | text {i:Nat} {x:Nd} (h:N[i]? =some x) (ho:x.op=2) (hk:x.kids= []):Ev N i (.text i x.text)
 | bool {i:Nat} {x:Nd} (h:N[i]? =some x) (ho:x.op=3) (hk:x.kids= []):Ev N i (.bool i (decide (x.num=1)))
 | set {i:Nat} {x:Nd} (h:N[i]? =some x) (ho:x.op=4) (hk:x.kids= []) (a:Option Addr) (n c:Nat):Ev N i (.set i a n c x.names)
 | name {i:Nat} {x:Nd} (h:N[i]? =some x) (ho:x.op=5) (hk:x.kids= []):Ev N i (.name i x.text)
 | attr {i:Nat} {x:Nd} (h:N[i]? =some x) (ho:x.op=6) (hk:x.kids= []):Ev N i (.attr i x.num)
 | lett {i:Nat} {x:Nd} (h:N[i]? =some x) (ho:x.op=7) (hk:x.kids= []):Ev N i (.lett i x.num)
 | un {i k:Nat} {x:Nd} {e:Ex} (h:N[i]? =some x) (ho: 8≤x.op∧x.op≤10) (hk:x.kids= [(k:Int)]) (hi:k < i) (t:Ev N k e):Ev N i (.un i x.op e)
 | bin {i k l:Nat} {x:Nd} {e f:Ex} (h:N[i]? =some x) (ho: 11≤x.op∧x.op≤26) (hk:x.kids= [(k:Int),(l:Int)]) (hi:k < i∧l < i) (t:Ev N k e) (u:Ev N l f):Ev N i (.bin i x.op e f)
 | ite {i k l m:Nat} {x:Nd} {e f g:Ex} (h:N[i]? =some x) (ho:x.op=27) (hk:x.kids= [(k:Int),(l:Int),(m:Int)]) (hi:k < i∧l < i∧m < i) (t:Ev N k e) (u:Ev N l f) (v:Ev N m g):Ev N i (.ite i e f g)
theorem Ev.lt {N:List Nd}{i:Nat}{e:Ex}(h:Ev N i e):i < N.length:=by
 cases h <;> exact (List.getElem?_eq_some_iff.1 (by assumption)).1
theorem Ev.op {N:List Nd}{i:Nat}{e:Ex}(h:Ev N i e):∃ x,N[i]? =some x∧x.op=e.op:=by
 cases h <;> exact ⟨_,by assumption,by first | assumption | rfl⟩
def ID (Es:List Ex):Nat:=(Es.map Ex.cnt).sum
theorem Rc {N:List Nd}{a b:Nat}{z:List (Nat × Nat)}(h:Ba (N.map Nd.kids) a z b):∀ (Es:List Ex),Es.length=z.length→(∀ j,(h1:j < z.length)→(h2:j < Es.length)→Ev N z[j].1 Es[j])→a+ID Es=b:=by
 induction h with
 | nil a=>
  intro Es hl _;have:Es= []:=List.eq_nil_of_length_eq_zero hl;subst this;simp[ID]
 | @cons a t b A z hk ht M E F=>
  intro Es hl C
  match Es,hl with
  | e ::Es,hl=>
   have he:Ev N t e:=C 0 (by simp) (by simp);have O:=F Es (by simpa using hl) (fun j h1 h2=>C (j+1) (by simpa using h1) (by simpa using h2));have H:∃ x,N[t]? =some x∧x.kids=Bw A:=by
    rw[List.getElem?_map] at ht;cases hx:N[t]? with
    | none=>rw[hx] at ht;cases ht
    | some x=>rw[hx] at ht;exact ⟨x,rfl,Option.some.inj ht⟩
   obtain ⟨x,hx,I⟩:=H;have P:a+e.cnt=t+1:=by
    have B:∀ (r:List Ex) (s:List Nat),x.kids=s.map (fun (q:Nat)=>(q:Int))→r.length=s.length→(∀ j,(h1:j < s.length)→(h2:j < r.length)→Ev N s[j] r[j])→a+ID r=t:=by
     intro r s hq J K;have e1:A.map (fun p=>p.1)=s:=by
      have:=I.symm.trans hq;rw[Bw] at this;have h2:=congrArg (List.map Int.toNat) this;simpa[List.map_map,Function.comp_def] using h2
     have e2:A.length=r.length:=by rw[J,← e1,List.length_map]
     exact (E r e2.symm (fun j h1 h2=>by
      have:=K j (by rw[← e1,List.length_map];exact h1) h2;have e3:s[j]'(by rw[← e1,List.length_map];exact h1)=A[j].1:=by simp[← e1]
      rw[← e3];exact this))
    have d:∀ {y:Nd},N[t]? =some y→y=x:=fun h=>Option.some.inj (h.symm.trans hx);have w:x.kids= []→a=t:=fun h0=>by
     have:=B [] [] (by rw[h0];rfl) rfl (fun j h=>absurd h (by simp));simpa[ID] using this
    cases he with
    | int h o hk=>rw[w (d h ▸ hk)];rfl
    | text h o hk=>rw[w (d h ▸ hk)];rfl
    | bool h o hk=>rw[w (d h ▸ hk)];rfl
    | set h o hk a n c=>rw[w (d h ▸ hk)];rfl
    | name h o hk=>rw[w (d h ▸ hk)];rfl
    | attr h o hk=>rw[w (d h ▸ hk)];rfl
    | lett h o hk=>rw[w (d h ▸ hk)];rfl
    | @un i k y e h o hk hi u=>
     have:=B [e] [k] (by rw[← d h,hk];rfl) rfl (fun j h1 h2=>by
      have:j=0:=by simpa using h1
      subst this;exact u)
     simp[ID] at this;simp only[Ex.cnt];omega
    | @bin i k l y e f h o hk hi u v=>
     have:=B [e,f] [k,l] (by rw[← d h,hk];rfl) rfl (fun j h1 h2=>by
      match j,h1 with
      | 0,_=>exact u
      | 1,_=>exact v)
     simp[ID] at this;simp only[Ex.cnt];omega
    | @ite i k l m y e f g h o hk hi u v L=>
     have:=B [e,f,g] [k,l,m] (by rw[← d h,hk];rfl) rfl (fun j h1 h2=>by
      match j,h1 with
      | 0,_=>exact u
      | 1,_=>exact v
      | 2,_=>exact L)
     simp[ID] at this;simp only[Ex.cnt];omega
   have e5:ID (e ::Es)=e.cnt+ID Es:=by simp[ID]
   rw[e5];omega
set_option maxRecDepth 100000
set_option maxHeartbeats 2000000
theorem P8 (a:Option Addr)(n c:Nat)(d:List ByteArray)(w:World)(h:Bg w a n c d)(hl:d.length≤1048576):
  Calls Tryz.prog 111 #[.slice a n c] w fun e w'=>(∃ x l,e= .returned (.slice x d.length l)∧w'.ownsRow w.heap.size 9 1 (.slice x d.length l) d.length (d.map Value.string))∧Below w.heap.size w w':=by
 obtain ⟨v,y,z,A,B⟩:=info_parts Kc;have m:=h.len;cases a with
 | none=>
  have h0:n=0:=by
   rcases Nat.eq_zero_or_pos n with q | q
   ·exact q
   ·obtain ⟨b,C,e,_⟩:=h.cells 0 q;cases e
  subst h0;obtain rfl:d= []:=List.eq_nil_of_length_eq_zero m.symm;clear h hl m;have E:∀ (w:World) (a:Option Addr) (n c f g:Nat),(binOp .eql 34 (.slice a n c) (.slice none f g)).run Tryz.prog w= .ok (.bool a.isNone) w:=fun w a n c f g=>Lib.run_eql_slice_nil w _ _ a n c f g Tryz.underlying34;go_enter Tryz.func111,Tryz.ntmps111
  go_wp2_with fail
  go_ret
  exact ⟨⟨none,0,rfl,World.ownsRow_nil _ _ _ _⟩,BRN⟩
 | some F=>
  have E:∀ (w:World) (a:Option Addr) (n c f g:Nat),(binOp .eql 34 (.slice a n c) (.slice none f g)).run Tryz.prog w= .ok (.bool a.isNone) w:=fun w a n c f g=>Lib.run_eql_slice_nil w _ _ a n c f g Tryz.underlying34;have M:∀ w,Sem.run Tryz.prog (underlying 34) w= .ok (TypeDesc.slice 9) w:=run_underlying Tryz.underlying34;have H:=Ab h;have i:=Ab m;have N:n≤1048576:=by omega
  clear h m;go_enter Tryz.func111,Tryz.ntmps111
  go_wp2_with (at_builtin;refine wpList_append_own _ rfl _ _ 34 rfl w.heap.size 9 v (.string ByteArray.empty) 1 16 Tryz.underlying34 y z A B rfl (by decide) _ _ _ rfl (World.ownsRow_made w #[] 0 NLN (Nat.zero_le _) rfl) F n c (d.map Value.string) rfl ?qc1 ?qc2 ?qc3 ?qc4 ?qc5 ?qc6 ?_)
  case qc1=>rw[List.length_map,Aa i];omega
  case qc2=>
   intro j u p;have o:j < n:=by
    have:=(List.getElem?_eq_some_iff.1 p).1;rw[List.length_map] at this;rw[Aa i];exact this
   obtain ⟨b,C,e,O,hc⟩:=(Aa H).cells j o;cases e;rw[Addr.add_lit];refine Lib.cell?_alloc_some _ ?_;rw[hc,← p,List.getElem?_map,List.getElem?_eq_getElem (by rw[← Aa i];exact o),Cf _ _ (by rw[← Aa i];exact o)];rfl
  case qc3=>intro u hu;obtain ⟨x,_,rfl⟩:=List.mem_map.1 hu;rfl
  case qc4=>unfold maxLen;omega
  case qc5=>omega
  case qc6=>simp
  intro I J r s K;have L:=((Below.refl _ w).alloc NLN (.cells #[] 9)).grown s (by simp) (by intro k hk;simp[Value.ownBlock] at hk;omega);have t:J.ownsRow w.heap.size 9 1 I n (d.map Value.string):=by simpa using r
  obtain ⟨x,l,rfl,_⟩:=Ah t;clear r K s;go_wp2_with fail
  go_ret
  have e:=Aa i;subst e;exact ⟨⟨x,l,rfl,t⟩,L⟩
theorem Ch {w:World}{a base':Nat}{e:TypeId}{size:Nat}{v:Value}{n:Nat}{b:List Value}(h:w.ownsRow a e size v n b)(c:base'≤a):w.ownsRow base' e size v n b:=by
 refine ⟨h.1, ?_⟩;rcases h.2 with h2 | ⟨g,cap,d,f,h3,h4⟩
 ·exact .inl h2
 ·exact .inr ⟨g,cap,d,f,Nat.le_trans c h3,h4⟩
end Go.Proofs.YtdldimphcpojoaaGreatDoor
namespace Go.Proofs.YtdldimphcpojoaaGreatDoor
set_option maxHeartbeats 1600000
open Go.RowKit
set_option linter.unusedVariables false
structure LF (w:World) (aS aB aT:Addr):Prop where
 gS:w.cell? ⟨0,0,none⟩=some (.iface 225 (.pointer (some aS)))
 gB:w.cell? ⟨4,0,none⟩=some (.iface 225 (.pointer (some aB)))
 gT:w.cell? ⟨5,0,none⟩=some (.iface 225 (.pointer (some aT)))
 gE:w.cell? ⟨3,0,none⟩=some (.iface 155 (.agg #[.pointer (some ⟨17,53,none⟩)]))
 gR:∃ tp p,w.var? Tryz.prog "strconv.ErrRange" =some #[.iface tp p]
 big: 17≤w.heap.size
 rS:∃ c t,w.heap[aS.block]? =some (.cells c t (0,0))
 rB:∃ c t,w.heap[aB.block]? =some (.cells c t (0,0))
 rT:∃ c t,w.heap[aT.block]? =some (.cells c t (0,0))
 nSB:aS≠aB
 nST:aS≠aT
 nBT:aB≠aT
theorem Gm {w w':World}{B:Nat}{a:Addr}(h:∃ c t,w.heap[a.block]? =some (.cells c t (0,0)))(b:Below B w w')(d:w.heap.size≤B):∃ c t,w'.heap[a.block]? =some (.cells c t (0,0)):=by
 obtain ⟨c,t,h⟩:=h;have f:a.block < w.heap.size:=(Array.getElem?_eq_some_iff.1 h).1;exact ⟨c,t,(b.block _ (by omega)).trans h⟩
theorem Ye: Tryz.prog.globalNamed "strconv.ErrRange" =some 11:=by kernel_rfl
theorem LF.below {w w':World}{B:Nat}{aS aB aT:Addr}(h:LF w aS aB aT)(a:Below B w w')(b:w.heap.size≤B):LF w' aS aB aT where
 gS:=(a.cell (p:=⟨0,0,none⟩) (by have:=h.big;show 0 < B;omega)).trans h.gS
 gB:=(a.cell (p:=⟨4,0,none⟩) (by have:=h.big;show 4 < B;omega)).trans h.gB
 gT:=(a.cell (p:=⟨5,0,none⟩) (by have:=h.big;show 5 < B;omega)).trans h.gT
 gE:=(a.cell (p:=⟨3,0,none⟩) (by have:=h.big;show 3 < B;omega)).trans h.gE
 gR:=by
  obtain ⟨c,p,e⟩:=h.gR;refine ⟨c,p, ?_⟩;rw[← e];unfold World.var?;rw[Ye];simp only[Option.bind_some];rw[a.block 11 (by have:=h.big;omega)]
 big:=Nat.le_trans h.big a.size
 rS:=Gm h.rS a b
 rB:=Gm h.rB a b
 rT:=Gm h.rT a b
 nSB:=h.nSB
 nST:=h.nST
 nBT:=h.nBT
theorem LF.of_heap {w w':World}{aS aB aT:Addr}(h:LF w aS aB aT)(e:w'.heap=w.heap):LF w' aS aB aT:=by
 have c:∀ p,w'.cell? p=w.cell? p:=fun p=>by unfold World.cell?;rw[e]
 refine ⟨by rw[c];exact h.gS,by rw[c];exact h.gB,by rw[c];exact h.gT,by rw[c];exact h.gE, ?_,by rw[e];exact h.big,by rw[e];exact h.rS,by rw[e];exact h.rB,by rw[e];exact h.rT,h.nSB,h.nST,h.nBT⟩;obtain ⟨a,p,k⟩:=h.gR;refine ⟨a,p, ?_⟩;rw[← k];unfold World.var?;rw[e]
variable {aS aB aT : Addr}
def GQ (aS aB aT:Addr) (c:Int):Value:=if c=1 then .iface 225 (.pointer (some aS)) else if c=2 then .iface 225 (.pointer (some aB)) else .iface 225 (.pointer (some aT))
theorem Bt {a b:Addr}{w:World}(g:a≠b)(d:∃ c t,w.heap[a.block]? =some (.cells c t (0,0)))(f:∃ c t,w.heap[b.block]? =some (.cells c t (0,0))):
  Calls Tryz.prog 69 #[.iface 225 (.pointer (some a)),.iface 225 (.pointer (some b))] w fun e w'=>e= .returned (.bool false)∧w'=w:=by
 obtain ⟨c,t,d⟩:=d;obtain ⟨h,i,f⟩:=f;exact Vu a b c h t i w g d f
theorem Pw (w:World)(hs:LF w aS aB aT):
  Calls Tryz.prog 37 #[.iface 225 (.pointer (some aS))] w fun e w'=>e= .returned (.int .i64 1)∧w'=w:=by
 have h1:=hs.gS;go_enter Tryz.func37,Tryz.ntmps37
 go_wp2_with fail
 refine (Gn aS w).mono ?_;rintro e w' ⟨rfl,rfl⟩;go_wp2_with fail
 go_ret
 exact ⟨rfl,rfl⟩
theorem Px (w:World)(hs:LF w aS aB aT):
  Calls Tryz.prog 37 #[.iface 225 (.pointer (some aB))] w fun e w'=>e= .returned (.int .i64 2)∧w'=w:=by
 have h1:=hs.gS;have h2:=hs.gB;go_enter Tryz.func37,Tryz.ntmps37
 go_wp2_with fail
 refine (Bt (fun e=>hs.nSB e.symm) hs.rB hs.rS).mono ?_;rintro e w' ⟨rfl,rfl⟩;go_wp2_with fail
 refine (Gn aB _).mono ?_;rintro e w' ⟨rfl,rfl⟩;go_wp2_with fail
 go_ret
 exact ⟨rfl,rfl⟩
theorem Py (w:World)(hs:LF w aS aB aT):
  Calls Tryz.prog 37 #[.iface 225 (.pointer (some aT))] w fun e w'=>e= .returned (.int .i64 3)∧w'=w:=by
 have h1:=hs.gS;have h2:=hs.gB;have h3:=hs.gT;go_enter Tryz.func37,Tryz.ntmps37
 go_wp2_with fail
 refine (Bt (fun e=>hs.nST e.symm) hs.rT hs.rS).mono ?_;rintro e w' ⟨rfl,rfl⟩;go_wp2_with fail
 refine (Bt (fun e=>hs.nBT e.symm) hs.rT hs.rB).mono ?_;rintro e w' ⟨rfl,rfl⟩;go_wp2_with fail
 refine (Gn aT _).mono ?_;rintro e w' ⟨rfl,rfl⟩;go_wp2_with fail
 go_ret
 exact ⟨rfl,rfl⟩
theorem LY (c:Int)(w:World)(hs:LF w aS aB aT)(hc: 1≤c∧c≤3):
  Calls Tryz.prog 37 #[GQ aS aB aT c] w fun e w'=>e= .returned (.int .i64 c)∧w'=w:=by
 have h:c=1∨c=2∨c=3:=by omega
 rcases h with rfl | rfl | rfl
 ·exact Pw w hs
 ·exact Px w hs
 ·exact Py w hs
theorem DY (i:Int)(t:TypeId)(p:Value)(w:World):
  Calls Tryz.prog 38 #[.int .i64 i,.iface t p] w fun e w'=>e= .returned (.iface 87 (.pointer (some ⟨w.heap.size,0,none⟩)))∧An w' w.heap.size #[.int .i64 i,.iface t p] 92∧Below w.heap.size w w':=by
 go_enter Tryz.func38,Tryz.ntmps38
 go_wp2
 go_ret
 exact ⟨rfl,An.new _ _ _,(Below.refl w.heap.size w).alloc NLN _⟩
theorem I2 {c:Func}{a:Tmp}(h:c.results= #[.cell a 30]){d:Array Value}{w:World}{b:Nat}{f g:Value}(i:d.getD a undef= .pointer (some ⟨b,0,none⟩))
  (j:w.cell? ⟨b,0,none⟩=some f)(g1:w.cell? ⟨b,1,none⟩=some g):
  (results c d).run Tryz.prog w= .ok (.agg #[f,g]) w:=by
 rw[Array.getD_eq_getD_getElem?] at i;simp[results,h,i,go_sem,j,g1]
theorem JF (w:World):
  Calls Tryz.prog 16 #[.nilIface] w fun e w'=>e= .returned (.agg #[.int .i64 0,.int .i64 0])∧Below w.heap.size w w':=by
 go_enter Tryz.func16,Tryz.ntmps16
 go_wp2
 have R:=An.new w #[.int .i64 0,.int .i64 0] 30;have a:=R.cell 0;have g1:=R.cell 1;refine bodyPost_ret (I2 Tryz.results16 rfl a g1) rfl ⟨rfl,(Below.refl w.heap.size w).alloc NLN _⟩
theorem IF (aS aB aT:Addr)(c:Int):∃ a,GQ aS aB aT c= .iface 225 (.pointer (some a)):=by
 unfold GQ;split
 ·exact ⟨_,rfl⟩
 ·split
  ·exact ⟨_,rfl⟩
  ·exact ⟨_,rfl⟩
theorem JG (b:Nat)(i c:Int)(w:World)(hs:LF w aS aB aT)(h:An w b #[.int .i64 i,GQ aS aB aT c] 92)(hc: 1≤c∧c≤3):
  Calls Tryz.prog 16 #[.iface 87 (.pointer (some ⟨b,0,none⟩))] w fun e w'=>e= .returned (.agg #[.int .i64 c,.int .i64 i])∧Below w.heap.size w w':=by
 obtain ⟨l,m⟩:=IF aS aB aT c;have n:=Ab (fun w hs=>LY (aS:=aS) (aB:=aB) (aT:=aT) c w hs hc);rw[m] at h n;clear m;have a:=((Below.refl w.heap.size w).alloc NLN (.cells #[.int .i64 0,.int .i64 0] 30)).alloc (by simp) (.cells #[.pointer none] 87);have o:=(An.new w #[.int .i64 0,.int .i64 0] 30).alloc (.cells #[.pointer none] 87);have d:=An.new (w.alloc (.cells #[.int .i64 0,.int .i64 0] 30)) #[.pointer none] 87;have q:=Ab (hs.below a NLN).gE;have r:=h.after a NLN;have M:=h.lt;have N:((w.alloc (.cells #[.int .i64 0,.int .i64 0] 30)).alloc (.cells #[.pointer none] 87)).heap.size=w.heap.size+2:=by simp
 simp only[World.size_alloc] at d;have y:=Ab hs;clear hs h;go_enter Tryz.func16,Tryz.ntmps16
 go_wp2_with fail
 generalize (w.alloc (.cells #[.int .i64 0,.int .i64 0] 30)).alloc (.cells #[.pointer none] 87)=z at *;have s:=d.cell 0;refine (Uy ⟨b,0,none⟩ ⟨w.heap.size+1,0,none⟩ (.pointer none) z (Aa q) (by simpa using s) (d.frozen 0)).mono ?_;rintro e f ⟨rfl,g⟩;have t:Below w.heap.size w f:=by
  rw[g];exact ((((a.alloc a.size _).alloc (by simp;omega) _).alloc (by simp;omega) _).alloc (by simp;omega) _).setCell (p:=⟨w.heap.size+1,0,none⟩) (by show w.heap.size≤w.heap.size+1;omega) _
 have j:An f w.heap.size #[.int .i64 0,.int .i64 0] 30:=by
  rw[g];exact ((((o.alloc _).alloc _).alloc _).alloc _).setFar (p:=⟨w.heap.size+1,0,none⟩) (by show w.heap.size≠w.heap.size+1;omega) _
 have A:An f (w.heap.size+1) #[.pointer (some ⟨b,0,none⟩)] 87:=by
  rw[g];exact ((((d.alloc _).alloc _).alloc _).alloc _).set 0 _
 have u:An f b #[.int .i64 i,.iface 225 (.pointer (some l))] 92:=by
  rw[g];exact ((((r.alloc _).alloc _).alloc _).alloc _).setFar (p:=⟨w.heap.size+1,0,none⟩) (by show b≠w.heap.size+1;omega) _
 have B:=Ab ((Aa y).below t NLN);clear g a o d r q s;have C:=A.cell 0;have E:=u.cell 0;have F:=u.cell 1;have O:=fun k=>j.frozen k;have H:=j.cell 0;have I:=j.cell 1;simp only[List.getElem?_toArray,List.getElem?_cons_zero,List.getElem?_cons_succ] at C E F H I;have J:b≠w.heap.size:=by omega
 have P:w.heap.size≠b:=by omega
 have Q: ¬ (b=w.heap.size):=J;go_wp2_with fail
 go_region_held3 (fun w'=>w'.cell? ⟨w.heap.size+1,0,none⟩=some (.pointer (some ⟨b,0,none⟩))∧w'.cell? ⟨b,0,none⟩=some (.int .i64 i)∧w'.cell? ⟨b,1,none⟩=some (.iface 225 (.pointer (some l)))) (go_keep)
  ((go_at_call 37;refine (Aa n f.drew (LF.of_heap (Aa B) rfl)).mono ?_;rintro e R ⟨rfl,v⟩;rw[v];clear v))
 all_goals
  go_wp2_with fail
  have x:=(j.set 0 (.int .i64 c)).set 1 (.int .i64 i);have K:=((t.setCell (p:=⟨w.heap.size,0,none⟩) NLN (.int .i64 c)).setCell (p:=⟨w.heap.size,1,none⟩) NLN (.int .i64 i)).drew;have L:_=some (Value.int .i64 c):=x.cell 0;have g1:_=some (Value.int .i64 i):=x.cell 1;exact bodyPost_ret (I2 Tryz.results16 rfl L g1) rfl ⟨rfl,K⟩
end Go.Proofs.YtdldimphcpojoaaGreatDoor
namespace Go.Proofs.YtdldimphcpojoaaGreatDoor
set_option maxHeartbeats 1600000
open Go.RowKit
set_option linter.unusedVariables false
structure S6 (w:World) (a1 a2 a3 a4 a5 a6:Addr):Prop where
 g1:w.cell? ⟨0,0,none⟩=some (.iface 225 (.pointer (some a1)))
 g2:w.cell? ⟨4,0,none⟩=some (.iface 225 (.pointer (some a2)))
 g3:w.cell? ⟨5,0,none⟩=some (.iface 225 (.pointer (some a3)))
 g4:w.cell? ⟨6,0,none⟩=some (.iface 225 (.pointer (some a4)))
 g5:w.cell? ⟨1,0,none⟩=some (.iface 225 (.pointer (some a5)))
 g6:w.cell? ⟨2,0,none⟩=some (.iface 225 (.pointer (some a6)))
 gE:w.cell? ⟨3,0,none⟩=some (.iface 155 (.agg #[.pointer (some ⟨17,53,none⟩)]))
 gR:∃ tp p,w.var? Tryz.prog "strconv.ErrRange" =some #[.iface tp p]
 big: 17≤w.heap.size
 rows:∀ a∈ [a1,a2,a3,a4,a5,a6],∃ c t,w.heap[a.block]? =some (.cells c t (0,0))
 nd:([a1,a2,a3,a4,a5,a6]:List Addr).Nodup
variable {a1 a2 a3 a4 a5 a6 : Addr}
theorem S6.snt {w:World}(h:S6 w a1 a2 a3 a4 a5 a6):LF w a1 a2 a3:=by
 have nd:=h.nd;simp only[List.nodup_cons,List.mem_cons,not_or] at nd;exact ⟨h.g1,h.g2,h.g3,h.gE,h.gR,h.big,h.rows _ (by simp),h.rows _ (by simp),h.rows _ (by simp),nd.1.1,nd.1.2.1,nd.2.1.1⟩
theorem S6.below {w w':World}{B:Nat}(h:S6 w a1 a2 a3 a4 a5 a6)(b:Below B w w')(c:w.heap.size≤B):S6 w' a1 a2 a3 a4 a5 a6 where
 g1:=(b.cell (p:=⟨0,0,none⟩) (by have:=h.big;show 0 < B;omega)).trans h.g1
 g2:=(b.cell (p:=⟨4,0,none⟩) (by have:=h.big;show 4 < B;omega)).trans h.g2
 g3:=(b.cell (p:=⟨5,0,none⟩) (by have:=h.big;show 5 < B;omega)).trans h.g3
 g4:=(b.cell (p:=⟨6,0,none⟩) (by have:=h.big;show 6 < B;omega)).trans h.g4
 g5:=(b.cell (p:=⟨1,0,none⟩) (by have:=h.big;show 1 < B;omega)).trans h.g5
 g6:=(b.cell (p:=⟨2,0,none⟩) (by have:=h.big;show 2 < B;omega)).trans h.g6
 gE:=(b.cell (p:=⟨3,0,none⟩) (by have:=h.big;show 3 < B;omega)).trans h.gE
 gR:=(h.snt.below b c).gR
 big:=Nat.le_trans h.big b.size
 rows:=fun a d=>Gm (h.rows a d) b c
 nd:=h.nd
theorem S6.drew {w:World}(h:S6 w a1 a2 a3 a4 a5 a6):S6 w.drew a1 a2 a3 a4 a5 a6:=h.below (Below.refl w.heap.size w).drew NLN
theorem MQ (w:World)(hs:S6 w a1 a2 a3 a4 a5 a6):
  Calls Tryz.prog 37 #[.iface 225 (.pointer (some a4))] w fun e w'=>e= .returned (.int .i64 4)∧w'=w:=by
 have h1:=hs.g1;have h2:=hs.g2;have h3:=hs.g3;have h4:=hs.g4;have d:=Ab hs.nd;have c:=Ab hs.rows;clear hs;go_enter Tryz.func37,Tryz.ntmps37
 go_wp2_with fail
 refine (Bt (a:=a4) (b:=a1) (by have:=Aa d;simp at this;grind) (Aa c _ (by simp)) (Aa c _ (by simp))).mono ?_;rintro e w' ⟨rfl,rfl⟩;go_wp2_with fail
 refine (Bt (a:=a4) (b:=a2) (by have:=Aa d;simp at this;grind) (Aa c _ (by simp)) (Aa c _ (by simp))).mono ?_;rintro e w' ⟨rfl,rfl⟩;go_wp2_with fail
 refine (Bt (a:=a4) (b:=a3) (by have:=Aa d;simp at this;grind) (Aa c _ (by simp)) (Aa c _ (by simp))).mono ?_;rintro e w' ⟨rfl,rfl⟩;go_wp2_with fail
 refine (Gn a4 _).mono ?_;rintro e w' ⟨rfl,rfl⟩;go_wp2_with fail
 go_ret
 exact ⟨rfl,rfl⟩
theorem MR (w:World)(hs:S6 w a1 a2 a3 a4 a5 a6):
  Calls Tryz.prog 37 #[.iface 225 (.pointer (some a5))] w fun e w'=>e= .returned (.int .i64 5)∧w'=w:=by
 have h1:=hs.g1;have h2:=hs.g2;have h3:=hs.g3;have h4:=hs.g4;have h5:=hs.g5;have d:=Ab hs.nd;have c:=Ab hs.rows;clear hs;go_enter Tryz.func37,Tryz.ntmps37
 go_wp2_with fail
 refine (Bt (a:=a5) (b:=a1) (by have:=Aa d;simp at this;grind) (Aa c _ (by simp)) (Aa c _ (by simp))).mono ?_;rintro e w' ⟨rfl,rfl⟩;go_wp2_with fail
 refine (Bt (a:=a5) (b:=a2) (by have:=Aa d;simp at this;grind) (Aa c _ (by simp)) (Aa c _ (by simp))).mono ?_;rintro e w' ⟨rfl,rfl⟩;go_wp2_with fail
 refine (Bt (a:=a5) (b:=a3) (by have:=Aa d;simp at this;grind) (Aa c _ (by simp)) (Aa c _ (by simp))).mono ?_;rintro e w' ⟨rfl,rfl⟩;go_wp2_with fail
 refine (Bt (a:=a5) (b:=a4) (by have:=Aa d;simp at this;grind) (Aa c _ (by simp)) (Aa c _ (by simp))).mono ?_;rintro e w' ⟨rfl,rfl⟩;go_wp2_with fail
 refine (Gn a5 _).mono ?_;rintro e w' ⟨rfl,rfl⟩;go_wp2_with fail
 go_ret
 exact ⟨rfl,rfl⟩
theorem MS (w:World)(hs:S6 w a1 a2 a3 a4 a5 a6):
  Calls Tryz.prog 37 #[.iface 225 (.pointer (some a6))] w fun e w'=>e= .returned (.int .i64 6)∧w'=w:=by
 have h1:=hs.g1;have h2:=hs.g2;have h3:=hs.g3;have h4:=hs.g4;have h5:=hs.g5;have h6:=hs.g6;have d:=Ab hs.nd;have c:=Ab hs.rows;clear hs;go_enter Tryz.func37,Tryz.ntmps37
 go_wp2_with fail
 refine (Bt (a:=a6) (b:=a1) (by have:=Aa d;simp at this;grind) (Aa c _ (by simp)) (Aa c _ (by simp))).mono ?_;rintro e w' ⟨rfl,rfl⟩;go_wp2_with fail
 refine (Bt (a:=a6) (b:=a2) (by have:=Aa d;simp at this;grind) (Aa c _ (by simp)) (Aa c _ (by simp))).mono ?_;rintro e w' ⟨rfl,rfl⟩;go_wp2_with fail
 refine (Bt (a:=a6) (b:=a3) (by have:=Aa d;simp at this;grind) (Aa c _ (by simp)) (Aa c _ (by simp))).mono ?_;rintro e w' ⟨rfl,rfl⟩;go_wp2_with fail
 refine (Bt (a:=a6) (b:=a4) (by have:=Aa d;simp at this;grind) (Aa c _ (by simp)) (Aa c _ (by simp))).mono ?_;rintro e w' ⟨rfl,rfl⟩;go_wp2_with fail
 refine (Bt (a:=a6) (b:=a5) (by have:=Aa d;simp at this;grind) (Aa c _ (by simp)) (Aa c _ (by simp))).mono ?_;rintro e w' ⟨rfl,rfl⟩;go_wp2_with fail
 refine (Gn a6 _).mono ?_;rintro e w' ⟨rfl,rfl⟩;go_wp2_with fail
 go_ret
 exact ⟨rfl,rfl⟩
def YC (a4 a5 a6:Addr) (c:Int):Addr:=if c=4 then a4 else if c=5 then a5 else a6
theorem Qo (c:Int)(w:World)(hs:S6 w a1 a2 a3 a4 a5 a6)(hc: 4≤c∧c≤6):
  Calls Tryz.prog 37 #[.iface 225 (.pointer (some (YC a4 a5 a6 c)))] w fun e w'=>e= .returned (.int .i64 c)∧w'=w:=by
 have h:c=4∨c=5∨c=6:=by omega
 rcases h with rfl | rfl | rfl
 ·exact MQ w hs
 ·exact MR w hs
 ·exact MS w hs
def YK (a4 a5 a6:Addr) (c i:Int) (b:Nat) (w:World):Prop:=An w b #[.int .i64 i,.iface 225 (.pointer (some (YC a4 a5 a6 c)))] 92
theorem UN (b:Nat)(c i:Int)(w:World)(hs:S6 w a1 a2 a3 a4 a5 a6)(a:YK a4 a5 a6 c i b w)(hc: 4≤c∧c≤6):
  Calls Tryz.prog 16 #[.iface 87 (.pointer (some ⟨b,0,none⟩))] w fun e w'=>e= .returned (.agg #[.int .i64 c,.int .i64 i])∧Below w.heap.size w w':=by
 have l:=Ab (fun w hs=>Qo (a1:=a1) (a2:=a2) (a3:=a3) (a4:=a4) (a5:=a5) (a6:=a6) c w hs hc)
 change An w b #[.int .i64 i,.iface 225 (.pointer (some (YC a4 a5 a6 c)))] 92 at a
 clear hc;generalize YC a4 a5 a6 c=m at a l;have d:=((Below.refl w.heap.size w).alloc NLN (.cells #[.int .i64 0,.int .i64 0] 30)).alloc (by simp) (.cells #[.pointer none] 87);have n:=(An.new w #[.int .i64 0,.int .i64 0] 30).alloc (.cells #[.pointer none] 87);have f:=An.new (w.alloc (.cells #[.int .i64 0,.int .i64 0] 30)) #[.pointer none] 87;have o:=Ab (hs.below d NLN).gE;have q:=a.after d NLN;have L:=a.lt;have M:((w.alloc (.cells #[.int .i64 0,.int .i64 0] 30)).alloc (.cells #[.pointer none] 87)).heap.size=w.heap.size+2:=by simp
 simp only[World.size_alloc] at f;have x:=Ab hs;clear hs a;go_enter Tryz.func16,Tryz.ntmps16
 go_wp2_with fail
 generalize (w.alloc (.cells #[.int .i64 0,.int .i64 0] 30)).alloc (.cells #[.pointer none] 87)=y at *;have r:=f.cell 0;refine (Uy ⟨b,0,none⟩ ⟨w.heap.size+1,0,none⟩ (.pointer none) y (Aa o) (by simpa using r) (f.frozen 0)).mono ?_;rintro e g ⟨rfl,h⟩;have s:Below w.heap.size w g:=by
  rw[h];exact ((((d.alloc d.size _).alloc (by simp;omega) _).alloc (by simp;omega) _).alloc (by simp;omega) _).setCell (p:=⟨w.heap.size+1,0,none⟩) (by show w.heap.size≤w.heap.size+1;omega) _
 have j:An g w.heap.size #[.int .i64 0,.int .i64 0] 30:=by
  rw[h];exact ((((n.alloc _).alloc _).alloc _).alloc _).setFar (p:=⟨w.heap.size+1,0,none⟩) (by show w.heap.size≠w.heap.size+1;omega) _
 have z:An g (w.heap.size+1) #[.pointer (some ⟨b,0,none⟩)] 87:=by
  rw[h];exact ((((f.alloc _).alloc _).alloc _).alloc _).set 0 _
 have t:An g b #[.int .i64 i,.iface 225 (.pointer (some m))] 92:=by
  rw[h];exact ((((q.alloc _).alloc _).alloc _).alloc _).setFar (p:=⟨w.heap.size+1,0,none⟩) (by show b≠w.heap.size+1;omega) _
 have A:=Ab ((Aa x).below s NLN);clear h d n f q o r;have B:=z.cell 0;have C:=t.cell 0;have E:=t.cell 1;have N:=fun k=>j.frozen k;have F:=j.cell 0;have H:=j.cell 1;simp only[List.getElem?_toArray,List.getElem?_cons_zero,List.getElem?_cons_succ] at B C E F H;have I:b≠w.heap.size:=by omega
 have O:w.heap.size≠b:=by omega
 have P: ¬ (b=w.heap.size):=I;go_wp2_with fail
 go_region_held3 (fun w'=>w'.cell? ⟨w.heap.size+1,0,none⟩=some (.pointer (some ⟨b,0,none⟩))∧w'.cell? ⟨b,0,none⟩=some (.int .i64 i)∧w'.cell? ⟨b,1,none⟩=some (.iface 225 (.pointer (some m)))) (go_keep)
  ((go_at_call 37;refine (Aa l g.drew ((Aa A).drew)).mono ?_;rintro e Q ⟨rfl,u⟩;rw[u];clear u))
 all_goals
  go_wp2_with fail
  have v:=(j.set 0 (.int .i64 c)).set 1 (.int .i64 i);have J:=((s.setCell (p:=⟨w.heap.size,0,none⟩) NLN (.int .i64 c)).setCell (p:=⟨w.heap.size,1,none⟩) NLN (.int .i64 i)).drew;have K:_=some (Value.int .i64 c):=v.cell 0;have g1:_=some (Value.int .i64 i):=v.cell 1;exact bodyPost_ret (I2 Tryz.results16 rfl K g1) rfl ⟨rfl,J⟩
end Go.Proofs.YtdldimphcpojoaaGreatDoor
namespace Go.Proofs.YtdldimphcpojoaaGreatDoor
open Go.RowKit
set_option linter.unusedVariables false
def In (t:Af):List Value:= [.int .i64 t.kind,.int .i64 t.num,.string t.text,.int .i64 (t.at_:Int)]
def Ef (T:List Af):List Value:=T.flatMap In
theorem PH:∀ (T:List Af),(Ef T).length=T.length * 4
 | []=>rfl
 | t ::T=>by
  have:=PH T;simp only[Ef,List.flatMap_cons,List.length_append,List.length_cons] at this ⊢;simp only[In,List.length_cons,List.length_nil];omega
theorem I7 (T:List Af)(t:Af):Ef (T ++ [t])=Ef T ++In t:=by simp[Ef]
theorem Gl:∀ (T:List Af) (j:Nat) (h:j < T.length),(Ef T)[j * 4]? =some (.int .i64 T[j].kind)∧(Ef T)[j * 4+1]? =some (.int .i64 T[j].num)∧(Ef T)[j * 4+2]? =some (.string T[j].text)∧(Ef T)[j * 4+3]? =some (.int .i64 (T[j].at_:Int))
 | t ::T,0,_=>⟨rfl,rfl,rfl,rfl⟩
 | t ::T,j+1,h=>by
  have b:=Gl T j (by simpa using h);have e:Ef (t ::T)=In t ++Ef T:=rfl;have e1:∀ i,(In t ++Ef T)[(j+1) * 4+i]? =(Ef T)[j * 4+i]? :=fun i=>by
   rw[List.getElem?_append_right (by simp[In];omega)]
   congr 1
   simp[In];omega
  have a:=e1 0;rw[Nat.add_zero,Nat.add_zero] at a;rw[e,a,e1 1,e1 2,e1 3];simpa using b
def VS (T:List Af):Prop:=∀ t∈T,t.text.size≤maxLen
structure FO (w:World) (lo hi:Nat) (a:Option Addr) (n c:Nat) (T:List Af):Prop where
 own:w.ownsRow lo 41 4 (.slice a n c) n (Ef T)
 lt:∀ x,a=some x→x.block < hi
 sizes:VS T
 top:hi≤w.heap.size
theorem FO.len {w:World}{lo hi n c:Nat}{a:Option Addr}{T:List Af}(h:FO w lo hi a n c T):T.length=n:=by
 have:=h.own.1;rw[PH] at this;omega
theorem Cn {w w':World}{lo n c:Nat}{a:Option Addr}{d:List Value}(h:w.ownsRow lo 41 4 (.slice a n c) n d)(f:∀ x,a=some x→w'.heap[x.block]? =w.heap[x.block]?):w'.ownsRow lo 41 4 (.slice a n c) n d:=by
 refine ⟨h.1, ?_⟩;rcases h.2 with h2 | ⟨g,cap,i,b,h3,j,h4⟩
 ·exact .inl h2
 ·refine .inr ⟨g,cap,i,b,h3, ?_,h4⟩;simp only[Value.slice.injEq] at b;rw[← j];exact f ⟨g,0,none⟩ b.1
theorem FO.below {w w':World}{lo hi n c B:Nat}{a:Option Addr}{T:List Af}(h:FO w lo hi a n c T)(b:Below B w w')(d:hi≤B):FO w' lo hi a n c T:=
 ⟨Cn h.own (fun x hx=>b.block _ (by have:=h.lt x hx;omega)),h.lt,h.sizes,Nat.le_trans h.top b.size⟩
theorem FO.touch {w w':World}{lo hi n c b d:Nat}{a:Option Addr}{T:List Af}(h:FO w lo hi a n c T)(t:Ai b d w w')(f:hi≤b∨d≤lo):FO w' lo hi a n c T:=
 ⟨Cn h.own (fun x hx=>t.block _ (by have:=h.lt x hx;have:=h.top;omega) (by
  have h1:=h.lt x hx;have h2:lo≤x.block:=by subst hx;exact (h.own.lt _ rfl).1
  omega)),h.lt,h.sizes,Nat.le_trans h.top t.size⟩
theorem FO.form {w:World}{lo hi n c:Nat}{a:Option Addr}{T:List Af}(h:FO w lo hi a n c T)(f: 0 < n):∃ g,a=some ⟨g,0,none⟩∧lo≤g∧g < hi∧g < w.heap.size:=by
 rcases h.own.2 with ⟨_,h0⟩ | ⟨g,cap,i,b,h3,d,_⟩
 ·omega
 ·simp only[Value.slice.injEq] at b;exact ⟨g,b.1,h3,h.lt _ b.1,(Array.getElem?_eq_some_iff.1 d).1⟩
theorem FO.small {w:World}{lo hi n c:Nat}{a:Option Addr}{T:List Af}(h:FO w lo hi a n c T):n≤9223372036854775807:=by
 rcases h.own.2 with ⟨_,h0⟩ | ⟨g,cap,b,d,h3,f,h4,h5,_⟩
 ·omega
 ·unfold maxLen at h5;omega
theorem FO.cells {w:World}{lo hi n c g:Nat}{T:List Af}(h:FO w lo hi (some ⟨g,0,none⟩) n c T)(j:Nat)(a:j < T.length):
  w.cell? ⟨g,j * 4,none⟩=some (.int .i64 T[j].kind)∧w.cell? ⟨g,j * 4+1,none⟩=some (.int .i64 T[j].num)∧w.cell? ⟨g,j * 4+2,none⟩=some (.string T[j].text)∧w.cell? ⟨g,j * 4+3,none⟩=some (.int .i64 (T[j].at_:Int)):=by
 obtain ⟨b,e1,e2,e3⟩:=Gl T j a;have hl:=h.len;exact ⟨(h.own.cellAt _ (by omega)).trans b,(h.own.cellAt _ (by omega)).trans e1,(h.own.cellAt _ (by omega)).trans e2,(h.own.cellAt _ (by omega)).trans e3⟩
theorem FO.of {w:World}{lo n c:Nat}{a:Option Addr}{T:List Af}(h:w.ownsRow lo 41 4 (.slice a n c) n (Ef T))(hs:VS T):FO w lo w.heap.size a n c T:=
 ⟨h,fun x hx=>by subst hx;exact (h.lt _ rfl).2,hs,NLN⟩
end Go.Proofs.YtdldimphcpojoaaGreatDoor
