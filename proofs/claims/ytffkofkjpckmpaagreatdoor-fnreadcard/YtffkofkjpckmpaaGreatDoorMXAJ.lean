/-
  QA, Tab0, VPD, Sorted. Own work.
-/
import Derived.Test.YtffkofkjpckmpaaGreatDoorMXAF
import Derived.Lib.ItoaNum
import Derived.Test.YtffkofkjpckmpaaGreatDoorMXAA
import Derived.Test.YtffkofkjpckmpaaGreatDoorMXAD
import Derived.Test.YtffkofkjpckmpaaGreatDoorMXAM
namespace Go.Proofs.YtffkofkjpckmpaaGreatDoor
open Go.RowKit
set_option linter.unusedVariables false
inductive Ex where
 |int (i n:Int)
 |text (i:Int) (s:ByteArray)
 |bool (i:Int) (b:Bool)
 |set (i:Int) (a:Option Addr) (n c:Nat) (ss:List ByteArray)
 |name (i:Int) (s:ByteArray)
 |attr (i n:Int)
 |lett (i n:Int)
 |un (i op:Int) (k:Ex)
 |bin (i op:Int) (l r:Ex)
 |ite (i:Int) (c t e:Ex)
def Ex.val:Ex→Value
 | .int i n=> .iface 175 (.agg #[.int .i64 i,.int .i64 n])
 | .text i s=> .iface 178 (.agg #[.int .i64 i,.string s])
 | .bool i b=> .iface 180 (.agg #[.int .i64 i,.bool b])
 | .set i a n c _=> .iface 183 (.agg #[.int .i64 i,.slice a n c])
 | .name i s=> .iface 186 (.agg #[.int .i64 i,.string s])
 | .attr i n=> .iface 224 (.agg #[.int .i64 i,.int .i64 n])
 | .lett i n=> .iface 225 (.agg #[.int .i64 i,.int .i64 n])
 | .un i op k=> .iface 188 (.agg #[.int .i64 i,.int .i64 op,k.val])
 | .bin i op l r=> .iface 191 (.agg #[.int .i64 i,.int .i64 op,l.val,r.val])
 | .ite i c t e=> .iface 194 (.agg #[.int .i64 i,c.val,t.val,e.val])
def Ex.op:Ex→Int
 | .int .. =>1 | .text .. =>2 | .bool .. =>3 | .set .. =>4 | .name .. =>5 | .attr .. =>6 | .lett .. =>7
 | .un _ op _=>op | .bin _ op _ _=>op | .ite .. =>27
def Ex.cnt:Ex→Nat
 | .un _ _ k=>k.cnt+1
 | .bin _ _ l r=>l.cnt+r.cnt+1
 | .ite _ c t e=>c.cnt+t.cnt+e.cnt+1
 |_=>1
def Ca (op:Int):Int:=
 if op=27 then 0 else if op=26 then 1 else if op=25 then 2 else if op=9 then 3 else if 19≤op∧op≤24 then 4
 else if op=11∨op=12∨op=16∨op=18 then 5 else if op=13∨op=14∨op=15∨op=17 then 6 else if op=8 then 7 else 8
theorem IA (op:Int): 0≤Ca op:=by unfold Ca;repeat' split <;> try decide
theorem Qy (op:Int):Ca op≤8:=by unfold Ca;repeat' split <;> try decide
def SE:List ByteArray:= [⟨#[43]⟩,⟨#[45]⟩,⟨#[42]⟩,⟨#[47]⟩,⟨#[37]⟩,⟨#[124]⟩,⟨#[38]⟩,⟨#[92]⟩,⟨#[61,61]⟩,⟨#[33,61]⟩,⟨#[60]⟩,⟨#[60,61]⟩,⟨#[105,110]⟩,⟨#[119,105,116,104,105,110]⟩,⟨#[97,110,100]⟩,⟨#[111,114]⟩]
def DW (op:Int):ByteArray:=SE.getD (op - 11).toNat ⟨#[]⟩
theorem GF (op:Int):(DW op).size≤6:=by
 unfold DW;generalize (op - 11).toNat=k
 match k with
 | 0 | 1 | 2 | 3 | 4 | 5 | 6 | 7 | 8 | 9 | 10 | 11 | 12 | 13 | 14 | 15=>simp[SE,ByteArray.size]
 |k+16=>simp[SE,List.getD,ByteArray.size]
def GB (k:Nat):ByteArray:=⟨(Lib.decDigits k).toArray⟩
theorem SF:∀ (k n:Nat),n < 10 ^ (k+1)→(Lib.decDigits n).length≤k+1
 | 0,n,h=>by
  have h10:n < 10:=by simpa using h
  rw[Lib.decDigits,dif_pos h10];simp
 |k+1,n,h=>by
  by_cases h10:n < 10
  ·rw[Lib.decDigits,dif_pos h10];simp
  ·rw[Lib.decDigits,dif_neg h10];have:=SF k (n / 10) (by have:(10 :Nat) ^ (k+1+1)=10 ^ (k+1) * 10:=Nat.pow_succ ..;omega);simp;omega
theorem IE {n:Nat}(h:n≤9223372036854775807):(GB n).size≤19:=by
 have:=SF 18 n (by omega);simpa[GB,ByteArray.size] using this
def AQ (first:Bool):List ByteArray→ByteArray
 | []=>⟨#[]⟩
 |x ::r=>(if first then ⟨#[]⟩ else ⟨#[44,32]⟩) ++(⟨#[34]⟩ ++x ++⟨#[34]⟩) ++AQ false r
theorem Eo (a:ByteArray):a ++(⟨#[]⟩:ByteArray)=a:=ByteArray.append_empty
theorem FP (a:ByteArray):(⟨#[]⟩:ByteArray) ++a=a:=ByteArray.empty_append
theorem LB (x:ByteArray):∀ (f:Bool) (l:List ByteArray),AQ f (l ++ [x])=AQ f l ++AQ (f && l.isEmpty) [x]
 |f, []=>by simp[AQ,FP]
 |f,y ::r=>by
  rw[List.cons_append,AQ,AQ,LB x false r,zT];simp[ByteArray.append_assoc]
theorem FR:∀ (f:Bool) (l:List ByteArray),(∀ x∈l,x.size≤32)→(AQ f l).size≤36 * l.length
 |f, [],_=>by simp[AQ,ByteArray.size]
 |f,x ::r,h=>by
  have h1:=FR false r (fun y hy=>h y (zS _ hy));have h2:=h x (zQ ..);rw[AQ];simp only[zD,List.length_cons];have:(if f=true then (⟨#[]⟩:ByteArray) else ⟨#[44,32]⟩).size≤2:=by cases f <;> simp[ByteArray.size]
  have e:(⟨#[34]⟩:ByteArray).size=1:=rfl;omega
def Oi (ss:List ByteArray):ByteArray:=⟨#[123]⟩ ++AQ true ss ++⟨#[125]⟩
def par (b:Bool) (s:ByteArray):ByteArray:=if b then ⟨#[40]⟩ ++s ++⟨#[41]⟩ else s
theorem Ic (b:Bool)(s:ByteArray):(par b s).size≤s.size+2:=by
 have e1:(⟨#[40]⟩:ByteArray).size=1:=rfl;have e2:(⟨#[41]⟩:ByteArray).size=1:=rfl;cases b
 ·simp[par]
 ·simp only[par,if_true,zD];omega
def DV (op:Int):Int:=if Ca op=4 then 5 else Ca op
def Ex.pr:Ex→ByteArray
 | .int _ n=>GB n.toNat
 | .text _ s=>⟨#[34]⟩ ++s ++⟨#[34]⟩
 | .bool _ b=>if b then ⟨#[116,114,117,101]⟩ else ⟨#[102,97,108,115,101]⟩
 | .set _ _ _ _ ss=>Oi ss
 | .name _ s=>s
 | .attr .. =>⟨#[]⟩
 | .lett .. =>⟨#[]⟩
 | .un _ op k=>if op=8 then ⟨#[45]⟩ ++par (decide (Ca k.op < 7)) k.pr else if op=9 then ⟨#[110,111,116,32]⟩ ++par (decide (Ca k.op < 3)) k.pr
  else ⟨#[115,105,122,101,40]⟩ ++k.pr ++⟨#[41]⟩
 | .bin _ op l r=>par (decide (Ca l.op < DV op)) l.pr ++(⟨#[32]⟩ ++DW op ++⟨#[32]⟩) ++par (decide (Ca r.op < Ca op+1)) r.pr
 | .ite _ c t e=>⟨#[105,102,32]⟩ ++c.pr ++⟨#[32,116,104,101,110,32]⟩ ++t.pr ++⟨#[32,101,108,115,101,32]⟩ ++e.pr
def Ex.put (e:Ex) (want:Int):ByteArray:=par (decide (Ca e.op < want)) e.pr
theorem BO (e:Ex):e.put 0=e.pr:=by
 have:=IA e.op;rw[Ex.put,par,zK (by omega)];rfl
theorem Zh {e:Ex}{a:Int}(h:a≤Ca e.op):e.put a=e.pr:=by
 rw[Ex.put,par,zK (by omega)];rfl
theorem VW {e:Ex}{a:Int}(h:Ca e.op < a):e.put a=⟨#[40]⟩ ++e.pr ++⟨#[41]⟩:=by
 rw[Ex.put,par,zR h];rfl
def Ex.fit (w:World):Ex→Prop
 | .int _ n=>0≤n∧n≤9223372036854775807
 | .text _ s=>s.size≤32
 | .bool .. =>True
 | .set _ a n c ss=>BL w a n c ss∧n≤64∧∀ x∈ss,x.size≤32
 | .name _ s=>s.size≤32
 | .attr .. =>False
 | .lett .. =>False
 | .un _ op k=>(8≤op∧op≤10)∧k.fit w
 | .bin _ op l r=>(11≤op∧op≤26)∧l.fit w∧r.fit w
 | .ite _ c t e=>c.fit w∧t.fit w∧e.fit w
theorem Ex.fit_below {w w':World}{B:Nat}(a:Below B w w')(b:w.heap.size≤B):∀ (e:Ex),e.fit w→e.fit w'
 | .int ..,h=>h
 | .text ..,h=>h
 | .bool ..,h=>h
 | .set ..,h=>⟨h.1.below a b,h.2⟩
 | .name ..,h=>h
 | .attr ..,h=>h
 | .lett ..,h=>h
 | .un _ _ k,h=>⟨h.1,k.fit_below a b h.2⟩
 | .bin _ _ l r,h=>⟨h.1,l.fit_below a b h.2.1,r.fit_below a b h.2.2⟩
 | .ite _ c t e,h=>⟨c.fit_below a b h.1,t.fit_below a b h.2.1,e.fit_below a b h.2.2⟩
theorem Ex.pr_size {w:World} :∀ (e:Ex),e.fit w→e.pr.size≤4000 * e.cnt
 | .int _ n,h=>by
  have:=IE (n:=n.toNat) (by have:=h.2;omega);simp only[Ex.pr,Ex.cnt];omega
 | .text _ s,h=>by
  have h1:s.size≤32:=h;have e:(⟨#[34]⟩:ByteArray).size=1:=rfl;simp only[Ex.pr,Ex.cnt,zD];omega
 | .bool _ b,_=>by
  have e1:(⟨#[116,114,117,101]⟩:ByteArray).size=4:=rfl;have e2:(⟨#[102,97,108,115,101]⟩:ByteArray).size=5:=rfl;cases b <;> simp only[Ex.pr,Ex.cnt,if_true,Bool.false_eq_true,if_false] <;> omega
 | .set _ _ n _ ss,h=>by
  have h1:=FR true ss h.2.2;have h2:=h.1.len;have h3:=h.2.1;have e1:(⟨#[123]⟩:ByteArray).size=1:=rfl;have e2:(⟨#[125]⟩:ByteArray).size=1:=rfl;simp only[Ex.pr,Ex.cnt,Oi,zD];omega
 | .name _ s,h=>by
  have h1:s.size≤32:=h;simp only[Ex.pr,Ex.cnt];omega
 | .attr ..,h=>absurd h id
 | .lett ..,h=>absurd h id
 | .un _ op k,h=>by
  have h1:=k.pr_size h.2;have a:=Ic (decide (Ca k.op < 7)) k.pr;have d:=Ic (decide (Ca k.op < 3)) k.pr;have e1:(⟨#[45]⟩:ByteArray).size=1:=rfl;have e2:(⟨#[110,111,116,32]⟩:ByteArray).size=4:=rfl;have e3:(⟨#[115,105,122,101,40]⟩:ByteArray).size=5:=rfl;have e4:(⟨#[41]⟩:ByteArray).size=1:=rfl;simp only[Ex.pr,Ex.cnt];split
  ·simp only[zD];omega
  ·split <;> simp only[zD] <;> omega
 | .bin _ op l r,h=>by
  have h1:=l.pr_size h.2.1;have h2:=r.pr_size h.2.2;have a:=Ic (decide (Ca l.op < DV op)) l.pr;have d:=Ic (decide (Ca r.op < Ca op+1)) r.pr;have e1:(⟨#[32]⟩:ByteArray).size=1:=rfl;have e2:=GF op;simp only[Ex.pr,Ex.cnt,zD];omega
 | .ite _ c t e,h=>by
  have h1:=c.pr_size h.1;have h2:=t.pr_size h.2.1;have h3:=e.pr_size h.2.2;have e1:(⟨#[105,102,32]⟩:ByteArray).size=3:=rfl;have e2:(⟨#[32,116,104,101,110,32]⟩:ByteArray).size=6:=rfl;have e3:(⟨#[32,101,108,115,101,32]⟩:ByteArray).size=6:=rfl;simp only[Ex.pr,Ex.cnt,zD];omega
theorem Ex.put_size {w:World}(e:Ex)(h:e.fit w)(a:Int):(e.put a).size≤4000 * e.cnt+2:=by
 have h1:=e.pr_size h;have h2:=Ic (decide (Ca e.op < a)) e.pr;rw[Ex.put];omega
inductive DK (N:List Nd):Nat→Ex→Prop
 |int {i:Nat} {x:Nd} (h:N[i]? =some x) (ho:x.op=1) (hk:x.kids= []):DK N i (.int i x.num)
 |text {i:Nat} {x:Nd} (h:N[i]? =some x) (ho:x.op=2) (hk:x.kids= []):DK N i (.text i x.text)
 |bool {i:Nat} {x:Nd} (h:N[i]? =some x) (ho:x.op=3) (hk:x.kids= []):DK N i (.bool i (decide (x.num=1)))
 |set {i:Nat} {x:Nd} (h:N[i]? =some x) (ho:x.op=4) (hk:x.kids= []) (a:Option Addr) (n c:Nat):DK N i (.set i a n c x.names)
 |name {i:Nat} {x:Nd} (h:N[i]? =some x) (ho:x.op=5) (hk:x.kids= []):DK N i (.name i x.text)
 |attr {i:Nat} {x:Nd} (h:N[i]? =some x) (ho:x.op=6) (hk:x.kids= []):DK N i (.attr i x.num)
 |lett {i:Nat} {x:Nd} (h:N[i]? =some x) (ho:x.op=7) (hk:x.kids= []):DK N i (.lett i x.num)
 |un {i k:Nat} {x:Nd} {e:Ex} (h:N[i]? =some x) (ho: 8≤x.op∧x.op≤10) (hk:x.kids= [(k:Int)]) (hi:k < i) (t:DK N k e):DK N i (.un i x.op e)
 |bin {i k l:Nat} {x:Nd} {e f:Ex} (h:N[i]? =some x) (ho: 11≤x.op∧x.op≤26) (hk:x.kids= [(k:Int),(l:Int)]) (hi:k < i∧l < i) (t:DK N k e) (u:DK N l f):DK N i (.bin i x.op e f)
 |ite {i k l m:Nat} {x:Nd} {e f g:Ex} (h:N[i]? =some x) (ho:x.op=27) (hk:x.kids= [(k:Int),(l:Int),(m:Int)]) (hi:k < i∧l < i∧m < i) (t:DK N k e) (u:DK N l f) (v:DK N m g):DK N i (.ite i e f g)
def JV (Es:List Ex):Nat:=(Es.map Ex.cnt).sum
theorem M2 {N:List Nd}{a b:Nat}{z:List (Nat × Nat)}(h:AJ (N.map Nd.kids) a z b):∀ (Es:List Ex),Es.length=z.length→(∀ j,(h1:j < z.length)→(h2:j < Es.length)→DK N z[j].1 Es[j])→a+JV Es=b:=by
 induction h with
 |nil a=>
  intro Es hl _;have:Es= []:=z7 hl;subst this;simp[JV]
 |@cons a t b ks z hk ht hf C E=>
  intro Es hl B
  match Es,hl with
  |e ::Es,hl=>
   have he:DK N t e:=B 0 (by simp) (by simp);have L:=E Es (by simpa using hl) (fun j h1 h2=>B (j+1) (by simpa using h1) (by simpa using h2));have F:∃ x,N[t]? =some x∧x.kids=Av ks:=by
    rw[zd] at ht;cases hx:N[t]? with
    |none=>rw[hx] at ht;cases ht
    |some x=>rw[hx] at ht;exact ⟨x,rfl,Option.some.inj ht⟩
   obtain ⟨x,hx,H⟩:=F;have M:a+e.cnt=t+1:=by
    have A:∀ (r:List Ex) (s:List Nat),x.kids=s.map (fun (q:Nat)=>(q:Int))→r.length=s.length→(∀ j,(h1:j < s.length)→(h2:j < r.length)→DK N s[j] r[j])→a+JV r=t:=by
     intro r s hq I J;have e1:ks.map (fun p=>p.1)=s:=by
      have:=H.symm.trans hq;rw[Av] at this;have h2:=congrArg (List.map Int.toNat) this;simpa[List.map_map,Function.comp_def] using h2
     have e2:ks.length=r.length:=by rw[I,← e1,zv]
     exact (C r e2.symm (fun j h1 h2=>by
      have:=J j (by rw[← e1,zv];exact h1) h2;have e3:s[j]'(by rw[← e1,zv];exact h1)=ks[j].1:=by simp[← e1]
      rw[← e3];exact this))
    have d:∀ {y:Nd},N[t]? =some y→y=x:=fun h=>Option.some.inj (h.symm.trans hx);have w:x.kids= []→a=t:=fun h0=>by
     have:=A [] [] (by rw[h0];rfl) rfl (fun j h=>absurd h (by simp));simpa[JV] using this
    cases he with
    |int h o hk=>rw[w (d h ▸ hk)];rfl
    |text h o hk=>rw[w (d h ▸ hk)];rfl
    |bool h o hk=>rw[w (d h ▸ hk)];rfl
    |set h o hk a n c=>rw[w (d h ▸ hk)];rfl
    |name h o hk=>rw[w (d h ▸ hk)];rfl
    |attr h o hk=>rw[w (d h ▸ hk)];rfl
    |lett h o hk=>rw[w (d h ▸ hk)];rfl
    |@un i k y e h o hk hi u=>
     have:=A [e] [k] (by rw[← d h,hk];rfl) rfl (fun j h1 h2=>by
      have:j=0:=by simpa using h1
      subst this;exact u)
     simp[JV] at this;simp only[Ex.cnt];omega
    |@bin i k l y e f h o hk hi u v=>
     have:=A [e,f] [k,l] (by rw[← d h,hk];rfl) rfl (fun j h1 h2=>by
      match j,h1 with
      | 0,_=>exact u
      | 1,_=>exact v)
     simp[JV] at this;simp only[Ex.cnt];omega
    |@ite i k l m y e f g h o hk hi u v K=>
     have:=A [e,f,g] [k,l,m] (by rw[← d h,hk];rfl) rfl (fun j h1 h2=>by
      match j,h1 with
      | 0,_=>exact u
      | 1,_=>exact v
      | 2,_=>exact K)
     simp[JV] at this;simp only[Ex.cnt];omega
   have e5:JV (e ::Es)=e.cnt+JV Es:=by simp[JV]
   rw[e5];omega
theorem DU {P:Program}{c:Array Oper}{f:List Oper}{b:Oper}{a:Act}{w:World}{k:Exit→Act→World→Prop}(l:b.guard=none)(ty:TypeId)(x:Operand)(m:b.op= .load ty x)
  (g:Nat)(hx:a.eval x= .pointer (some ⟨g,0,none⟩))(cs:Array Value)(d:TypeDesc)(hc:∀ j,w.cell? ⟨g,j,none⟩=cs[j]?)
  (hu:P.underlying ty=some d)(s:(match d with | .struct _ | .array _ _=>true | _=>false)=true)(hi:(P.info? ty).map (·.size)=some cs.size)
  (h:wpList P c k f (a.put b.dst (.agg cs)) w):wpList P c k (b ::f) a w:=
 wpList_plain l fun _ n=>by
  have hl:(loadCells ⟨g,0,none⟩ cs.toList.length).run P w= .ok cs.toList.toArray w:=
   run_loadCells_list (P:=P) w ⟨g,0,none⟩ cs.toList (fun j v o=>by
    have p:(⟨g,0,none⟩:Addr).add j=⟨g,j,none⟩:=by unfold Addr.add;split <;> simp_all
    rw[p,hc j];simpa using o)
  have q:(loadVar ty ⟨g,0,none⟩).run P w= .ok (.agg cs) w:=by
   cases hq:P.info? ty with
   |none=>simp[hq] at hi
   |some i=>
    have hs:i.size=cs.size:=by simpa[hq] using hi
    have r:(isAgg ty).run P w= .ok true w:=by
     unfold isAgg;rw[Sem.run_bind,run_underlying hu w];cases d <;> simp_all
    simp only[Array.length_toList,Array.toArray_toList] at hl;simp[loadVar,Sem.run_bind,r,sizeOf,typeInfo,hq,hs,hl]
  unfold Oper.wp execOp;simp only[m,hx,Instr.loadAt,Instr.sureAddr,Sem.run_bind,Sem.run_pure,Result.andThen_ok,q];exact n _ _ h
theorem Bt {P:Program}{f:Array Oper}{g:List Oper}{c:Oper}{a:Act}{w:World}{j:Exit→Act→World→Prop}(l:c.guard=none)(ty:TypeId)(x y:Operand)(m:c.op= .index ty x y)
  (cs:Array Value)(hx:a.eval x= .agg cs)(k:Nat)(hy:a.eval y= .int .i64 k)(n:Nat)(e:TypeId)(hu:P.underlying ty=some (.array n e))(hk:k < n)(d:TypeDesc)(o:P.underlying e=some d)
  (u:(match d with | .struct _ | .array _ _=>true | _=>false)=true)(b:Nat)(hi:(P.info? e).map (·.size)=some b)(r:Array Value)(p:cs.extract (k * b) (k * b+b)=r)
  (h:wpList P f j g (a.put c.dst (.agg r)) w):wpList P f j (c ::g) a w:=
 wpList_plain l fun _ q=>by
  have hq:(Instr.index ty (.agg cs) (.int .i64 k)).run P w= .ok (.agg r) w:=by
   cases hq:P.info? e with
   |none=>simp[hq] at hi
   |some i=>
    have hs:i.size=b:=by simpa[hq] using hi
    have s:(isAgg e).run P w= .ok true w:=by
     unfold isAgg;rw[Sem.run_bind,run_underlying o w];cases d <;> simp_all
    have t:(0 :Int)≤(k:Int)∧(k:Int) < (n:Int):=⟨by omega,by omega⟩
    simp[Instr.index,run_underlying hu,asIntOf,t,hk,part,Sem.run_bind,s,sizeOf,typeInfo,hq,hs,p]
  unfold Oper.wp execOp;simp only[m,hx,hy,Sem.run_bind,hq,Sem.run_pure,Result.andThen_ok];exact q _ _ h
set_option maxRecDepth 100000
set_option maxHeartbeats 6400000
def EL:Array Value:=#[.int .i64 26,.int .i64 1,.string ⟨#[111,114]⟩,.int .i64 25,.int .i64 2,.string ⟨#[97,110,100]⟩,.int .i64 19,.int .i64 4,.string ⟨#[61,61]⟩,.int .i64 20,.int .i64 4,.string ⟨#[33,61]⟩,.int .i64 21,.int .i64 4,.string ⟨#[60]⟩,.int .i64 22,.int .i64 4,.string ⟨#[60,61]⟩,.int .i64 23,.int .i64 4,.string ⟨#[105,110]⟩,.int .i64 24,.int .i64 4,.string ⟨#[119,105,116,104,105,110]⟩,.int .i64 11,.int .i64 5,.string ⟨#[43]⟩,.int .i64 12,.int .i64 5,.string ⟨#[45]⟩,.int .i64 16,.int .i64 5,.string ⟨#[124]⟩,.int .i64 18,.int .i64 5,.string ⟨#[92]⟩,.int .i64 13,.int .i64 6,.string ⟨#[42]⟩,.int .i64 14,.int .i64 6,.string ⟨#[47]⟩,.int .i64 15,.int .i64 6,.string ⟨#[37]⟩,.int .i64 17,.int .i64 6,.string ⟨#[38]⟩]
structure Opr where
 op:Int
 lv:Int
 text:ByteArray
def Ev:Nat→Opr
 | 0=>⟨26,1,⟨#[111,114]⟩⟩
 | 1=>⟨25,2,⟨#[97,110,100]⟩⟩
 | 2=>⟨19,4,⟨#[61,61]⟩⟩
 | 3=>⟨20,4,⟨#[33,61]⟩⟩
 | 4=>⟨21,4,⟨#[60]⟩⟩
 | 5=>⟨22,4,⟨#[60,61]⟩⟩
 | 6=>⟨23,4,⟨#[105,110]⟩⟩
 | 7=>⟨24,4,⟨#[119,105,116,104,105,110]⟩⟩
 | 8=>⟨11,5,⟨#[43]⟩⟩
 | 9=>⟨12,5,⟨#[45]⟩⟩
 | 10=>⟨16,5,⟨#[124]⟩⟩
 | 11=>⟨18,5,⟨#[92]⟩⟩
 | 12=>⟨13,6,⟨#[42]⟩⟩
 | 13=>⟨14,6,⟨#[47]⟩⟩
 | 14=>⟨15,6,⟨#[37]⟩⟩
 | 15=>⟨17,6,⟨#[38]⟩⟩
 |_=>⟨0,0,⟨#[]⟩⟩
theorem Jy:∀ k,k < 16→EL.extract (k * 3) (k * 3+3)= #[.int .i64 (Ev k).op,.int .i64 (Ev k).lv,.string (Ev k).text]
 | 0,_=>rfl
 | 1,_=>rfl
 | 2,_=>rfl
 | 3,_=>rfl
 | 4,_=>rfl
 | 5,_=>rfl
 | 6,_=>rfl
 | 7,_=>rfl
 | 8,_=>rfl
 | 9,_=>rfl
 | 10,_=>rfl
 | 11,_=>rfl
 | 12,_=>rfl
 | 13,_=>rfl
 | 14,_=>rfl
 | 15,_=>rfl
 |n+16,h=>absurd h (by omega)
theorem SH (op:Int)(h: 11≤op∧op≤26):∃ k,k < 16∧(Ev k).op=op:=by
 have:op=11∨op=12∨op=13∨op=14∨op=15∨op=16∨op=17∨op=18∨op=19∨op=20∨op=21∨op=22∨op=23∨op=24∨op=25∨op=26:=by omega
 rcases this with e | e | e | e | e | e | e | e | e | e | e | e | e | e | e | e <;> subst e
 ·exact ⟨8,by decide,rfl⟩
 ·exact ⟨9,by decide,rfl⟩
 ·exact ⟨12,by decide,rfl⟩
 ·exact ⟨13,by decide,rfl⟩
 ·exact ⟨14,by decide,rfl⟩
 ·exact ⟨10,by decide,rfl⟩
 ·exact ⟨15,by decide,rfl⟩
 ·exact ⟨11,by decide,rfl⟩
 ·exact ⟨2,by decide,rfl⟩
 ·exact ⟨3,by decide,rfl⟩
 ·exact ⟨4,by decide,rfl⟩
 ·exact ⟨5,by decide,rfl⟩
 ·exact ⟨6,by decide,rfl⟩
 ·exact ⟨7,by decide,rfl⟩
 ·exact ⟨1,by decide,rfl⟩
 ·exact ⟨0,by decide,rfl⟩
theorem Acv:∀ k,k < 16→11≤(Ev k).op∧(Ev k).op≤26
 | 0,_ | 1,_ | 2,_ | 3,_ | 4,_ | 5,_ | 6,_ | 7,_ | 8,_ | 9,_ | 10,_ | 11,_ | 12,_ | 13,_ | 14,_ | 15,_=>by decide
 |n+16,h=>absurd h (by omega)
def PG (op:Int):Bool:=decide (11≤op∧op≤26)
def Acw (op:Int) (e:Ending):Prop:=∃ (x y:Int) (s:ByteArray),e= .returned (.tuple #[.agg #[.int .i64 x,.int .i64 y,.string s],.bool (PG op)])
theorem GX {w:World}{b:Nat}{a c d:Value}{t:TypeId}(R:Am w b #[a,c,d] t):w.cell? ⟨b,0,none⟩=some a∧w.cell? ⟨b,1,none⟩=some c∧w.cell? ⟨b,2,none⟩=some d∧∀ j,w.frozen? ⟨b,j,none⟩=false:=
 ⟨R.cell 0,R.cell 1,R.cell 2,fun j=>R.frozen j⟩
theorem JD {d:Func}{a b:Tmp}(h:d.results= #[.cell a 227,.tmp b]){c:Array Value}{w:World}{g:Nat}{f i j u:Value}(k:c.getD a undef= .pointer (some ⟨g,0,none⟩))(l:c.getD b undef=u)
  (m:w.cell? ⟨g,0,none⟩=some f)(g1:w.cell? ⟨g,1,none⟩=some i)(g2:w.cell? ⟨g,2,none⟩=some j):
  (results d c).run Tryz.prog w= .ok (.tuple #[.agg #[f,i,j],u]) w:=by
 rw[yA] at k l;simp[results,h,k,l,go_sem,m,g1,g2]
theorem Fu (op:Int)(w:World)(A: 10 < w.heap.size)(hc:∀ k,w.cell? ⟨10,k,none⟩=EL[k]?):
  Calls Tryz.prog 135 #[.int .i64 op] w fun e w'=>Acw op e∧Below w.heap.size w w':=by
 have t:=Ab (show ∀ k,(w.alloc (.cells #[.int .i64 0,.int .i64 0,.string ⟨#[]⟩] 227)).cell? ⟨10,k,none⟩=EL[k]? from fun k=>(World.cell?_alloc_lt _ _ ⟨10,k,none⟩ A).trans (hc k));clear hc;have u:=(Below.refl w.heap.size w).alloc NLN (.cells #[.int .i64 0,.int .i64 0,.string ⟨#[]⟩] 227);have v:=Am.new w #[.int .i64 0,.int .i64 0,.string ⟨#[]⟩] 227;go_enter Tryz.func135,Tryz.ntmps135
 go_wp2_with (refine DU rfl 244 _ rfl 10 rfl EL _ (Aa t) Tryz.underlying244 rfl (by kernel_rfl) ?_)
 clear t;go_loopw [7] (fun i wr=>∃ k:Nat,k≤16∧i= .int .i64 k∧Below w.heap.size w wr∧Am wr w.heap.size #[.int .i64 0,.int .i64 0,.string ⟨#[]⟩] 227∧∀ j,j < k→(Ev j).op≠op) (fun i _=>16 - (intOf i).toNat)
 case atStart=>exact ⟨0,by omega,rfl,u,v,fun j h=>absurd h (by omega)⟩
 case round=>
  obtain ⟨k,hk,rfl,f,b,x⟩:=hrel;have g:=Ab x;clear x u v;by_cases l:k < 16
  ·have O:(k:Int) < 16:=by omega
   have q:=Ab (Jy k l);have y:=Ab (Acv k l);have m:=Ab l;have P:=b.lt;have n:=Ab (show (Ev k).op≠op→∀ j,j < k+1→(Ev j).op≠op from fun e j z=>by
    by_cases B:j=k
    ·subst B;exact e
    ·exact Aa g j (by omega))
   have c:=Ab (show (Ev k).op=op→PG op=true from fun e=>by rw[← e];exact zR (Aa y));clear g y l;generalize Ev k=a at q n c;have C:=f.alloc f.size (.cells #[.int .i64 a.op,.int .i64 a.lv,.string a.text] 227);have E:=b.alloc (.cells #[.int .i64 a.op,.int .i64 a.lv,.string a.text] 227);have Q:=Am.new wr #[.int .i64 a.op,.int .i64 a.lv,.string a.text] 227;by_cases d:a.op=op
   ·have F:(a.op== op)=true:=zI.2 d;have H:=Ab (Aa c d);clear d c n;obtain ⟨I,J,q2,K⟩:=GX b;go_wp2_with (refine Bt rfl 244 _ _ rfl EL rfl k rfl 16 227 Tryz.underlying244 (Aa m) _ Tryz.underlying227 rfl 3 (by kernel_rfl) _ (Aa q) ?_)
    have r:Am _ w.heap.size #[.int .i64 a.op,.int .i64 a.lv,.string a.text] 227:=(((b.set 0 (.int .i64 a.op)).set 1 (.int .i64 a.lv)).set 2 (.string a.text)).alloc (.cells #[.int .i64 a.op,.int .i64 a.lv,.string a.text] 227);have o:=(((f.setCell (p:=⟨w.heap.size,0,none⟩) NLN (.int .i64 a.op)).setCell (p:=⟨w.heap.size,1,none⟩) NLN (.int .i64 a.lv)).setCell (p:=⟨w.heap.size,2,none⟩) NLN (.string a.text))
    have L:=o.alloc o.size (.cells #[.int .i64 a.op,.int .i64 a.lv,.string a.text] 227);obtain ⟨s,g1,g2,M⟩:=GX r;exact bodyPost_ret (JD Tryz.results135 rfl rfl s g1 g2) rfl ⟨⟨_,_,_,by rw[Aa H];rfl⟩,L⟩
   ·have F:(a.op== op)=false:=zA.2 d;have N:=Ab (Aa n d);clear d c n;go_wp2_with (refine Bt rfl 244 _ _ rfl EL rfl k rfl 16 227 Tryz.underlying244 (Aa m) _ Tryz.underlying227 rfl 3 (by kernel_rfl) _ (Aa q) ?_)
    go_roundw
    case rel=>exact ⟨k+1,Aa m,by go_num,C,E,Aa N⟩
    case measure=>have:=Aa m;simp[intOf];omega
  ·have e:k=16:=by omega
   subst e;have c:=Ab (show PG op=false from zK fun h=>by
    obtain ⟨j,z,e⟩:=SH op h;exact Aa g j z e)
   clear g;obtain ⟨I,J,q2,K⟩:=GX b;go_wp2_with fail
   have r:Am _ w.heap.size #[.int .i64 0,.int .i64 0,.string ⟨#[]⟩] 227:=((b.set 0 (.int .i64 0)).set 1 (.int .i64 0)).set 2 (.string ⟨#[]⟩);have o:=(((f.setCell (p:=⟨w.heap.size,0,none⟩) NLN (.int .i64 0)).setCell (p:=⟨w.heap.size,1,none⟩) NLN (.int .i64 0)).setCell (p:=⟨w.heap.size,2,none⟩) NLN (.string ⟨#[]⟩))
   obtain ⟨s,g1,g2,M⟩:=GX r;exact bodyPost_ret (JD Tryz.results135 rfl rfl s g1 g2) rfl ⟨⟨_,_,_,by rw[Aa c];rfl⟩,o⟩
theorem GJ (op:Int)(w:World)(d: 10 < w.heap.size)(hc:∀ k,w.cell? ⟨10,k,none⟩=EL[k]?):
  Calls Tryz.prog 102 #[.int .i64 op] w fun e w'=>e= .returned (.int .i64 (Eg op))∧Below w.heap.size w w':=by
 have f:=Ab hc;clear hc;by_cases h0: 1≤op∧op≤7
 ·have:op=1∨op=2∨op=3∨op=4∨op=5∨op=6∨op=7:=by omega
  rcases this with e | e | e | e | e | e | e <;> subst e <;> (go_enter Tryz.func102,Tryz.ntmps102;go_wp2;go_ret;exact ⟨rfl,BRN⟩)
 by_cases h1: 8≤op∧op≤10
 ·have:op=8∨op=9∨op=10:=by omega
  rcases this with e | e | e <;> subst e <;> (go_enter Tryz.func102,Tryz.ntmps102;go_wp2;go_ret;exact ⟨rfl,BRN⟩)
 by_cases h3:op=27
 ·subst h3;go_enter Tryz.func102,Tryz.ntmps102
  go_wp2
  go_ret
  exact ⟨rfl,BRN⟩
 have g:=Ab (show Eg op=if PG op=true then 2 else -1 by
  rw[Eg,if_neg h0,if_neg h1,PG];by_cases h2: 11≤op∧op≤26
  ·rw[if_pos h2,if_pos (zR h2)]
  ·rw[if_neg h2,if_neg h3,if_neg (by rw[zK h2];decide)])
 have e1:(op== 1)=false:=zA.2 (by omega);have e2:(op== 2)=false:=zA.2 (by omega);have e3:(op== 3)=false:=zA.2 (by omega);have e4:(op== 4)=false:=zA.2 (by omega);have e5:(op== 5)=false:=zA.2 (by omega);have m:(op== 6)=false:=zA.2 (by omega);have n:(op== 7)=false:=zA.2 (by omega);have o:(op== 8)=false:=zA.2 (by omega);have p:(op== 9)=false:=zA.2 (by omega);have q:(op== 10)=false:=zA.2 (by omega);have r:(op== 27)=false:=zA.2 (by omega);clear h0 h1 h3;go_enter Tryz.func102,Tryz.ntmps102
 cases c:PG op
 ·have a:=Ab c;clear c;go_wp2_with (go_at_call 135;refine (Fu _ _ d (Aa f)).mono ?_;rintro e h ⟨⟨i,j,l,rfl⟩,b⟩;rw[Aa a])
  go_ret
  exact ⟨by rw[Aa g,Aa a];rfl,b.alloc b.size _⟩
 ·have a:=Ab c;clear c;go_wp2_with (go_at_call 135;refine (Fu _ _ d (Aa f)).mono ?_;rintro e h ⟨⟨i,j,l,rfl⟩,b⟩;rw[Aa a])
  go_ret
  exact ⟨by rw[Aa g,Aa a];rfl,b.alloc b.size _⟩
set_option maxHeartbeats 1600000
def XA (first:Bool) (s x:ByteArray):Bool:=first || sl s x
structure Do (names:List ByteArray) (first:Bool) (s best:ByteArray) (found:Bool):Prop where
 yes:found=true→best∈names∧XA first s best=true∧∀ x∈names,XA first s x=true→sl x best=false
 no:found=false→∀ x∈names,XA first s x=false
theorem Do.start (first:Bool)(s a:ByteArray):Do [] first s a false:=⟨(fun h=>by cases h),(fun _ x hx=>by cases hx)⟩
theorem Do.skip {names:List ByteArray}{first:Bool}{s b x:ByteArray}{c:Bool}(h:Do names first s b c)(hx:XA first s x=false):Do (names ++ [x]) first s b c:=by
 refine ⟨fun hf=>?_,fun hf y hy=>?_⟩
 ·obtain ⟨h1,h2,h3⟩:=h.yes hf;refine ⟨za _ h1,h2,fun y hy a=>?_⟩;rcases zH.1 hy with hy | hy
  ·exact h3 y hy a
  ·simp only[zJ] at hy;subst hy;rw[hx] at a;cases a
 ·rcases zH.1 hy with hy | hy
  ·exact h.no hf y hy
  ·simp only[zJ] at hy;subst hy;exact hx
theorem Do.keep {names:List ByteArray}{first:Bool}{s a x:ByteArray}(h:Do names first s a true)(hx:sl x a=false):Do (names ++ [x]) first s a true:=by
 obtain ⟨h1,h2,h3⟩:=h.yes rfl;refine ⟨fun _=>⟨za _ h1,h2,fun y hy b=>?_⟩,fun hf=>by cases hf⟩;rcases zH.1 hy with hy | hy
 ·exact h3 y hy b
 ·simp only[zJ] at hy;subst hy;exact hx
theorem Do.take {names:List ByteArray}{first:Bool}{s c x:ByteArray}{a:Bool}(h:Do names first s c a)(hx:XA first s x=true)(hl:a=true→sl x c=true):Do (names ++ [x]) first s x true:=by
 refine ⟨fun _=>⟨by simp,hx,fun y hy b=>?_⟩,fun hf=>by cases hf⟩;rcases zH.1 hy with hy | hy
 ·cases a with
  |false=>rw[h.no rfl y hy] at b;cases b
  |true=>
   have h3:=(h.yes rfl).2.2 y hy b;rw[Z2] at h3 ⊢;intro hk;exact h3 (GP hk (hl rfl))
 ·simp only[zJ] at hy;subst hy;exact DG _
theorem Abi (first:Bool)(s x:ByteArray)(hf:first=false)(h:(Op.bytesLess x.toList s.toList || x.toList== s.toList)=true):XA first s x=false:=by
 subst hf;simp only[XA,Bool.false_or];rw[Bool.or_eq_true] at h;rcases h with h | h
 ·exact Mh h
 ·have:x=s:=(FG x s).1 h;subst this;exact DG _
theorem Acq (first:Bool)(s x:ByteArray)(h:(Op.bytesLess x.toList s.toList || x.toList== s.toList)=false):XA first s x=true:=by
 rw[Bool.or_eq_false_iff] at h;have h1:sl x s=false:=h.1;have h2:eqS x s=false:=h.2;have:sl s x=true:=by
  cases hk:sl s x with
  |true=>rfl
  |false=>
   have:=TN _ _ h1 hk;rw[(FG _ _).2 this] at h2;cases h2
 simp[XA,this]
def Abj (ss:List ByteArray) (first:Bool) (s:ByteArray) (e:Ending):Prop:=∃ best found,e= .returned (.tuple #[.string best,.bool found])∧Do ss first s best found
theorem Ns (a:Option Addr)(n c:Nat)(d:List ByteArray)(s:ByteArray)(first:Bool)(w:World)(h:BL w a n c d):
  Calls Tryz.prog 37 #[.slice a n c,.string s,.bool first] w fun e w'=>Abj d first s e∧w'=w:=by
 have v:n≤9223372036854775807:=by have:=h.cap;have:=h.small;unfold maxLen at this;omega
 have q:=Ab h.len;go_enter Tryz.func37,Tryz.ntmps37
 go_wp2
 go_loop [8,9,11,14] (fun b f _ i=>∃ (k:Nat) (m:ByteArray) (g:Bool),k≤n∧i= .int .i64 k∧b= .string m∧f= .bool g∧Do (d.take k) first s m g) (fun _ _ _ i=>n - (intOf i).toNat)
 case atStart=>exact ⟨0,_,false,zN _,rfl,rfl,rfl,Do.start _ _ _⟩
 case round=>
  obtain ⟨k,m,g,hk,rfl,rfl,rfl,hi⟩:=hrel;by_cases t:k < n
  ·obtain ⟨b,x,u,_,hc⟩:=h.cells k t;subst u;have j:=Ab (Oj d k (by have:=Aa q;omega));cases r:(Op.bytesLess (D0 d k).toList s.toList || (D0 d k).toList== s.toList)
   ·have o:=Acq first s (D0 d k) r
    have l:=Ab o;clear o;cases g
    ·cases first
     all_goals
      go_wp2
      go_round
      case rel=>exact ⟨k+1,_,true,by omega,by go_num,rfl,rfl,by rw[Aa j];exact hi.take (Aa l) (fun h=>by cases h)⟩
      case measure=>simp[intOf];omega
    ·cases p:Op.bytesLess (D0 d k).toList m.toList
     ·cases first
      all_goals
       go_wp2
       go_round
       case rel=>exact ⟨k+1,_,true,by omega,by go_num,rfl,rfl,by rw[Aa j];exact hi.keep p⟩
       case measure=>simp[intOf];omega
     ·cases first
      all_goals
       go_wp2
       go_round
       case rel=>exact ⟨k+1,_,true,by omega,by go_num,rfl,rfl,by rw[Aa j];exact hi.take (Aa l) (fun _=>p)⟩
       case measure=>simp[intOf];omega
   ·cases first
    ·have l:=Ab (Abi false s (D0 d k) rfl r);go_wp2
     go_round
     case rel=>exact ⟨k+1,_,g,by omega,by go_num,rfl,rfl,by rw[Aa j];exact hi.skip (Aa l)⟩
     case measure=>simp[intOf];omega
    ·have o:XA true s (D0 d k)=true:=rfl;have l:=Ab o;clear o;cases g
     ·go_wp2
      go_round
      case rel=>exact ⟨k+1,_,true,by omega,by go_num,rfl,rfl,by rw[Aa j];exact hi.take (Aa l) (fun h=>by cases h)⟩
      case measure=>simp[intOf];omega
     ·cases p:Op.bytesLess (D0 d k).toList m.toList
      ·go_wp2
       go_round
       case rel=>exact ⟨k+1,_,true,by omega,by go_num,rfl,rfl,by rw[Aa j];exact hi.keep p⟩
       case measure=>simp[intOf];omega
      ·go_wp2
       go_round
       case rel=>exact ⟨k+1,_,true,by omega,by go_num,rfl,rfl,by rw[Aa j];exact hi.take (Aa l) (fun _=>p)⟩
       case measure=>simp[intOf];omega
  ·have e1:d.take k=d:=zk (by have:=Aa q;omega);rw[e1] at hi;go_wp2
   go_ret2
   exact ⟨⟨m,g,rfl,hi⟩,rfl⟩
theorem Nt {K:List ByteArray}(h:Fz K=true):K.Nodup:=by
 rw[Fz,zF] at h;exact h.imp (fun {a b} hab e=>by subst e;rw[DG] at hab;cases hab)
theorem Nu:∀ (K l:List ByteArray),K.Nodup→(∀ x∈K,x∈l)→K.length≤l.length
 | [],_,_,_=>zN _
 |x ::K,l,hn,hs=>by
  obtain ⟨a,b,rfl⟩:=List.append_of_mem (hs x (by simp));rw[List.nodup_cons] at hn;have:=Nu K (a ++b) hn.2 (fun y hy=>by
   have c:y≠x:=fun e=>hn.1 (by rw[← e];exact hy);have hm:=hs y (by simp[hy]);simp only[zH,zG] at hm ⊢;rcases hm with h | h | h
   ·exact .inl h
   ·exact absurd h c
   ·exact .inr h)
  simp only[zB,List.length_cons] at this ⊢;omega
theorem LG:∀ (K M:List ByteArray),Fz K=true→Fz M=true→(∀ x,x∈K↔x∈M)→K=M
 | [], [],_,_,_=>rfl
 | [],y ::M,_,_,h=>by have:=(h y).2 (by simp);cases this
 |x ::K, [],_,_,h=>by have:=(h x).1 (by simp);cases this
 |x ::K,y ::M,hK,hM,h=>by
  rw[Fz,zF,List.pairwise_cons] at hK hM;have c:x=y:=by
   rcases zG.1 ((h x).1 (by simp)) with e | hx
   ·exact e
   ·rcases zG.1 ((h y).2 (by simp)) with e | hy
    ·exact e.symm
    ·have h1:=hM.1 x hx;have h2:=hK.1 y hy;rw[Mh h1] at h2;cases h2
  subst c
  congr 1
  refine LG K M (by rw[Fz,zF];exact hK.2) (by rw[Fz,zF];exact hM.2) fun b=>?_;constructor
  ·intro a;rcases zG.1 ((h b).1 (by simp[a])) with e | hz'
   ·subst e;have:=hK.1 b a;rw[DG] at this;cases this
   ·exact hz'
  ·intro a;rcases zG.1 ((h b).2 (by simp[a])) with e | hz'
   ·subst e;have:=hM.1 b a;rw[DG] at this;cases this
   ·exact hz'
structure Cl (l K:List ByteArray):Prop where
 rise:Fz K=true
 mem:∀ x,x∈K↔x∈l
theorem Cl.unique {l K M:List ByteArray}(h:Cl l K)(k:Cl l M):K=M:=LG K M h.rise k.rise fun x=>(h.mem x).trans (k.mem x).symm
theorem Cl.len {l K:List ByteArray}(h:Cl l K):K.length≤l.length:=Nu K l (Nt h.rise) fun x hx=>(h.mem x).1 hx
structure QJ (l K:List ByteArray) (s:ByteArray) (ok:Bool):Prop where
 rise:Fz K=true
 yes:ok=true→s∈l∧∀ x,x∈K↔x∈l∧sl x s=true
 no:ok=false→∀ x,x∈K↔x∈l
theorem QJ.start {l:List ByteArray}{t s:ByteArray}{ok:Bool}(h:Do l true t s ok):QJ l [] s ok:=by
 refine ⟨rfl,fun hk=>⟨(h.yes hk).1,fun x=>⟨(fun hx=>by cases hx),fun ⟨hx,hl⟩=>?_⟩⟩,fun hk x=>⟨(fun hx=>by cases hx),fun hx=>?_⟩⟩
 ·have:=(h.yes hk).2.2 x hx rfl;rw[this] at hl;cases hl
 ·have:=h.no hk x hx;cases this
theorem Jq (x s:ByteArray):sl x s=true∨x=s∨sl s x=true:=by
 cases h1:sl x s with
 |true=>exact .inl rfl
 |false=>cases h2:sl s x with
  |true=>exact .inr (.inr rfl)
  |false=>exact .inr (.inl (TN _ _ h1 h2))
theorem QJ.step {l K:List ByteArray}{s s':ByteArray}{ok:Bool}(h:QJ l K s true)(k:Do l false s s' ok):QJ l (K ++ [s]) s' ok:=by
 obtain ⟨hs,hm⟩:=h.yes rfl;have rise:Fz (K ++ [s])=true:=by
  rw[Fz,zF,List.pairwise_append];refine ⟨by have:=h.rise;rwa[Fz,zF] at this,by simp,fun x hx y hy=>?_⟩;simp only[zJ] at hy;subst hy;exact ((hm x).1 hx).2
 refine ⟨rise,fun hk=>?_,fun hk=>?_⟩
 ·obtain ⟨h1,h2,h3⟩:=k.yes hk;have a:sl s s'=true:=by simpa[XA] using h2
  refine ⟨h1,fun x=>⟨fun hx=>?_,fun ⟨hx,hl⟩=>?_⟩⟩
  ·rcases zH.1 hx with hx | hx
   ·exact ⟨((hm x).1 hx).1,GP ((hm x).1 hx).2 a⟩
   ·simp only[zJ] at hx;subst hx;exact ⟨hs,a⟩
  ·rcases Jq x s with hc | hc | hc
   ·exact za _ ((hm x).2 ⟨hx,hc⟩)
   ·subst hc;simp
   ·have:=h3 x hx (by simpa[XA] using hc);rw[this] at hl;cases hl
 ·intro x;constructor
  ·intro hx;rcases zH.1 hx with hx | hx
   ·exact ((hm x).1 hx).1
   ·simp only[zJ] at hx;subst hx;exact hs
  ·intro hx;rcases Jq x s with hc | hc | hc
   ·exact za _ ((hm x).2 ⟨hx,hc⟩)
   ·subst hc;simp
   ·have:=k.no hk x hx;simp[XA,hc] at this
theorem QJ.lt {l K:List ByteArray}{s:ByteArray}(h:QJ l K s true):K.length < l.length:=by
 obtain ⟨hs,hm⟩:=h.yes rfl;have a:s ∉ K:=fun hk=>by have:=((hm s).1 hk).2;rw[DG] at this;cases this
 have:=Nu (s ::K) l (List.nodup_cons.2 ⟨a,Nt h.rise⟩) (fun x hx=>by
  rcases zG.1 hx with e | hx
  ·subst e;exact hs
  ·exact ((hm x).1 hx).1)
 simp only[List.length_cons] at this;omega
def I0:Value→Nat | .slice _ n _=>n | _=>0
def Abk (w:World) (ss:List ByteArray) (e:Ending) (w':World):Prop:=
 ∃ x cx K,e= .returned (.slice x K.length cx)∧w'.ownsRow w.heap.size 9 1 (.slice x K.length cx) K.length (K.map Value.string)∧Below w.heap.size w w'∧Cl ss K
theorem EI (a:Option Addr)(n c:Nat)(g:List ByteArray)(w:World)(h:BL w a n c g)(P:n≤1048576):
  Calls Tryz.prog 14 #[.slice a n c] w fun e w'=>Abk w g e w':=by
 obtain ⟨i,hi,z,A,B⟩:=info_parts Mf;have C:=Ab h.len;go_enter Tryz.func14,Tryz.ntmps14
 go_wp2_with fail
 refine (Ns _ _ _ _ _ _ _ h).mono ?_;rintro e m ⟨⟨E,F,rfl,b⟩,o⟩;rw[o];clear o;have H:=QJ.start b;clear b;go_wp2_with fail
 go_loopw [3,4,5] (fun v s ok wr=>∃ (K:List ByteArray) (t:ByteArray) (q:Bool) (x:Option Addr) (d:Nat),s= .string t∧ok= .bool q∧v= .slice x K.length d∧wr.ownsRow w.heap.size 9 1 (.slice x K.length d) K.length (K.map Value.string)∧QJ g K t q∧Below w.heap.size w wr) (fun v _ _ _=>n - I0 v)
 case atStart=>exact ⟨[],E,F,none,0,rfl,rfl,rfl,World.ownsRow_nil _ _ _ _,H,BRN⟩
 case round=>
  obtain ⟨K,t,q,x,d,rfl,rfl,rfl,f,hu,j⟩:=hrel;cases q
  ·go_wp2
   go_ret
   exact ⟨x,d,K,rfl,f,j,⟨hu.rise,hu.no rfl⟩⟩
  ·have Q:K.length < n:=by have:=hu.lt;have:=Aa C;omega
   have I:=j.size;go_wp2_with (at_builtin;refine wpList_append_own _ rfl _ _ 47 rfl w.heap.size 9 i (.string ByteArray.empty) 1 16 Tryz.underlying47 hi z A B rfl (by decide) _ _ _ rfl (f.alloc _) ⟨wr.heap.size,0,none⟩ 1 1 [.string t] rfl rfl ?c1 ?c2 ?c3 ?c4 ?c5 ?_)
   case c1=>exact cell_one_new _ _ _
   case c2=>intro u hu;simp at hu;subst hu;rfl
   case c3=>unfold maxLen;omega
   case c4=>omega
   case c5=>simp;omega
   intro R m l p _;have r:Below w.heap.size w m:=(j.alloc I _).grown p (by simp;omega) (fun k hk=>(f.lt k hk).1);obtain ⟨J,L,hf⟩:=DH l;rw[hf] at l ⊢;clear p f hf;go_wp2_with fail
   refine (Ns _ _ _ _ _ _ _ (h.below r NLN)).mono ?_;rintro e S ⟨⟨M,N,rfl,b⟩,y⟩;rw[y];clear y;have O:=hu.step b;clear b hu;go_wp2
   go_roundw
   case rel=>exact ⟨K ++ [t],M,N,J,L,rfl,rfl,by rw[zB];rfl,by rw[zl,zB];exact l,O,r⟩
   case measure=>simp[I0];omega
end Go.Proofs.YtffkofkjpckmpaaGreatDoor
