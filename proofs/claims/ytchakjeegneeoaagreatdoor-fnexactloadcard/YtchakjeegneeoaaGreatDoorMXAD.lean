/-
  QA, JT, Tab0, VPD, Own0, TB, TO. Own work.
-/
import Derived.Test.YtchakjeegneeoaaGreatDoorMXAB
import Derived.Lib.ItoaNum
import Derived.Test.YtchakjeegneeoaaGreatDoorMXAE
import Derived.Test.YtchakjeegneeoaaGreatDoorMXAF
import Derived.Test.YtchakjeegneeoaaGreatDoorMXAC
import Derived.Test.YtchakjeegneeoaaGreatDoorMXAG
import Derived.Test.YtchakjeegneeoaaGreatDoorMXAL
namespace Go.Proofs.YtchakjeegneeoaaGreatDoor
open Go.RowKit
set_option linter.unusedVariables false
inductive Ex where
 |int (i n:Int)
 |text (i:Int) (s:ByteArray)
 |bool (i:Int) (b:Bool)
 |set (i:Int) (a:Option Addr) (n c:Nat) (ss:List ByteArray)
 |name (i:Int) (s:ByteArray)
 |attr (i n:Int)
 |lett (i n:Int)
 |un (i op:Int) (k:Ex)
 |bin (i op:Int) (l r:Ex)
 |ite (i:Int) (c t e:Ex)
def Ex.val:Ex→Value
 | .int i n=> .iface 230 (.agg #[.int .i64 i,.int .i64 n])
 | .text i s=> .iface 232 (.agg #[.int .i64 i,.string s])
 | .bool i b=> .iface 234 (.agg #[.int .i64 i,.bool b])
 | .set i a n c _=> .iface 236 (.agg #[.int .i64 i,.slice a n c])
 | .name i s=> .iface 176 (.agg #[.int .i64 i,.string s])
 | .attr i n=> .iface 180 (.agg #[.int .i64 i,.int .i64 n])
 | .lett i n=> .iface 179 (.agg #[.int .i64 i,.int .i64 n])
 | .un i op k=> .iface 216 (.agg #[.int .i64 i,.int .i64 op,k.val])
 | .bin i op l r=> .iface 218 (.agg #[.int .i64 i,.int .i64 op,l.val,r.val])
 | .ite i c t e=> .iface 220 (.agg #[.int .i64 i,c.val,t.val,e.val])
def Ex.cnt:Ex→Nat
 | .un _ _ k=>k.cnt+1
 | .bin _ _ l r=>l.cnt+r.cnt+1
 | .ite _ c t e=>c.cnt+t.cnt+e.cnt+1
 |_=>1
def par (b:Bool) (s:ByteArray):ByteArray:=if b then ⟨#[40]⟩ ++s ++⟨#[41]⟩ else s
def Ex.fit (w:World):Ex→Prop
 | .int _ n=>0≤n∧n≤9223372036854775807
 | .text _ s=>s.size≤32
 | .bool .. =>True
 | .set _ a n c ss=>Bg w a n c ss∧n≤64∧∀ x∈ss,x.size≤32
 | .name _ s=>s.size≤32
 | .attr .. =>False
 | .lett .. =>False
 | .un _ op k=>(8≤op∧op≤10)∧k.fit w
 | .bin _ op l r=>(11≤op∧op≤26)∧l.fit w∧r.fit w
 | .ite _ c t e=>c.fit w∧t.fit w∧e.fit w
inductive Ds (N:List Nd):Nat→Ex→Prop
 |int {i:Nat} {x:Nd} (h:N[i]? =some x) (ho:x.op=1) (hk:x.kids= []):Ds N i (.int i x.num)
 |text {i:Nat} {x:Nd} (h:N[i]? =some x) (ho:x.op=2) (hk:x.kids= []):Ds N i (.text i x.text)
 |bool {i:Nat} {x:Nd} (h:N[i]? =some x) (ho:x.op=3) (hk:x.kids= []):Ds N i (.bool i (decide (x.num=1)))
 |set {i:Nat} {x:Nd} (h:N[i]? =some x) (ho:x.op=4) (hk:x.kids= []) (a:Option Addr) (n c:Nat):Ds N i (.set i a n c x.names)
 |name {i:Nat} {x:Nd} (h:N[i]? =some x) (ho:x.op=5) (hk:x.kids= []):Ds N i (.name i x.text)
 |attr {i:Nat} {x:Nd} (h:N[i]? =some x) (ho:x.op=6) (hk:x.kids= []):Ds N i (.attr i x.num)
 |lett {i:Nat} {x:Nd} (h:N[i]? =some x) (ho:x.op=7) (hk:x.kids= []):Ds N i (.lett i x.num)
 |un {i k:Nat} {x:Nd} {e:Ex} (h:N[i]? =some x) (ho: 8≤x.op∧x.op≤10) (hk:x.kids= [(k:Int)]) (hi:k < i) (t:Ds N k e):Ds N i (.un i x.op e)
 |bin {i k l:Nat} {x:Nd} {e f:Ex} (h:N[i]? =some x) (ho: 11≤x.op∧x.op≤26) (hk:x.kids= [(k:Int),(l:Int)]) (hi:k < i∧l < i) (t:Ds N k e) (u:Ds N l f):Ds N i (.bin i x.op e f)
 |ite {i k l m:Nat} {x:Nd} {e f g:Ex} (h:N[i]? =some x) (ho:x.op=27) (hk:x.kids= [(k:Int),(l:Int),(m:Int)]) (hi:k < i∧l < i∧m < i) (t:Ds N k e) (u:Ds N l f) (v:Ds N m g):Ds N i (.ite i e f g)
theorem Ds.lt {N:List Nd}{i:Nat}{e:Ex}(h:Ds N i e):i < N.length:=by
 cases h <;> exact (ze.1 (by assumption)).1
def Jv (Es:List Ex):Nat:=(Es.map Ex.cnt).sum
theorem Ju {N:List Nd}{a b:Nat}{z:List (Nat × Nat)}(h:Ax (N.map Nd.kids) a z b):∀ (Es:List Ex),Es.length=z.length→(∀ j,(h1:j < z.length)→(h2:j < Es.length)→Ds N z[j].1 Es[j])→a+Jv Es=b:=by
 induction h with
 |nil a=>
  intro Es A _;have:Es= []:=zy A;subst this;simp[Jv]
 |@cons a t b ks z hk ht hf E F=>
  intro Es A C
  match Es,A with
  |e ::Es,A=>
   have he:Ds N t e:=C 0 (by simp) (by simp);have M:=F Es (by simpa using A) (fun j h1 h2=>C (j+1) (by simpa using h1) (by simpa using h2));have H:∃ x,N[t]? =some x∧x.kids=Aq ks:=by
    rw[zh] at ht;cases hx:N[t]? with
    |none=>rw[hx] at ht;cases ht
    |some x=>rw[hx] at ht;exact ⟨x,rfl,Option.some.inj ht⟩
   obtain ⟨x,hx,I⟩:=H;have O:a+e.cnt=t+1:=by
    have B:∀ (r:List Ex) (s:List Nat),x.kids=s.map (fun (q:Nat)=>(q:Int))→r.length=s.length→(∀ j,(h1:j < s.length)→(h2:j < r.length)→Ds N s[j] r[j])→a+Jv r=t:=by
     intro r s hq J K;have e1:ks.map (fun p=>p.1)=s:=by
      have:=I.symm.trans hq;rw[Aq] at this;have h2:=congrArg (List.map Int.toNat) this;simpa[List.map_map,Function.comp_def] using h2
     have e2:ks.length=r.length:=by rw[J,← e1,zV]
     exact (E r e2.symm (fun j h1 h2=>by
      have:=K j (by rw[← e1,zV];exact h1) h2;have e3:s[j]'(by rw[← e1,zV];exact h1)=ks[j].1:=by simp[← e1]
      rw[← e3];exact this))
    have d:∀ {y:Nd},N[t]? =some y→y=x:=fun h=>Option.some.inj (h.symm.trans hx);have w:x.kids= []→a=t:=fun h0=>by
     have:=B [] [] (by rw[h0];rfl) rfl (fun j h=>absurd h (by simp));simpa[Jv] using this
    cases he with
    |int h o hk=>rw[w (d h ▸ hk)];rfl
    |text h o hk=>rw[w (d h ▸ hk)];rfl
    |bool h o hk=>rw[w (d h ▸ hk)];rfl
    |set h o hk a n c=>rw[w (d h ▸ hk)];rfl
    |name h o hk=>rw[w (d h ▸ hk)];rfl
    |attr h o hk=>rw[w (d h ▸ hk)];rfl
    |lett h o hk=>rw[w (d h ▸ hk)];rfl
    |@un i k y e h o hk hi u=>
     have:=B [e] [k] (by rw[← d h,hk];rfl) rfl (fun j h1 h2=>by
      have:j=0:=by simpa using h1
      subst this;exact u)
     simp[Jv] at this;simp only[Ex.cnt];omega
    |@bin i k l y e f h o hk hi u v=>
     have:=B [e,f] [k,l] (by rw[← d h,hk];rfl) rfl (fun j h1 h2=>by
      match j,h1 with
      | 0,_=>exact u
      | 1,_=>exact v)
     simp[Jv] at this;simp only[Ex.cnt];omega
    |@ite i k l m y e f g h o hk hi u v L=>
     have:=B [e,f,g] [k,l,m] (by rw[← d h,hk];rfl) rfl (fun j h1 h2=>by
      match j,h1 with
      | 0,_=>exact u
      | 1,_=>exact v
      | 2,_=>exact L)
     simp[Jv] at this;simp only[Ex.cnt];omega
   have e5:Jv (e ::Es)=e.cnt+Jv Es:=by simp[Jv]
   rw[e5];omega
def Ex.kids:Ex→List Ex
 | .un _ _ k=> [k]
 | .bin _ _ l r=> [l,r]
 | .ite _ c t e=> [c,t,e]
 |_=> []
theorem Df {P:Program}{b:Array Oper}{rest:List Oper}{o:Oper}{a:Act}{w:World}{Q:Exit→Act→World→Prop}(f:o.guard=none)(ty:TypeId)(x:Operand)(k:o.op= .load ty x)
  (g:Nat)(hx:a.eval x= .pointer (some ⟨g,0,none⟩))(cs:Array Value)(d:TypeDesc)(hc:∀ j,w.cell? ⟨g,j,none⟩=cs[j]?)
  (l:P.underlying ty=some d)(hd:(match d with | .struct _ | .array _ _=>true | _=>false)=true)(hi:(P.info? ty).map (·.size)=some cs.size)
  (h:wpList P b Q rest (a.put o.dst (.agg cs)) w):wpList P b Q (o ::rest) a w:=
 wpList_plain f fun _ m=>by
  have c:(loadCells ⟨g,0,none⟩ cs.toList.length).run P w= .ok cs.toList.toArray w:=
   run_loadCells_list (P:=P) w ⟨g,0,none⟩ cs.toList (fun j v n=>by
    have p:(⟨g,0,none⟩:Addr).add j=⟨g,j,none⟩:=by unfold Addr.add;split <;> simp_all
    rw[p,hc j];simpa using n)
  have q:(loadVar ty ⟨g,0,none⟩).run P w= .ok (.agg cs) w:=by
   cases hq:P.info? ty with
   |none=>simp[hq] at hi
   |some i=>
    have hs:i.size=cs.size:=by simpa[hq] using hi
    have r:(isAgg ty).run P w= .ok true w:=by
     unfold isAgg;rw[Sem.run_bind,run_underlying l w];cases d <;> simp_all
    simp only[Array.length_toList,Array.toArray_toList] at c;simp[loadVar,Sem.run_bind,r,sizeOf,typeInfo,hq,hs,c]
  unfold Oper.wp execOp;simp only[k,hx,Instr.loadAt,Instr.sureAddr,Sem.run_bind,Sem.run_pure,Result.andThen_ok,q];exact m _ _ h
theorem AU {P:Program}{b:Array Oper}{rest:List Oper}{o:Oper}{a:Act}{w:World}{Q:Exit→Act→World→Prop}(c:o.guard=none)(ty:TypeId)(x y:Operand)(f:o.op= .index ty x y)
  (cs:Array Value)(hx:a.eval x= .agg cs)(k:Nat)(hy:a.eval y= .int .i64 k)(n:Nat)(e:TypeId)(g:P.underlying ty=some (.array n e))(hk:k < n)(d:TypeDesc)(j:P.underlying e=some d)
  (hd:(match d with | .struct _ | .array _ _=>true | _=>false)=true)(sz:Nat)(hi:(P.info? e).map (·.size)=some sz)(r:Array Value)(l:cs.extract (k * sz) (k * sz+sz)=r)
  (h:wpList P b Q rest (a.put o.dst (.agg r)) w):wpList P b Q (o ::rest) a w:=
 wpList_plain c fun _ m=>by
  have hq:(Instr.index ty (.agg cs) (.int .i64 k)).run P w= .ok (.agg r) w:=by
   cases hq:P.info? e with
   |none=>simp[hq] at hi
   |some i=>
    have hs:i.size=sz:=by simpa[hq] using hi
    have p:(isAgg e).run P w= .ok true w:=by
     unfold isAgg;rw[Sem.run_bind,run_underlying j w];cases d <;> simp_all
    have q:(0 :Int)≤(k:Int)∧(k:Int) < (n:Int):=⟨by omega,by omega⟩
    simp[Instr.index,run_underlying g,asIntOf,q,hk,part,Sem.run_bind,p,sizeOf,typeInfo,hq,hs,l]
  unfold Oper.wp execOp;simp only[f,hx,hy,Sem.run_bind,hq,Sem.run_pure,Result.andThen_ok];exact m _ _ h
set_option maxRecDepth 100000
set_option maxHeartbeats 6400000
def Je:Array Value:=#[.int .i64 26,.int .i64 1,.string ⟨#[111,114]⟩,.int .i64 25,.int .i64 2,.string ⟨#[97,110,100]⟩,.int .i64 19,.int .i64 4,.string ⟨#[61,61]⟩,.int .i64 20,.int .i64 4,.string ⟨#[33,61]⟩,.int .i64 21,.int .i64 4,.string ⟨#[60]⟩,.int .i64 22,.int .i64 4,.string ⟨#[60,61]⟩,.int .i64 23,.int .i64 4,.string ⟨#[105,110]⟩,.int .i64 24,.int .i64 4,.string ⟨#[119,105,116,104,105,110]⟩,.int .i64 11,.int .i64 5,.string ⟨#[43]⟩,.int .i64 12,.int .i64 5,.string ⟨#[45]⟩,.int .i64 16,.int .i64 5,.string ⟨#[124]⟩,.int .i64 18,.int .i64 5,.string ⟨#[92]⟩,.int .i64 13,.int .i64 6,.string ⟨#[42]⟩,.int .i64 14,.int .i64 6,.string ⟨#[47]⟩,.int .i64 15,.int .i64 6,.string ⟨#[37]⟩,.int .i64 17,.int .i64 6,.string ⟨#[38]⟩]
structure Opr where
 op:Int
 lv:Int
 text:ByteArray
def H5:Nat→Opr
 | 0=>⟨26,1,⟨#[111,114]⟩⟩
 | 1=>⟨25,2,⟨#[97,110,100]⟩⟩
 | 2=>⟨19,4,⟨#[61,61]⟩⟩
 | 3=>⟨20,4,⟨#[33,61]⟩⟩
 | 4=>⟨21,4,⟨#[60]⟩⟩
 | 5=>⟨22,4,⟨#[60,61]⟩⟩
 | 6=>⟨23,4,⟨#[105,110]⟩⟩
 | 7=>⟨24,4,⟨#[119,105,116,104,105,110]⟩⟩
 | 8=>⟨11,5,⟨#[43]⟩⟩
 | 9=>⟨12,5,⟨#[45]⟩⟩
 | 10=>⟨16,5,⟨#[124]⟩⟩
 | 11=>⟨18,5,⟨#[92]⟩⟩
 | 12=>⟨13,6,⟨#[42]⟩⟩
 | 13=>⟨14,6,⟨#[47]⟩⟩
 | 14=>⟨15,6,⟨#[37]⟩⟩
 | 15=>⟨17,6,⟨#[38]⟩⟩
 |_=>⟨0,0,⟨#[]⟩⟩
theorem Tv:∀ k,k < 16→Je.extract (k * 3) (k * 3+3)= #[.int .i64 (H5 k).op,.int .i64 (H5 k).lv,.string (H5 k).text]
 | 0,_=>rfl
 | 1,_=>rfl
 | 2,_=>rfl
 | 3,_=>rfl
 | 4,_=>rfl
 | 5,_=>rfl
 | 6,_=>rfl
 | 7,_=>rfl
 | 8,_=>rfl
 | 9,_=>rfl
 | 10,_=>rfl
 | 11,_=>rfl
 | 12,_=>rfl
 | 13,_=>rfl
 | 14,_=>rfl
 | 15,_=>rfl
 |n+16,h=>absurd h (by omega)
theorem Abf (op:Int)(h: 11≤op∧op≤26):∃ k,k < 16∧(H5 k).op=op:=by
 have:op=11∨op=12∨op=13∨op=14∨op=15∨op=16∨op=17∨op=18∨op=19∨op=20∨op=21∨op=22∨op=23∨op=24∨op=25∨op=26:=by omega
 rcases this with e | e | e | e | e | e | e | e | e | e | e | e | e | e | e | e <;> subst e
 ·exact ⟨8,by decide,rfl⟩
 ·exact ⟨9,by decide,rfl⟩
 ·exact ⟨12,by decide,rfl⟩
 ·exact ⟨13,by decide,rfl⟩
 ·exact ⟨14,by decide,rfl⟩
 ·exact ⟨10,by decide,rfl⟩
 ·exact ⟨15,by decide,rfl⟩
 ·exact ⟨11,by decide,rfl⟩
 ·exact ⟨2,by decide,rfl⟩
 ·exact ⟨3,by decide,rfl⟩
 ·exact ⟨4,by decide,rfl⟩
 ·exact ⟨5,by decide,rfl⟩
 ·exact ⟨6,by decide,rfl⟩
 ·exact ⟨7,by decide,rfl⟩
 ·exact ⟨1,by decide,rfl⟩
 ·exact ⟨0,by decide,rfl⟩
theorem AdN:∀ k,k < 16→11≤(H5 k).op∧(H5 k).op≤26
 | 0,_ | 1,_ | 2,_ | 3,_ | 4,_ | 5,_ | 6,_ | 7,_ | 8,_ | 9,_ | 10,_ | 11,_ | 12,_ | 13,_ | 14,_ | 15,_=>by decide
 |n+16,h=>absurd h (by omega)
def QD (op:Int):Bool:=decide (11≤op∧op≤26)
def AdP (op:Int) (e:Ending):Prop:=∃ (x y:Int) (s:ByteArray),e= .returned (.tuple #[.agg #[.int .i64 x,.int .i64 y,.string s],.bool (QD op)])
theorem Cd {w:World}{b:Nat}{a c d:Value}{t:TypeId}(R:Al w b #[a,c,d] t):w.cell? ⟨b,0,none⟩=some a∧w.cell? ⟨b,1,none⟩=some c∧w.cell? ⟨b,2,none⟩=some d∧∀ j,w.frozen? ⟨b,j,none⟩=false:=
 ⟨R.cell 0,R.cell 1,R.cell 2,fun j=>R.frozen j⟩
theorem MQ {c:Func}{a b:Tmp}(h:c.results= #[.cell a 249,.tmp b]){tmps:Array Value}{w:World}{g:Nat}{d f i u:Value}(j:tmps.getD a undef= .pointer (some ⟨g,0,none⟩))(k:tmps.getD b undef=u)
  (g0:w.cell? ⟨g,0,none⟩=some d)(g1:w.cell? ⟨g,1,none⟩=some f)(g2:w.cell? ⟨g,2,none⟩=some i):
  (results c tmps).run Tryz.prog w= .ok (.tuple #[.agg #[d,f,i],u]) w:=by
 rw[Z4] at j k;simp[results,h,j,k,go_sem,g0,g1,g2]
theorem FO (op:Int)(w:World)(z: 12 < w.heap.size)(hc:∀ k,w.cell? ⟨12,k,none⟩=Je[k]?):
  Calls Tryz.prog 156 #[.int .i64 op] w fun e w'=>AdP op e∧Below w.heap.size w w':=by
 have s:=Ab (show ∀ k,(w.alloc (.cells #[.int .i64 0,.int .i64 0,.string ⟨#[]⟩] 249)).cell? ⟨12,k,none⟩=Je[k]? from fun k=>(World.cell?_alloc_lt _ _ ⟨12,k,none⟩ z).trans (hc k));clear hc;have t:=(Below.refl w.heap.size w).alloc NLN (.cells #[.int .i64 0,.int .i64 0,.string ⟨#[]⟩] 249);have u:=Al.new w #[.int .i64 0,.int .i64 0,.string ⟨#[]⟩] 249;go_enter Tryz.func156,Tryz.ntmps156
 go_wp2_with (refine Df rfl 264 _ rfl 12 rfl Je _ (Aa s) Tryz.underlying264 rfl (by kernel_rfl) ?_)
 clear s;go_loopw [7] (fun i wr=>∃ k:Nat,k≤16∧i= .int .i64 k∧Below w.heap.size w wr∧Al wr w.heap.size #[.int .i64 0,.int .i64 0,.string ⟨#[]⟩] 249∧∀ j,j < k→(H5 j).op≠op) (fun i _=>16 - (intOf i).toNat)
 case atStart=>exact ⟨0,by omega,rfl,t,u,fun j h=>absurd h (by omega)⟩
 case round=>
  obtain ⟨k,hk,rfl,d,a,v⟩:=hrel;have f:=Ab v;clear v t u;by_cases g:k < 16
  ·have N:(k:Int) < 16:=by omega
   have q:=Ab (Tv k g);have x:=Ab (AdN k g);have l:=Ab g;have O:=a.lt;have m:=Ab (show (H5 k).op≠op→∀ j,j < k+1→(H5 j).op≠op from fun e j y=>by
    by_cases A:j=k
    ·subst A;exact e
    ·exact Aa f j (by omega))
   have b:=Ab (show (H5 k).op=op→QD op=true from fun e=>by rw[← e];exact zW (Aa x));clear f x g;generalize H5 k=o at q m b;have B:=d.alloc d.size (.cells #[.int .i64 o.op,.int .i64 o.lv,.string o.text] 249);have C:=a.alloc (.cells #[.int .i64 o.op,.int .i64 o.lv,.string o.text] 249);have P:=Al.new wr #[.int .i64 o.op,.int .i64 o.lv,.string o.text] 249;by_cases c:o.op=op
   ·have E:(o.op== op)=true:=zN.2 c;have F:=Ab (Aa b c);clear c b m;obtain ⟨H,I,q2,J⟩:=Cd a;go_wp2_with (refine AU rfl 264 _ _ rfl Je rfl k rfl 16 249 Tryz.underlying264 (Aa l) _ Tryz.underlying249 rfl 3 (by kernel_rfl) _ (Aa q) ?_)
    have r:Al _ w.heap.size #[.int .i64 o.op,.int .i64 o.lv,.string o.text] 249:=(((a.set 0 (.int .i64 o.op)).set 1 (.int .i64 o.lv)).set 2 (.string o.text)).alloc (.cells #[.int .i64 o.op,.int .i64 o.lv,.string o.text] 249);have n:=(((d.setCell (p:=⟨w.heap.size,0,none⟩) NLN (.int .i64 o.op)).setCell (p:=⟨w.heap.size,1,none⟩) NLN (.int .i64 o.lv)).setCell (p:=⟨w.heap.size,2,none⟩) NLN (.string o.text))
    have K:=n.alloc n.size (.cells #[.int .i64 o.op,.int .i64 o.lv,.string o.text] 249);obtain ⟨g0,g1,g2,L⟩:=Cd r;exact bodyPost_ret (MQ Tryz.results156 rfl rfl g0 g1 g2) rfl ⟨⟨_,_,_,by rw[Aa F];rfl⟩,K⟩
   ·have E:(o.op== op)=false:=zB.2 c;have M:=Ab (Aa m c);clear c b m;go_wp2_with (refine AU rfl 264 _ _ rfl Je rfl k rfl 16 249 Tryz.underlying264 (Aa l) _ Tryz.underlying249 rfl 3 (by kernel_rfl) _ (Aa q) ?_)
    go_roundw
    case rel=>exact ⟨k+1,Aa l,by go_num,B,C,Aa M⟩
    case measure=>have:=Aa l;simp[intOf];omega
  ·have e:k=16:=by omega
   subst e;have b:=Ab (show QD op=false from zR fun h=>by
    obtain ⟨j,y,e⟩:=Abf op h;exact Aa f j y e)
   clear f;obtain ⟨H,I,q2,J⟩:=Cd a;go_wp2_with fail
   have r:Al _ w.heap.size #[.int .i64 0,.int .i64 0,.string ⟨#[]⟩] 249:=((a.set 0 (.int .i64 0)).set 1 (.int .i64 0)).set 2 (.string ⟨#[]⟩);have n:=(((d.setCell (p:=⟨w.heap.size,0,none⟩) NLN (.int .i64 0)).setCell (p:=⟨w.heap.size,1,none⟩) NLN (.int .i64 0)).setCell (p:=⟨w.heap.size,2,none⟩) NLN (.string ⟨#[]⟩))
   obtain ⟨g0,g1,g2,L⟩:=Cd r;exact bodyPost_ret (MQ Tryz.results156 rfl rfl g0 g1 g2) rfl ⟨⟨_,_,_,by rw[Aa b];rfl⟩,n⟩
theorem GZ (op:Int)(w:World)(d: 12 < w.heap.size)(hc:∀ k,w.cell? ⟨12,k,none⟩=Je[k]?):
  Calls Tryz.prog 148 #[.int .i64 op] w fun e w'=>e= .returned (.int .i64 (Dn op))∧Below w.heap.size w w':=by
 have f:=Ab hc;clear hc;by_cases h0: 1≤op∧op≤7
 ·have:op=1∨op=2∨op=3∨op=4∨op=5∨op=6∨op=7:=by omega
  rcases this with e | e | e | e | e | e | e <;> subst e <;> (go_enter Tryz.func148,Tryz.ntmps148;go_wp2;go_ret;exact ⟨rfl,BRN⟩)
 by_cases h1: 8≤op∧op≤10
 ·have:op=8∨op=9∨op=10:=by omega
  rcases this with e | e | e <;> subst e <;> (go_enter Tryz.func148,Tryz.ntmps148;go_wp2;go_ret;exact ⟨rfl,BRN⟩)
 by_cases h3:op=27
 ·subst h3;go_enter Tryz.func148,Tryz.ntmps148
  go_wp2
  go_ret
  exact ⟨rfl,BRN⟩
 have g:=Ab (show Dn op=if QD op=true then 2 else -1 by
  rw[Dn,if_neg h0,if_neg h1,QD];by_cases h2: 11≤op∧op≤26
  ·rw[if_pos h2,if_pos (zW h2)]
  ·rw[if_neg h2,if_neg h3,if_neg (by rw[zR h2];decide)])
 have e1:(op== 1)=false:=zB.2 (by omega);have e2:(op== 2)=false:=zB.2 (by omega);have e3:(op== 3)=false:=zB.2 (by omega);have e4:(op== 4)=false:=zB.2 (by omega);have e5:(op== 5)=false:=zB.2 (by omega);have l:(op== 6)=false:=zB.2 (by omega);have m:(op== 7)=false:=zB.2 (by omega);have n:(op== 8)=false:=zB.2 (by omega);have o:(op== 9)=false:=zB.2 (by omega);have p:(op== 10)=false:=zB.2 (by omega);have q:(op== 27)=false:=zB.2 (by omega);clear h0 h1 h3;go_enter Tryz.func148,Tryz.ntmps148
 cases c:QD op
 ·have a:=Ab c;clear c;go_wp2_with (go_at_call 156;refine (FO _ _ d (Aa f)).mono ?_;rintro e w2 ⟨⟨h,i,j,rfl⟩,b⟩;rw[Aa a])
  go_ret
  exact ⟨by rw[Aa g,Aa a];rfl,b.alloc b.size _⟩
 ·have a:=Ab c;clear c;go_wp2_with (go_at_call 156;refine (FO _ _ d (Aa f)).mono ?_;rintro e w2 ⟨⟨h,i,j,rfl⟩,b⟩;rw[Aa a])
  go_ret
  exact ⟨by rw[Aa g,Aa a];rfl,b.alloc b.size _⟩
structure Aj (lo hi:Nat) (w w':World):Prop where
 os:w'.os=w.os
 tape:w'.tape=w.tape
 output:w'.output=w.output
 size:w.heap.size≤w'.heap.size
 block:∀ k,k < w.heap.size→(k < lo∨hi≤k)→w'.heap[k]? =w.heap[k]?
theorem Aj.refl (lo hi:Nat)(w:World):Aj lo hi w w:=⟨rfl,rfl,rfl,NLN,fun _ _ _=>rfl⟩
theorem Aj.trans {lo hi:Nat}{a b c:World}(h:Aj lo hi a b)(k:Aj lo hi b c):Aj lo hi a c:=
 ⟨k.os.trans h.os,k.tape.trans h.tape,k.output.trans h.output,zD h.size k.size,fun i hi d=>(k.block i (zM hi h.size) d).trans (h.block i hi d)⟩
theorem Aj.of_below {lo hi B:Nat}{w w':World}(h:Below B w w')(hB:w.heap.size≤B):Aj lo hi w w':=
 ⟨h.os,h.tape,h.output,h.size,fun k hk _=>h.block k (by omega)⟩
theorem Aj.setCell {lo hi:Nat}(w:World)(p:Addr)(u:Value)(h1:lo≤p.block)(h2:p.block < hi):Aj lo hi w (w.setCell p u):=
 ⟨rfl,rfl,rfl,by simp,fun k _ hk=>heap_setCell_other w p k u (by omega)⟩
theorem Gf {B lo hi:Nat}{w a w2:World}(h:Below B w a)(t:Aj lo hi a w2)(hB:B≤lo)(hs:B≤a.heap.size):Below B w w2:=
 h.trans ⟨t.os,t.tape,t.output,t.size,fun k hk=>t.block k (by omega) (.inl (by omega))⟩
structure VU (w:World) (lo hi:Nat) (a:Option Addr) (n c:Nat) (ss:List ByteArray):Prop where
 own:w.ownsRow lo 9 1 (.slice a n c) n (ss.map Value.string)
 lt:∀ x,a=some x→x.block < hi
 sizes:∀ j,j < n→(EU ss j).size≤maxLen
 top:hi≤w.heap.size
theorem VU.strs {w:World}{lo hi n c:Nat}{a:Option Addr}{b:List ByteArray}(h:VU w lo hi a n c b):Bg w a n c b:=Bg.of_owns h.own h.sizes
theorem PD {w w':World}{lo n c:Nat}{a:Option Addr}{d:List Value}(h:w.ownsRow lo 9 1 (.slice a n c) n d)(f:∀ x,a=some x→w'.heap[x.block]? =w.heap[x.block]?):w'.ownsRow lo 9 1 (.slice a n c) n d:=by
 refine ⟨h.1, ?_⟩;rcases h.2 with h2 | ⟨g,cap,i,b,h3,j,h4⟩
 ·exact .inl h2
 ·refine .inr ⟨g,cap,i,b,h3, ?_,h4⟩;simp only[Value.slice.injEq] at b;rw[← j];exact f ⟨g,0,none⟩ b.1
set_option maxHeartbeats 3200000
theorem LF (s:ByteArray)(k:Nat)(h:k < s.size)(a:(s[k].toNat:Int)=32∨(s[k].toNat:Int)=10∨(s[k].toNat:Int)=9):FT false ((Ap s).drop k)=FT false ((Ap s).drop (k+1)):=by
 rw[BC s k h,FT,if_pos];rcases a with h | h | h
 ·exact .inl (UInt8.toNat_inj.1 (by have:(32 :UInt8).toNat=32:=rfl;omega))
 ·exact .inr (.inl (UInt8.toNat_inj.1 (by have:(10 :UInt8).toNat=10:=rfl;omega)))
 ·exact .inr (.inr (UInt8.toNat_inj.1 (by have:(9 :UInt8).toNat=9:=rfl;omega)))
theorem AdK {c:UInt8}(h1: ¬ (c.toNat:Int)=32)(h2: ¬ (c.toNat:Int)=10)(h3: ¬ (c.toNat:Int)=9): ¬ (c=32∨c=10∨c=9):=by
 rintro (h | h | h)
 ·subst h;exact h1 rfl
 ·subst h;exact h2 rfl
 ·subst h;exact h3 rfl
theorem Ur (s:ByteArray)(k:Nat)(h:k < s.size)(a:(s[k].toNat:Int)=35):FT false ((Ap s).drop k)=FT true ((Ap s).drop k):=by
 have e:s[k]=35:=UInt8.toNat_inj.1 (by have:(35 :UInt8).toNat=35:=rfl;omega);rw[BC s k h,e];generalize (Ap s).drop (k+1)=r;simp[FT]
theorem Qs (s:ByteArray)(k:Nat)(h:k < s.size)(h1: ¬ (s[k].toNat:Int)=32)(h2: ¬ (s[k].toNat:Int)=10)(h3: ¬ (s[k].toNat:Int)=9)(h4: ¬ (s[k].toNat:Int)=35):FT false ((Ap s).drop k)=(Ap s).drop k:=by
 rw[BC s k h,FT,if_neg (AdK h1 h2 h3),if_neg (fun e=>h4 (by rw[e];rfl))]
theorem V5 (s:ByteArray)(k:Nat)(h:k < s.size)(h1: ¬ (s[k].toNat:Int)=10):FT true ((Ap s).drop k)=FT true ((Ap s).drop (k+1)):=by
 rw[BC s k h,FT,if_neg (fun e=>h1 (by rw[e];rfl))]
theorem Aa5 (s:ByteArray)(k:Nat)(h:k < s.size)(h1:(s[k].toNat:Int)=10):FT true ((Ap s).drop k)=FT false ((Ap s).drop k):=by
 have e:s[k]=10:=UInt8.toNat_inj.1 (by have:(10 :UInt8).toNat=10:=rfl;omega);rw[BC s k h,e];generalize (Ap s).drop (k+1)=r;simp[FT]
theorem MV (o:Bool)(s:ByteArray)(k:Nat)(h:s.size≤k):FT o ((Ap s).drop k)= []:=by
 rw[Z5 (by rw[Av];exact h)];cases o <;> rfl
theorem Mi (s:ByteArray)(j:Nat)(w:World)(hs:s.size≤maxLen)(l:j≤s.size):
  Calls Tryz.prog 42 #[.string s,.int .i64 j] w fun e w'=>(∃ k:Nat,e= .returned (.int .i64 k)∧j≤k∧k≤s.size∧FT false ((Ap s).drop j)=(Ap s).drop k∧FT false ((Ap s).drop k)=(Ap s).drop k)∧w'=w:=by
 unfold maxLen at hs;go_enter Tryz.func42,Tryz.ntmps42
 go_wp2
 go_loop [1] (fun i=>∃ k:Nat,j≤k∧k≤s.size∧i= .int .i64 k∧FT false ((Ap s).drop j)=FT false ((Ap s).drop k)) (fun i=>s.size - (intOf i).toNat)
 case atStart=>exact ⟨j,NLN,l,rfl,rfl⟩
 case round=>
  obtain ⟨k,g,hk,rfl,he⟩:=hrel;have b:=Ab he;clear he;by_cases c:k < s.size
  ·have m:(k:Int) < (s.size:Int):=by omega
   by_cases h1:(s[k].toNat:Int)=32
   ·have a:=Ab (LF s k c (.inl h1));go_wp2
    go_round
    case rel=>exact ⟨k+1,by omega,by omega,by go_num,by rw[Aa b,Aa a]⟩
    case measure=>simp[intOf];omega
   by_cases h2:(s[k].toNat:Int)=10
   ·have a:=Ab (LF s k c (.inr (.inl h2)));go_wp2
    go_round
    case rel=>exact ⟨k+1,by omega,by omega,by go_num,by rw[Aa b,Aa a]⟩
    case measure=>simp[intOf];omega
   by_cases h3:(s[k].toNat:Int)=9
   ·have a:=Ab (LF s k c (.inr (.inr h3)));go_wp2
    go_round
    case rel=>exact ⟨k+1,by omega,by omega,by go_num,by rw[Aa b,Aa a]⟩
    case measure=>simp[intOf];omega
   by_cases h4:(s[k].toNat:Int)=35
   ·have a:=Ab (Ur s k c h4);have o:=Ab (V5 s k c h2);go_wp2
    go_loop [1] (fun i=>∃ q:Nat,k≤q∧q≤s.size∧i= .int .i64 q∧FT true ((Ap s).drop k)=FT true ((Ap s).drop q)) (fun i=>s.size - (intOf i).toNat)
    case atStart=>exact ⟨k,NLN,hk,rfl,rfl⟩
    case round=>
     obtain ⟨q,p,hq,rfl,hi⟩:=hrel;have f:=Ab hi;clear hi;by_cases h:q < s.size
     ·have n:(q:Int) < (s.size:Int):=by omega
      by_cases h10:(s[q].toNat:Int)=10
      ·have d:=Ab (Aa5 s q h h10);have r:q≠k:=fun e=>by subst e;omega
       go_wp2
       go_round
       case rel=>exact ⟨q,by omega,by omega,by go_num,by rw[Aa b,Aa a,Aa f,Aa d]⟩
       case measure=>simp[intOf];omega
      ·have d:=Ab (V5 s q h h10);go_wp2
       go_round
       case rel=>exact ⟨q+1,by omega,by omega,by go_num,by rw[Aa f,Aa d]⟩
       case measure=>simp[intOf];omega
     ·have n: ¬ ((q:Int) < (s.size:Int)):=by omega
      have d:=Ab ((MV true s q (by omega)).trans (MV false s q (by omega)).symm);go_wp2
      go_round
      case rel=>exact ⟨q,by omega,by omega,by go_num,by rw[Aa b,Aa a,Aa f,Aa d]⟩
      case measure=>simp[intOf];omega
   ·have a:=Ab (Qs s k c h1 h2 h3 h4);have e1:=zB.2 h1;have e2:=zB.2 h2;have e3:=zB.2 h3;have e4:=zB.2 h4;go_wp2
    go_ret
    exact ⟨⟨k,rfl,g,hk,by rw[Aa b,Aa a],Aa a⟩,rfl⟩
  ·have m: ¬ ((k:Int) < (s.size:Int)):=by omega
   have a:=Ab (MV false s k (by omega));go_wp2
   go_ret
   have e:(Ap s).drop k= []:=Z5 (by rw[Av];omega);exact ⟨⟨k,rfl,g,hk,by rw[Aa b,Aa a,e],by rw[Aa a,e]⟩,rfl⟩
set_option maxHeartbeats 6400000
def G7 (j:Nat) (o:Pm) (e:Ending):Prop:=match o with
 | .bad c=>∃ (k m n:Int) (x:ByteArray),e= .returned (.tuple #[.agg #[.int .i64 k,.int .i64 m,.string x,.int .i64 (j:Int)],.int .i64 n,.int .i64 c])
 | .tok k m t w=>e= .returned (.tuple #[.agg #[.int .i64 k,.int .i64 m,.string (AB t),.int .i64 (j:Int)],.int .i64 ((j+w:Nat):Int),.int .i64 0])
theorem Sa (s:ByteArray)(j e:Nat):s.extract j e=AB (((Ap s).drop j).take (e - j)):=by
 rw[← BR,Bs]
theorem I9 (w:World)(j:Nat):∃ W,((w.alloc (.cells #[.int .i64 0,.int .i64 0,.string ⟨#[]⟩,.int .i64 0] 51)).alloc (.cells #[.int .i64 0,.int .i64 0,.string ⟨#[]⟩,.int .i64 j] 51))=W∧Al W w.heap.size #[.int .i64 0,.int .i64 0,.string ⟨#[]⟩,.int .i64 0] 51∧Al W (w.heap.size+1) #[.int .i64 0,.int .i64 0,.string ⟨#[]⟩,.int .i64 j] 51∧Below w.heap.size w W∧W.heap.size=w.heap.size+2:=by
 refine ⟨_,rfl,(Al.new w _ _).alloc _, ?_,((Below.refl w.heap.size w).alloc NLN _).alloc (by simp) _,by simp⟩;have:=Al.new (w.alloc (.cells #[.int .i64 0,.int .i64 0,.string ⟨#[]⟩,.int .i64 0] 51)) #[.int .i64 0,.int .i64 0,.string ⟨#[]⟩,.int .i64 j] 51;simpa using this
theorem AX {w:World}{b:Nat}{a c d f:Value}{t:TypeId}(R:Al w b #[a,c,d,f] t):w.cell? ⟨b,0,none⟩=some a∧w.cell? ⟨b,1,none⟩=some c∧w.cell? ⟨b,2,none⟩=some d∧w.cell? ⟨b,3,none⟩=some f∧∀ j,w.frozen? ⟨b,j,none⟩=false:=
 ⟨by simpa using R.cell 0,by simpa using R.cell 1,by simpa using R.cell 2,by simpa using R.cell 3,fun j=>R.frozen j⟩
theorem Aw {c:Func}{a t u:Tmp}(h:c.results= #[.cell a 51,.tmp t,.tmp u]){tmps:Array Value}{w:World}{b:Nat}{d f g i:Value}(j:tmps.getD a undef= .pointer (some ⟨b,0,none⟩))
  (g0:w.cell? ⟨b,0,none⟩=some d)(g1:w.cell? ⟨b,1,none⟩=some f)(g2:w.cell? ⟨b,2,none⟩=some g)(g3:w.cell? ⟨b,3,none⟩=some i):
  (results c tmps).run Tryz.prog w= .ok (.tuple #[.agg #[d,f,g,i],tmps.getD t undef,tmps.getD u undef]) w:=by
 rw[Z4] at j;simp[results,h,j,go_sem,g0,g1,g2,g3]
theorem V8 (s:ByteArray)(j:Nat)(w:World)(hs:s.size≤1048576)(y:j < s.size)(r:JG (s[j].toNat:Int)=true):
  Calls Tryz.prog 43 #[.string s,.int .i64 j] w fun e w'=>G7 j (BN ((Ap s).drop j)) e∧Below w.heap.size w w':=by
 have I:(j:Int) < (s.size:Int):=by omega
 obtain ⟨z,A⟩:=Xj (p:=Ew) (s:=s) (Nat.le_of_lt y);have g:=Ab (EH Ew s j);obtain ⟨W,B,a,h,t,J⟩:=I9 w j;have C:=Ab r;clear r;go_enter Tryz.func43,Tryz.ntmps43
 go_wp2_with (go_at_call 66;refine (AW _ _).mono ?_;rintro e w' ⟨rfl,c⟩;rw[Aa C,c];clear c)
 clear B;refine (LJ s j _ (by unfold maxLen;omega) (by omega)).mono ?_;rintro e F ⟨rfl,rfl⟩;generalize Eb Ew s j=E at z A g ⊢;have K:(j:Int)≤(E:Int):=by omega
 have L:(E:Int)≤(s.size:Int):=by omega
 obtain ⟨c0,c1,c2,c3,u⟩:=AX h;have i:=(h.set 2 (.string (s.extract j E))).set 0 (.int .i64 3);have n:=(a.setFar (p:=⟨w.heap.size+1,2,none⟩) (by show w.heap.size≠w.heap.size+1;omega) (.string (s.extract j E))).setFar (p:=⟨w.heap.size+1,0,none⟩) (by show w.heap.size≠w.heap.size+1;omega) (.int .i64 3);have k:=(t.setCell (p:=⟨w.heap.size+1,2,none⟩) (by show w.heap.size≤w.heap.size+1;omega) (.string (s.extract j E))).setCell (p:=⟨w.heap.size+1,0,none⟩) (by show w.heap.size≤w.heap.size+1;omega) (.int .i64 3);simp only[z4,z0,zw] at i;have v:=Ab (Sa s j E);have M:(s.extract j E).size=E - j:=by rw[ByteArray.size_extract];omega
 go_wp2_with fail
 generalize (F.setCell ⟨w.heap.size+1,2,none⟩ (.string (s.extract j E))).setCell ⟨w.heap.size+1,0,none⟩ (.int .i64 3)=N at i n k ⊢;clear a h t c0 c1 c2 c3 u;generalize s.extract j E=x at *;refine (OB x _).mono ?_;rintro e O ⟨rfl,l⟩;have h:=i.after l NLN;have a:=n.after l NLN;have m:=k.trans (l.mono k.size);clear i n k l;obtain ⟨P,d1,d2,d3,Q⟩:=AX a;obtain ⟨c0,c1,c2,c3,u⟩:=AX h;cases c:Gz (Ap x)
 ·have o:=Ab c;clear c;by_cases H: 32 < E - j
  ·have q:((32 :Int) < (x.size:Int)):=by omega
   go_wp2_with fail
   have d:=Ao (b:=w.heap.size) m NLN (.int .i64 3) (.int .i64 0) (.string x) (.int .i64 j);obtain ⟨g0,g1,g2,g3,_⟩:=AX (AD a (.int .i64 3) (.int .i64 0) (.string x) (.int .i64 j));simp only[CH] at g0 g1 g2 g3;refine bodyPost_ret (Aw Tryz.results43 rfl g0 g1 g2 g3) rfl ⟨?_,d⟩;have f: 32 < AR Ew ((Ap s).drop j):=by have:=Aa g;omega
   rw[BN,if_pos f];exact ⟨_,_,_,_,rfl⟩
  ·have q: ¬ ((32 :Int) < (x.size:Int)):=by omega
   go_wp2_with fail
   have d:=Ao (b:=w.heap.size) m NLN (.int .i64 3) (.int .i64 0) (.string x) (.int .i64 j);obtain ⟨g0,g1,g2,g3,_⟩:=AX (AD a (.int .i64 3) (.int .i64 0) (.string x) (.int .i64 j));simp only[CH] at g0 g1 g2 g3;refine bodyPost_ret (Aw Tryz.results43 rfl g0 g1 g2 g3) rfl ⟨?_,d⟩;have f:AR Ew ((Ap s).drop j)=E - j:=by have:=Aa g;omega
   rw[BN,f,if_neg (by omega),← DT (((Ap s).drop j).take (E - j)),← Aa v,Aa o];simp only[G7,Bs];rw[show j+(E - j)=E by omega];rfl
 ·have o:=Ab c;clear c;by_cases H: 32 < E - j
  ·have q:((32 :Int) < (x.size:Int)):=by omega
   go_wp2_with fail
   have d:=Ao (b:=w.heap.size) (m.setCell (p:=⟨w.heap.size+1,0,none⟩) (by show w.heap.size≤w.heap.size+1;omega) (.int .i64 4)) NLN (.int .i64 4) (.int .i64 0) (.string x) (.int .i64 j);obtain ⟨g0,g1,g2,g3,_⟩:=AX (AD (a.setFar (p:=⟨w.heap.size+1,0,none⟩) (by show w.heap.size≠w.heap.size+1;omega) (.int .i64 4)) (.int .i64 4) (.int .i64 0) (.string x) (.int .i64 j));simp only[CH] at g0 g1 g2 g3;refine bodyPost_ret (Aw Tryz.results43 rfl g0 g1 g2 g3) rfl ⟨?_,d⟩;have f: 32 < AR Ew ((Ap s).drop j):=by have:=Aa g;omega
   rw[BN,if_pos f];exact ⟨_,_,_,_,rfl⟩
  ·have q: ¬ ((32 :Int) < (x.size:Int)):=by omega
   go_wp2_with fail
   have d:=Ao (b:=w.heap.size) (m.setCell (p:=⟨w.heap.size+1,0,none⟩) (by show w.heap.size≤w.heap.size+1;omega) (.int .i64 4)) NLN (.int .i64 4) (.int .i64 0) (.string x) (.int .i64 j);obtain ⟨g0,g1,g2,g3,_⟩:=AX (AD (a.setFar (p:=⟨w.heap.size+1,0,none⟩) (by show w.heap.size≠w.heap.size+1;omega) (.int .i64 4)) (.int .i64 4) (.int .i64 0) (.string x) (.int .i64 j));simp only[CH] at g0 g1 g2 g3;refine bodyPost_ret (Aw Tryz.results43 rfl g0 g1 g2 g3) rfl ⟨?_,d⟩;have f:AR Ew ((Ap s).drop j)=E - j:=by have:=Aa g;omega
   rw[BN,f,if_neg (by omega),← DT (((Ap s).drop j).take (E - j)),← Aa v,Aa o];simp only[G7,Bs];rw[show j+(E - j)=E by omega];rfl
end Go.Proofs.YtchakjeegneeoaaGreatDoor
