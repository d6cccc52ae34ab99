/-
  QA, TB. Own work.
-/
import Derived.Test.YtcpdodmoheebaaaGreatDoorMXAC
import Derived.Lib.ItoaNum
import Derived.Test.YtcpdodmoheebaaaGreatDoorTS
namespace Go.Proofs.YtcpdodmoheebaaaGreatDoor
open Go.RowKit
set_option linter.unusedVariables false
inductive Ex where
 | int (i n:Int)
 | text (i:Int) (s:ByteArray)
 | bool (i:Int) (b:Bool)
 | set (i:Int) (a:Option Addr) (n c:Nat) (ss:List ByteArray)
 | name (i:Int) (s:ByteArray)
 | attr (i n:Int)
 | lett (i n:Int)
 | un (i op:Int) (k:Ex)
 | bin (i op:Int) (l r:Ex)
 | ite (i:Int) (c t e:Ex)
def Ex.op:Ex→Int
 | .int .. =>1 | .text .. =>2 | .bool .. =>3 | .set .. =>4 | .name .. =>5 | .attr .. =>6 | .lett .. =>7
 | .un _ op _=>op | .bin _ op _ _=>op | .ite .. =>27
def Ex.cnt:Ex→Nat
 | .un _ _ k=>k.cnt+1
 | .bin _ _ l r=>l.cnt+r.cnt+1
 | .ite _ c t e=>c.cnt+t.cnt+e.cnt+1
 | _=>1
def BB (op:Int):Int:=
 if op=27 then 0 else if op=26 then 1 else if op=25 then 2 else if op=9 then 3 else if 19≤op∧op≤24 then 4
 else if op=11∨op=12∨op=16∨op=18 then 5 else if op=13∨op=14∨op=15∨op=17 then 6 else if op=8 then 7 else 8
theorem CG (op:Int): 0≤BB op:=by unfold BB;repeat' split <;> try decide
theorem DJ (op:Int):BB op≤8:=by unfold BB;repeat' split <;> try decide
def Hu:List ByteArray:= [⟨#[43]⟩,⟨#[45]⟩,⟨#[42]⟩,⟨#[47]⟩,⟨#[37]⟩,⟨#[124]⟩,⟨#[38]⟩,⟨#[92]⟩,⟨#[61,61]⟩,⟨#[33,61]⟩,⟨#[60]⟩,⟨#[60,61]⟩,⟨#[105,110]⟩,⟨#[119,105,116,104,105,110]⟩,⟨#[97,110,100]⟩,⟨#[111,114]⟩]
def A7 (op:Int):ByteArray:=Hu.getD (op - 11).toNat ⟨#[]⟩
theorem BI (op:Int):(A7 op).size≤6:=by
 unfold A7
 generalize (op - 11).toNat=k
 match k with
 | 0 | 1 | 2 | 3 | 4 | 5 | 6 | 7 | 8 | 9 | 10 | 11 | 12 | 13 | 14 | 15=>simp [Hu,ByteArray.size]
 | k+16=>simp [Hu,List.getD,ByteArray.size]
def EN (k:Nat):ByteArray:=⟨(Lib.decDigits k).toArray⟩
theorem Hz:∀ (k n:Nat),n < 10 ^ (k+1)→(Lib.decDigits n).length≤k+1
 | 0,n,h=>by
  have h10:n < 10:=by simpa using h
  rw [Lib.decDigits,dif_pos h10]
  simp
 | k+1,n,h=>by
  by_cases h10:n < 10
  ·rw [Lib.decDigits,dif_pos h10]
   simp
  ·rw [Lib.decDigits,dif_neg h10]
   have:=Hz k (n / 10) (by have:(10 :Nat) ^ (k+1+1)=10 ^ (k+1) * 10:=Nat.pow_succ ..;omega)
   simp
   omega
theorem Ee {n:Nat}(h:n≤9223372036854775807):(EN n).size≤19:=by
 have:=Hz 18 n (by omega)
 simpa [EN,ByteArray.size] using this
def Cu (first:Bool):List ByteArray→ByteArray
 | []=>⟨#[]⟩
 | x ::r=>(if first then ⟨#[]⟩ else ⟨#[44,32]⟩) ++(⟨#[34]⟩ ++x ++⟨#[34]⟩) ++Cu false r
theorem ER (a:ByteArray):a ++(⟨#[]⟩:ByteArray)=a:=ByteArray.append_empty
theorem DK (a:ByteArray):(⟨#[]⟩:ByteArray) ++a=a:=ByteArray.empty_append
theorem EC:∀ (f:Bool) (l:List ByteArray),(∀ x∈l,x.size≤32)→(Cu f l).size≤36 * l.length
 | f, [],_=>by simp [Cu,ByteArray.size]
 | f,x ::r,h=>by
  have h1:=EC false r (fun y hy=>h y (List.mem_cons_of_mem _ hy))
  have h2:=h x (List.mem_cons_self ..)
  rw [Cu]
  simp only [ByteArray.size_append,List.length_cons]
  have:(if f=true then (⟨#[]⟩:ByteArray) else ⟨#[44,32]⟩).size≤2:=by cases f <;> simp [ByteArray.size]
  have e:(⟨#[34]⟩:ByteArray).size=1:=rfl
  omega
def JU (ss:List ByteArray):ByteArray:=⟨#[123]⟩ ++Cu true ss ++⟨#[125]⟩
def Kv (b:Bool) (s:ByteArray):ByteArray:=if b then ⟨#[40]⟩ ++s ++⟨#[41]⟩ else s
theorem CP (b:Bool)(s:ByteArray):(Kv b s).size≤s.size+2:=by
 have e1:(⟨#[40]⟩:ByteArray).size=1:=rfl
 have e2:(⟨#[41]⟩:ByteArray).size=1:=rfl
 cases b
 ·simp [Kv]
 ·simp only [Kv,if_true,ByteArray.size_append]
  omega
def Jt (op:Int):Int:=if BB op=4 then 5 else BB op
def Ex.pr:Ex→ByteArray
 | .int _ n=>EN n.toNat
 | .text _ s=>⟨#[34]⟩ ++s ++⟨#[34]⟩
 | .bool _ b=>if b then ⟨#[116,114,117,101]⟩ else ⟨#[102,97,108,115,101]⟩
 | .set _ _ _ _ ss=>JU ss
 | .name _ s=>s
 | .attr .. =>⟨#[]⟩
 | .lett .. =>⟨#[]⟩
 | .un _ op k=>if op=8 then ⟨#[45]⟩ ++Kv (decide (BB k.op < 7)) k.pr else if op=9 then ⟨#[110,111,116,32]⟩ ++Kv (decide (BB k.op < 3)) k.pr
  else ⟨#[115,105,122,101,40]⟩ ++k.pr ++⟨#[41]⟩
 | .bin _ op l r=>Kv (decide (BB l.op < Jt op)) l.pr ++(⟨#[32]⟩ ++A7 op ++⟨#[32]⟩) ++Kv (decide (BB r.op < BB op+1)) r.pr
 | .ite _ c t e=>⟨#[105,102,32]⟩ ++c.pr ++⟨#[32,116,104,101,110,32]⟩ ++t.pr ++⟨#[32,101,108,115,101,32]⟩ ++e.pr
def Ex.put (e:Ex) (want:Int):ByteArray:=Kv (decide (BB e.op < want)) e.pr
theorem Bz (e:Ex):e.put 0=e.pr:=by
 have:=CG e.op
 rw [Ex.put,Kv,decide_eq_false (by omega)]
 rfl
def Ex.fit (w:World):Ex→Prop
 | .int _ n=>0≤n∧n≤9223372036854775807
 | .text _ s=>s.size≤32
 | .bool .. =>True
 | .set _ a n c ss=>Bd w a n c ss∧n≤64∧∀ x∈ss,x.size≤32
 | .name _ s=>s.size≤32
 | .attr .. =>False
 | .lett .. =>False
 | .un _ op k=>(8≤op∧op≤10)∧k.fit w
 | .bin _ op l r=>(11≤op∧op≤26)∧l.fit w∧r.fit w
 | .ite _ c t e=>c.fit w∧t.fit w∧e.fit w
theorem Ex.fit_below {w w':World}{B:Nat}(a:Below B w w')(b:w.heap.size≤B):∀ (e:Ex),e.fit w→e.fit w'
 | .int ..,h=>h
 | .text ..,h=>h
 | .bool ..,h=>h
 | .set ..,h=>⟨h.1.below a b,h.2⟩
 | .name ..,h=>h
 | .attr ..,h=>h
 | .lett ..,h=>h
 | .un _ _ k,h=>⟨h.1,k.fit_below a b h.2⟩
 | .bin _ _ l r,h=>⟨h.1,l.fit_below a b h.2.1,r.fit_below a b h.2.2⟩
 | .ite _ c t e,h=>⟨c.fit_below a b h.1,t.fit_below a b h.2.1,e.fit_below a b h.2.2⟩
theorem Ex.pr_size {w:World} :∀ (e:Ex),e.fit w→e.pr.size≤4000 * e.cnt
 | .int _ n,h=>by
  have:=Ee (n:=n.toNat) (by have:=h.2;omega)
  simp only [Ex.pr,Ex.cnt]
  omega
 | .text _ s,h=>by
  have h1:s.size≤32:=h
  have e:(⟨#[34]⟩:ByteArray).size=1:=rfl
  simp only [Ex.pr,Ex.cnt,ByteArray.size_append]
  omega
 | .bool _ b,_=>by
  have e1:(⟨#[116,114,117,101]⟩:ByteArray).size=4:=rfl
  have e2:(⟨#[102,97,108,115,101]⟩:ByteArray).size=5:=rfl
  cases b <;> simp only [Ex.pr,Ex.cnt,if_true,Bool.false_eq_true,if_false] <;> omega
 | .set _ _ n _ ss,h=>by
  have h1:=EC true ss h.2.2
  have h2:=h.1.len
  have h3:=h.2.1
  have e1:(⟨#[123]⟩:ByteArray).size=1:=rfl
  have e2:(⟨#[125]⟩:ByteArray).size=1:=rfl
  simp only [Ex.pr,Ex.cnt,JU,ByteArray.size_append]
  omega
 | .name _ s,h=>by
  have h1:s.size≤32:=h
  simp only [Ex.pr,Ex.cnt]
  omega
 | .attr ..,h=>absurd h id
 | .lett ..,h=>absurd h id
 | .un _ op k,h=>by
  have h1:=k.pr_size h.2
  have a:=CP (decide (BB k.op < 7)) k.pr
  have d:=CP (decide (BB k.op < 3)) k.pr
  have e1:(⟨#[45]⟩:ByteArray).size=1:=rfl
  have e2:(⟨#[110,111,116,32]⟩:ByteArray).size=4:=rfl
  have e3:(⟨#[115,105,122,101,40]⟩:ByteArray).size=5:=rfl
  have e4:(⟨#[41]⟩:ByteArray).size=1:=rfl
  simp only [Ex.pr,Ex.cnt]
  split
  ·simp only [ByteArray.size_append];omega
  ·split <;> simp only [ByteArray.size_append] <;> omega
 | .bin _ op l r,h=>by
  have h1:=l.pr_size h.2.1
  have h2:=r.pr_size h.2.2
  have a:=CP (decide (BB l.op < Jt op)) l.pr
  have d:=CP (decide (BB r.op < BB op+1)) r.pr
  have e1:(⟨#[32]⟩:ByteArray).size=1:=rfl
  have e2:=BI op
  simp only [Ex.pr,Ex.cnt,ByteArray.size_append]
  omega
 | .ite _ c t e,h=>by
  have h1:=c.pr_size h.1
  have h2:=t.pr_size h.2.1
  have h3:=e.pr_size h.2.2
  have e1:(⟨#[105,102,32]⟩:ByteArray).size=3:=rfl
  have e2:(⟨#[32,116,104,101,110,32]⟩:ByteArray).size=6:=rfl
  have e3:(⟨#[32,101,108,115,101,32]⟩:ByteArray).size=6:=rfl
  simp only [Ex.pr,Ex.cnt,ByteArray.size_append]
  omega
theorem Ex.put_size {w:World}(e:Ex)(h:e.fit w)(a:Int):(e.put a).size≤4000 * e.cnt+2:=by
 have h1:=e.pr_size h
 have h2:=CP (decide (BB e.op < a)) e.pr
 rw [Ex.put]
 omega
inductive BZ (N:List Nd):Nat→Ex→Prop
 | int {i:Nat} {x:Nd} (h:N[i]? =some x) (ho:x.op=1) (hk:x.kids= []):BZ N i (.int i x.num)
 | text {i:Nat} {x:Nd} (h:N[i]? =some x) (ho:x.op=2) (hk:x.kids= []):BZ N i (.text i x.text)
 | bool {i:Nat} {x:Nd} (h:N[i]? =some x) (ho:x.op=3) (hk:x.kids= []):BZ N i (.bool i (decide (x.num=1)))
 | set {i:Nat} {x:Nd} (h:N[i]? =some x) (ho:x.op=4) (hk:x.kids= []) (a:Option Addr) (n c:Nat):BZ N i (.set i a n c x.names)
 | name {i:Nat} {x:Nd} (h:N[i]? =some x) (ho:x.op=5) (hk:x.kids= []):BZ N i (.name i x.text)
 | attr {i:Nat} {x:Nd} (h:N[i]? =some x) (ho:x.op=6) (hk:x.kids= []):BZ N i (.attr i x.num)
 | lett {i:Nat} {x:Nd} (h:N[i]? =some x) (ho:x.op=7) (hk:x.kids= []):BZ N i (.lett i x.num)
 | un {i k:Nat} {x:Nd} {e:Ex} (h:N[i]? =some x) (ho: 8≤x.op∧x.op≤10) (hk:x.kids= [(k:Int)]) (hi:k < i) (t:BZ N k e):BZ N i (.un i x.op e)
 | bin {i k l:Nat} {x:Nd} {e f:Ex} (h:N[i]? =some x) (ho: 11≤x.op∧x.op≤26) (hk:x.kids= [(k:Int),(l:Int)]) (hi:k < i∧l < i) (t:BZ N k e) (u:BZ N l f):BZ N i (.bin i x.op e f)
 | ite {i k l m:Nat} {x:Nd} {e f g:Ex} (h:N[i]? =some x) (ho:x.op=27) (hk:x.kids= [(k:Int),(l:Int),(m:Int)]) (hi:k < i∧l < i∧m < i) (t:BZ N k e) (u:BZ N l f) (v:BZ N m g):BZ N i (.ite i e f g)
theorem BZ.lt {N:List Nd}{a:Nat}{e:Ex}(h:BZ N a e):a < N.length:=by
 cases h <;> exact (List.getElem?_eq_some_iff.1 (by assumption)).1
theorem BZ.op {N:List Nd}{a:Nat}{e:Ex}(h:BZ N a e):∃ x,N[a]? =some x∧x.op=e.op:=by
 cases h <;> exact ⟨_,by assumption,by first | assumption | rfl⟩
def DL (Es:List Ex):Nat:=(Es.map Ex.cnt).sum
theorem IR {N:List Nd}{a b:Nat}{v:List (Nat × Nat)}(h:Ay (N.map Nd.kids) a v b):∀ (Es:List Ex),Es.length=v.length→(∀ j,(h1:j < v.length)→(h2:j < Es.length)→BZ N v[j].1 Es[j])→a+DL Es=b:=by
 induction h with
 | nil a=>
  intro Es hl _
  have:Es= []:=List.eq_nil_of_length_eq_zero hl
  subst this
  simp [DL]
 | @cons a t b z v d w P F G=>
  intro Es hl C
  match Es,hl with
  | e ::Es,hl=>
   have he:BZ N t e:=C 0 (by simp) (by simp)
   have Q:=G Es (by simpa using hl) (fun j h1 h2=>C (j+1) (by simpa using h1) (by simpa using h2))
   have H:∃ x,N[t]? =some x∧x.kids=AH z:=by
    rw [List.getElem?_map] at w
    cases hx:N[t]? with
    | none=>rw [hx] at w;cases w
    | some x=>rw [hx] at w;exact ⟨x,rfl,Option.some.inj w⟩
   obtain ⟨x,hx,I⟩:=H
   have R:a+e.cnt=t+1:=by
    have A:∀ (q:List Ex) (r:List Nat),x.kids=r.map (fun (J:Nat)=>(J:Int))→q.length=r.length→(∀ j,(h1:j < r.length)→(h2:j < q.length)→BZ N r[j] q[j])→a+DL q=t:=by
     intro q r K L M
     have e1:z.map (fun p=>p.1)=r:=by
      have:=I.symm.trans K
      rw [AH] at this
      have h2:=congrArg (List.map Int.toNat) this
      simpa [List.map_map,Function.comp_def] using h2
     have e2:z.length=q.length:=by rw [L,← e1,List.length_map]
     exact (F q e2.symm (fun j h1 h2=>by
      have:=M j (by rw [← e1,List.length_map];exact h1) h2
      have e3:r[j]'(by rw [← e1,List.length_map];exact h1)=z[j].1:=by simp [← e1]
      rw [← e3]
      exact this))
    have i:∀ {y:Nd},N[t]? =some y→y=x:=fun h=>Option.some.inj (h.symm.trans hx)
    have s:x.kids= []→a=t:=fun h0=>by
     have:=A [] [] (by rw [h0];rfl) rfl (fun j h=>absurd h (by simp))
     simpa [DL] using this
    cases he with
    | int h o d=>rw [s (i h ▸ d)];rfl
    | text h o d=>rw [s (i h ▸ d)];rfl
    | bool h o d=>rw [s (i h ▸ d)];rfl
    | set h o d a n c=>rw [s (i h ▸ d)];rfl
    | name h o d=>rw [s (i h ▸ d)];rfl
    | attr h o d=>rw [s (i h ▸ d)];rfl
    | lett h o d=>rw [s (i h ▸ d)];rfl
    | @un D k y e h o d E u=>
     have:=A [e] [k] (by rw [← i h,d];rfl) rfl (fun j h1 h2=>by
      have:j=0:=by simpa using h1
      subst this
      exact u)
     simp [DL] at this
     simp only [Ex.cnt]
     omega
    | @bin D k l y e f h o d E u B=>
     have:=A [e,f] [k,l] (by rw [← i h,d];rfl) rfl (fun j h1 h2=>by
      match j,h1 with
      | 0,_=>exact u
      | 1,_=>exact B)
     simp [DL] at this
     simp only [Ex.cnt]
     omega
    | @ite D k l m y e f g h o d E u B O=>
     have:=A [e,f,g] [k,l,m] (by rw [← i h,d];rfl) rfl (fun j h1 h2=>by
      match j,h1 with
      | 0,_=>exact u
      | 1,_=>exact B
      | 2,_=>exact O)
     simp [DL] at this
     simp only [Ex.cnt]
     omega
   have e5:DL (e ::Es)=e.cnt+DL Es:=by simp [DL]
   rw [e5]
   omega
set_option maxHeartbeats 3200000
theorem Ct (s:ByteArray)(k:Nat)(h:k < s.size)(a:(s[k].toNat:Int)=32∨(s[k].toNat:Int)=10∨(s[k].toNat:Int)=9):Be false ((Ad s).drop k)=Be false ((Ad s).drop (k+1)):=by
 rw [AD s k h,Be,if_pos]
 rcases a with h | h | h
 ·exact .inl (UInt8.toNat_inj.1 (by have:(32 :UInt8).toNat=32:=rfl;omega))
 ·exact .inr (.inl (UInt8.toNat_inj.1 (by have:(10 :UInt8).toNat=10:=rfl;omega)))
 ·exact .inr (.inr (UInt8.toNat_inj.1 (by have:(9 :UInt8).toNat=9:=rfl;omega)))
theorem Md {c:UInt8}(h1: ¬ (c.toNat:Int)=32)(h2: ¬ (c.toNat:Int)=10)(h3: ¬ (c.toNat:Int)=9): ¬ (c=32∨c=10∨c=9):=by
 rintro (h | h | h)
 ·subst h;exact h1 rfl
 ·subst h;exact h2 rfl
 ·subst h;exact h3 rfl
theorem Fb (s:ByteArray)(k:Nat)(h:k < s.size)(a:(s[k].toNat:Int)=35):Be false ((Ad s).drop k)=Be true ((Ad s).drop k):=by
 have e:s[k]=35:=UInt8.toNat_inj.1 (by have:(35 :UInt8).toNat=35:=rfl;omega)
 rw [AD s k h,e]
 generalize (Ad s).drop (k+1)=r
 simp [Be]
theorem Ed (s:ByteArray)(k:Nat)(h:k < s.size)(h1: ¬ (s[k].toNat:Int)=32)(h2: ¬ (s[k].toNat:Int)=10)(h3: ¬ (s[k].toNat:Int)=9)(h4: ¬ (s[k].toNat:Int)=35):Be false ((Ad s).drop k)=(Ad s).drop k:=by
 rw [AD s k h,Be,if_neg (Md h1 h2 h3),if_neg (fun e=>h4 (by rw [e];rfl))]
theorem Gx (s:ByteArray)(k:Nat)(h:k < s.size)(h1: ¬ (s[k].toNat:Int)=10):Be true ((Ad s).drop k)=Be true ((Ad s).drop (k+1)):=by
 rw [AD s k h,Be,if_neg (fun e=>h1 (by rw [e];rfl))]
theorem g0 (s:ByteArray)(k:Nat)(h:k < s.size)(h1:(s[k].toNat:Int)=10):Be true ((Ad s).drop k)=Be false ((Ad s).drop k):=by
 have e:s[k]=10:=UInt8.toNat_inj.1 (by have:(10 :UInt8).toNat=10:=rfl;omega)
 rw [AD s k h,e]
 generalize (Ad s).drop (k+1)=r
 simp [Be]
theorem DG (a:Bool)(s:ByteArray)(k:Nat)(h:s.size≤k):Be a ((Ad s).drop k)= []:=by
 rw [List.drop_of_length_le (by rw [Ag];exact h)]
 cases a <;> rfl
theorem EG (s:ByteArray)(j:Nat)(w:World)(hs:s.size≤maxLen)(o:j≤s.size):
  Calls Tryz.prog 10 #[.string s,.int .i64 j] w fun e w'=>(∃ k:Nat,e= .returned (.int .i64 k)∧j≤k∧k≤s.size∧Be false ((Ad s).drop j)=(Ad s).drop k∧Be false ((Ad s).drop k)=(Ad s).drop k)∧w'=w:=by
 unfold maxLen at hs
 go_enter Tryz.func10,Tryz.ntmps10
 go_wp2
 go_loop [1] (fun c=>∃ k:Nat,j≤k∧k≤s.size∧c= .int .i64 k∧Be false ((Ad s).drop j)=Be false ((Ad s).drop k)) (fun c=>s.size - (intOf c).toNat)
 case atStart=>exact ⟨j,Nat.le_refl _,o,rfl,rfl⟩
 case round=>
  obtain ⟨k,l,h,rfl,he⟩:=hrel
  have d:=Ab he
  clear he
  by_cases f:k < s.size
  ·have p:(k:Int) < (s.size:Int):=by omega
   by_cases h1:(s[k].toNat:Int)=32
   ·have b:=Ab (Ct s k f (.inl h1))
    go_wp2
    go_round
    case rel=>exact ⟨k+1,by omega,by omega,by go_num,by rw [Aa d,Aa b]⟩
    case measure=>simp [intOf];omega
   by_cases h2:(s[k].toNat:Int)=10
   ·have b:=Ab (Ct s k f (.inr (.inl h2)))
    go_wp2
    go_round
    case rel=>exact ⟨k+1,by omega,by omega,by go_num,by rw [Aa d,Aa b]⟩
    case measure=>simp [intOf];omega
   by_cases h3:(s[k].toNat:Int)=9
   ·have b:=Ab (Ct s k f (.inr (.inr h3)))
    go_wp2
    go_round
    case rel=>exact ⟨k+1,by omega,by omega,by go_num,by rw [Aa d,Aa b]⟩
    case measure=>simp [intOf];omega
   by_cases h4:(s[k].toNat:Int)=35
   ·have b:=Ab (Fb s k f h4)
    have Hi:=Ab (Gx s k f h2)
    go_wp2
    go_loop [1] (fun c=>∃ a:Nat,k≤a∧a≤s.size∧c= .int .i64 a∧Be true ((Ad s).drop k)=Be true ((Ad s).drop a)) (fun c=>s.size - (intOf c).toNat)
    case atStart=>exact ⟨k,Nat.le_refl _,h,rfl,rfl⟩
    case round=>
     obtain ⟨a,r,t,rfl,m⟩:=hrel
     have i:=Ab m
     clear m
     by_cases n:a < s.size
     ·have q:(a:Int) < (s.size:Int):=by omega
      by_cases h10:(s[a].toNat:Int)=10
      ·have g:=Ab (g0 s a n h10)
       have u:a≠k:=fun e=>by subst e;omega
       go_wp2
       go_round
       case rel=>exact ⟨a,by omega,by omega,by go_num,by rw [Aa d,Aa b,Aa i,Aa g]⟩
       case measure=>simp [intOf];omega
      ·have g:=Ab (Gx s a n h10)
       go_wp2
       go_round
       case rel=>exact ⟨a+1,by omega,by omega,by go_num,by rw [Aa i,Aa g]⟩
       case measure=>simp [intOf];omega
     ·have q: ¬ ((a:Int) < (s.size:Int)):=by omega
      have g:=Ab ((DG true s a (by omega)).trans (DG false s a (by omega)).symm)
      go_wp2
      go_round
      case rel=>exact ⟨a,by omega,by omega,by go_num,by rw [Aa d,Aa b,Aa i,Aa g]⟩
      case measure=>simp [intOf];omega
   ·have b:=Ab (Ed s k f h1 h2 h3 h4)
    have e1:=beq_eq_false_iff_ne.2 h1
    have e2:=beq_eq_false_iff_ne.2 h2
    have e3:=beq_eq_false_iff_ne.2 h3
    have e4:=beq_eq_false_iff_ne.2 h4
    go_wp2
    go_ret
    exact ⟨⟨k,rfl,l,h,by rw [Aa d,Aa b],Aa b⟩,rfl⟩
  ·have p: ¬ ((k:Int) < (s.size:Int)):=by omega
   have b:=Ab (DG false s k (by omega))
   go_wp2
   go_ret
   have e:(Ad s).drop k= []:=List.drop_of_length_le (by rw [Ag];omega)
   exact ⟨⟨k,rfl,l,h,by rw [Aa d,Aa b,e],by rw [Aa b,e]⟩,rfl⟩
end Go.Proofs.YtcpdodmoheebaaaGreatDoor
