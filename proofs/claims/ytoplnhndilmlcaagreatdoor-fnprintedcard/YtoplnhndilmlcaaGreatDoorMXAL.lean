/-
  StepC, GA, GB, Is. Own work.
-/
import Derived.Test.YtoplnhndilmlcaaGreatDoorMXAB
import Derived.Deep.RegionHeld3
import Derived.Test.YtoplnhndilmlcaaGreatDoorRows
import Derived.WalkKit
import Derived.LaidEql
import Derived.Stop.Asserts
import Derived.RowKitTokens
namespace Go.Proofs.YtoplnhndilmlcaaGreatDoor
open Go.RowKit
set_option linter.unusedVariables false
theorem Im {P:Program}{d:Array Oper}{b:Oper}{a:Act}{w:World}{K:Act→World→Prop}{i:Exit→Act→World→Prop}{j:Prop}(k:b.guard=none)(f:FuncId)(c:Func)(hf:P.funcs[f]? =some c)(l:(c.name== "runtime.NumGoroutine")=false)(g:c.body.isNone=false)(x:Operand)(m:Array TypeId)
  (n:b.op= .call { callee:= .value (.func f),args:=#[x],argTypes:=m })(v0:Value)(hx:a.eval x=v0)
  (R:Value→World→Prop)(hc:Calls P f #[v0] w fun e w'=>∃ v,e= .returned v∧R v w')(h:∀ v w',R v w'→K (a.put b.dst v) w'):
  if Region.wanted b (yielded d a.tmps)=true then Oper.wp P b a w K i else j:=by
 have o:Region.wanted b (yielded d a.tmps)=true:=by simp[Region.wanted,k]
 rw[if_pos o];unfold Oper.wp;have p:(execOp a.eval b).run P w= .ok (.enter f #[v0]) w:=by
  subst hx;have h1:c.name≠ "runtime.NumGoroutine" :=by simpa using l
  have h2:(callFunc f #[a.eval x]).run P w= .ok (.enter f #[a.eval x]) w:=by
   have h3:c.body≠none:=fun e=>by rw[e] at g;cases g
   simp[callFunc,hf,h1,h3]
  simpa[execOp,n,resolve,invoke,Act.eval,Result.andThen,go_sem] using h2
 rw[p,Oper.upon_enter];refine hc.mono ?_;rintro e w' ⟨v,rfl,q⟩;exact h v w' q
theorem D0 {P:Program}{d:Array Oper}{b:Oper}{a:Act}{w:World}{K:Act→World→Prop}{i:Exit→Act→World→Prop}{j:Prop}(k:b.guard=none)(f:FuncId)(c:Func)(hf:P.funcs[f]? =some c)(l:(c.name== "runtime.NumGoroutine")=false)(g:c.body.isNone=false)(x y:Operand)(m:Array TypeId)
  (n:b.op= .call { callee:= .value (.func f),args:=#[x,y],argTypes:=m })(v0 v1:Value)(hx:a.eval x=v0)(hy:a.eval y=v1)
  (R:Value→World→Prop)(hc:Calls P f #[v0,v1] w fun e w'=>∃ v,e= .returned v∧R v w')(h:∀ v w',R v w'→K (a.put b.dst v) w'):
  if Region.wanted b (yielded d a.tmps)=true then Oper.wp P b a w K i else j:=by
 have o:Region.wanted b (yielded d a.tmps)=true:=by simp[Region.wanted,k]
 rw[if_pos o];unfold Oper.wp;have p:(execOp a.eval b).run P w= .ok (.enter f #[v0,v1]) w:=by
  subst hx hy;have h1:c.name≠ "runtime.NumGoroutine" :=by simpa using l
  have h2:(callFunc f #[a.eval x,a.eval y]).run P w= .ok (.enter f #[a.eval x,a.eval y]) w:=by
   have h3:c.body≠none:=fun e=>by rw[e] at g;cases g
   simp[callFunc,hf,h1,h3]
  simpa[execOp,n,resolve,invoke,Act.eval,Result.andThen,go_sem] using h2
 rw[p,Oper.upon_enter];refine hc.mono ?_;rintro e w' ⟨v,rfl,q⟩;exact h v w' q
def see (s:List UInt8) (t:Ae):Bool:=(decide (t.kind=4) || decide (t.kind=5)) && decide (t.text=Bg s)
def Aw (s:List UInt8):List Ae→Bool
 | []=>false
 | t ::_=>see s t
theorem WJ {a b:List UInt8}(h:Bg a=Bg b):a=b:=by
 rw[← Fb a,← Fb b,h]
theorem Am {s s':List UInt8}{t:Ae}(h:see s t=true)(a:s≠s'):see s' t=false:=by
 rw[see,Bool.and_eq_true,decide_eq_true_eq] at h;rw[see,h.2];have:decide (Bg s=Bg s')=false:=decide_eq_false (fun e=>a (WJ e));rw[this,Bool.and_false]
theorem Lm {s:List UInt8}{t:Ae}(h:see s t=true):t.kind=4∨t.kind=5:=by
 rw[see,Bool.and_eq_true,Bool.or_eq_true,decide_eq_true_eq,decide_eq_true_eq] at h;exact h.1
theorem WK {s:List UInt8}{t:Ae}(h:see s t=true):t.text=Bg s:=by
 rw[see,Bool.and_eq_true,decide_eq_true_eq] at h;exact h.2
def Fu:List UInt8:= [108,101,116]
def Bk:List UInt8:= [119,104,101,110]
def AE:List UInt8:= [101,108,115,101]
def Gg:List UInt8:= [100,101,110,121]
def CL:List UInt8:= [103,114,97,110,116]
def Gm:List UInt8:= [105,102]
def Cm:List UInt8:= [116,104,101,110]
def FE:List UInt8:= [110,111,116]
def Su:List UInt8:= [97,110,100]
def kOr:List UInt8:= [111,114]
def kIn:List UInt8:= [105,110]
def Y7:List UInt8:= [119,105,116,104,105,110]
def Dp:List UInt8:= [115,105,122,101]
def Ca:List UInt8:= [116,114,117,101]
def Bu:List UInt8:= [102,97,108,115,101]
def Ce:List UInt8:= [61,62]
def Qf:List UInt8:= [61]
def Ax:List UInt8:= [59]
def Cs:List UInt8:= [45]
def AV:List UInt8:= [40]
def Br:List UInt8:= [41]
def Dq:List UInt8:= [123]
def BT:List UInt8:= [125]
def Dr:List UInt8:= [44]
def Cn:Nat→List (List UInt8 × Int)
 | 1=> [(kOr,26)]
 | 2=> [(Su,25)]
 | 4=> [([61,61],19),([33,61],20),([60],21),([60,61],22),(kIn,23),(Y7,24)]
 | 5=> [([43],11),(Cs,12),([124],16),([92],18)]
 | 6=> [([42],13),([47],14),([37],15),([38],17)]
 | _=> []
def Co (k:Nat) (t:Ae):Option Int:=((Cn k).find? (fun p=>see p.1 t)).map Prod.snd
def OF (k:Nat):List Ae→Option Int
 | []=>none
 | t ::_=>Co k t
theorem Ln {k:Nat}{t:Ae}{op:Int}(h:Co k t=some op):∃ s,(s,op)∈Cn k∧see s t=true:=by
 rw[Co,Option.map_eq_some_iff] at h;obtain ⟨⟨s,a⟩,h1,h2⟩:=h;have h3:=List.mem_of_find?_eq_some h1;have h4:=List.find?_some h1;exact ⟨s,by rw[← h2];exact h3,h4⟩
inductive Pt where
 | int (i:Nat) (n:Int)
 | text (i:Nat) (s:ByteArray)
 | bool (i:Nat) (b:Bool)
 | set (i:Nat) (ss:List ByteArray)
 | name (i:Nat) (s:ByteArray)
 | un (i:Nat) (op:Int) (k:Pt)
 | bin (i:Nat) (op:Int) (l r:Pt)
 | ite (i:Nat) (c t e:Pt)
def FT (t:Ae):Prop:=t.kind=2∧t.text≠Bg []
instance (t:Ae):Decidable (FT t):=inferInstanceAs (Decidable (_∧_))
def H7:List Ae→List ByteArray→List ByteArray × Bool × List Ae
 | [],a=>(a,false, [])
 | [t],a=>if FT t then (a ++ [t.text],true, []) else (a,false, [t])
 | t ::c ::q,a=>if FT t then (if see Dr c then H7 q (a ++ [t.text]) else (a ++ [t.text],true,c ::q)) else (a,false,t ::c ::q)
def FR (ts:List Ae):List ByteArray × Bool × List Ae:=if Aw BT ts then ([],true,ts) else H7 ts []
inductive PR where
 | ok (e:Pt) (r:List Ae)
 | bad (r:List Ae)
def PR.rest:PR→List Ae
 | .ok _ r=>r
 | .bad r=>r
inductive NT where
 | expr
 | chain (k:Nat)
 | more (k:Nat) (e:Pt)
 | opd (k:Nat)
 | neg
 | cmp
 | una
 | prim
 | encl
 | beh (s:List UInt8)
inductive D:NT→List Ae→PR→Prop
 | beh_no {s:List UInt8} {ts:List Ae} (h:Aw s ts=false):D (.beh s) ts (.bad ts)
 | beh {s:List UInt8} {t:Ae} {r:List Ae} {x:PR} (h:see s t=true) (d:D .expr r x):D (.beh s) (t ::r) x
 | expr_no {ts:List Ae} {x:PR} (h:Aw Gm ts=false) (d:D (.chain 1) ts x):D .expr ts x
 | expr_if1 {t:Ae} {r q:List Ae} (h:see Gm t=true) (d1:D (.beh Gm) (t ::r) (.bad q)):D .expr (t ::r) (.bad q)
 | expr_if2 {t:Ae} {r q p:List Ae} {a:Pt} (h:see Gm t=true) (d1:D (.beh Gm) (t ::r) (.ok a q)) (d2:D (.beh Cm) q (.bad p)):D .expr (t ::r) (.bad p)
 | expr_if3 {t:Ae} {r q p o:List Ae} {a b:Pt} (h:see Gm t=true) (d1:D (.beh Gm) (t ::r) (.ok a q)) (d2:D (.beh Cm) q (.ok b p)) (d3:D (.beh AE) p (.bad o)):D .expr (t ::r) (.bad o)
 | expr_if {t:Ae} {r q p o:List Ae} {a b c:Pt} (h:see Gm t=true) (d1:D (.beh Gm) (t ::r) (.ok a q)) (d2:D (.beh Cm) q (.ok b p)) (d3:D (.beh AE) p (.ok c o)):D .expr (t ::r) (.ok (.ite t.at_ a b c) o)
 | chain_bad {k:Nat} {ts r:List Ae} (d:D (.opd k) ts (.bad r)):D (.chain k) ts (.bad r)
 | chain {k:Nat} {ts r:List Ae} {e:Pt} {x:PR} (d:D (.opd k) ts (.ok e r)) (d2:D (.more k e) r x):D (.chain k) ts x
 | more_no {k:Nat} {e:Pt} {ts:List Ae} (h:OF k ts=none):D (.more k e) ts (.ok e ts)
 | more_bad {k:Nat} {e:Pt} {t:Ae} {r q:List Ae} {op:Int} (h:Co k t=some op) (d:D (.opd k) r (.bad q)):D (.more k e) (t ::r) (.bad q)
 | more {k:Nat} {e f:Pt} {t:Ae} {r q:List Ae} {op:Int} {x:PR} (h:Co k t=some op) (d:D (.opd k) r (.ok f q)) (d2:D (.more k (.bin t.at_ op e f)) q x):D (.more k e) (t ::r) x
 | opd1 {ts:List Ae} {x:PR} (d:D (.chain 2) ts x):D (.opd 1) ts x
 | opd2 {ts:List Ae} {x:PR} (d:D .neg ts x):D (.opd 2) ts x
 | opd4 {ts:List Ae} {x:PR} (d:D (.chain 5) ts x):D (.opd 4) ts x
 | opd5 {ts:List Ae} {x:PR} (d:D (.chain 6) ts x):D (.opd 5) ts x
 | opd6 {ts:List Ae} {x:PR} (d:D .una ts x):D (.opd 6) ts x
 | neg_no {ts:List Ae} {x:PR} (h:Aw FE ts=false) (d:D .cmp ts x):D .neg ts x
 | neg_bad {t:Ae} {r q:List Ae} (h:see FE t=true) (d:D .neg r (.bad q)):D .neg (t ::r) (.bad q)
 | neg {t:Ae} {r q:List Ae} {e:Pt} (h:see FE t=true) (d:D .neg r (.ok e q)):D .neg (t ::r) (.ok (.un t.at_ 9 e) q)
 | cmp_bad {ts r:List Ae} (d:D (.opd 4) ts (.bad r)):D .cmp ts (.bad r)
 | cmp_one {ts r:List Ae} {e:Pt} (d:D (.opd 4) ts (.ok e r)) (h:OF 4 r=none):D .cmp ts (.ok e r)
 | cmp_two_bad {ts r q:List Ae} {e:Pt} {t:Ae} {op:Int} (d:D (.opd 4) ts (.ok e (t ::r))) (h:Co 4 t=some op) (d2:D (.opd 4) r (.bad q)):D .cmp ts (.bad q)
 | cmp_two {ts r q:List Ae} {e f:Pt} {t:Ae} {op:Int} (d:D (.opd 4) ts (.ok e (t ::r))) (h:Co 4 t=some op) (d2:D (.opd 4) r (.ok f q)):D .cmp ts (.ok (.bin t.at_ op e f) q)
 | una_no {ts:List Ae} {x:PR} (h:Aw Cs ts=false) (d:D .prim ts x):D .una ts x
 | una_bad {t:Ae} {r q:List Ae} (h:see Cs t=true) (d:D .una r (.bad q)):D .una (t ::r) (.bad q)
 | una {t:Ae} {r q:List Ae} {e:Pt} (h:see Cs t=true) (d:D .una r (.ok e q)):D .una (t ::r) (.ok (.un t.at_ 8 e) q)
 | num {t:Ae} {r:List Ae} (h:t.kind=1):D .prim (t ::r) (.ok (.int t.at_ t.num) r)
 | text {t:Ae} {r:List Ae} (h:t.kind=2):D .prim (t ::r) (.ok (.text t.at_ t.text) r)
 | name {t:Ae} {r:List Ae} (h:t.kind=3):D .prim (t ::r) (.ok (.name t.at_ t.text) r)
 | tru {t:Ae} {r:List Ae} (h:see Ca t=true):D .prim (t ::r) (.ok (.bool t.at_ true) r)
 | fls {t:Ae} {r:List Ae} (h:see Bu t=true):D .prim (t ::r) (.ok (.bool t.at_ false) r)
 | size_bad {t:Ae} {r q:List Ae} (h:see Dp t=true) (d:D .encl r (.bad q)):D .prim (t ::r) (.bad q)
 | size {t:Ae} {r q:List Ae} {e:Pt} (h:see Dp t=true) (d:D .encl r (.ok e q)):D .prim (t ::r) (.ok (.un t.at_ 10 e) q)
 | par {t:Ae} {r:List Ae} {x:PR} (h:see AV t=true) (d:D .encl (t ::r) x):D .prim (t ::r) x
 | set_bad {t:Ae} {r q:List Ae} {ss:List ByteArray} (h:see Dq t=true) (hs:FR r=(ss,false,q)):D .prim (t ::r) (.bad q)
 | set_end {t:Ae} {r q:List Ae} {ss:List ByteArray} (h:see Dq t=true) (hs:FR r=(ss,true,q)) (hq:Aw BT q=false):D .prim (t ::r) (.bad q)
 | set {t u:Ae} {r q:List Ae} {ss:List ByteArray} (h:see Dq t=true) (hs:FR r=(ss,true,u ::q)) (hq:see BT u=true):D .prim (t ::r) (.ok (.set t.at_ ss) q)
 | prim_nil:D .prim [] (.bad [])
 | prim_no {t:Ae} {r:List Ae} (h1:t.kind≠1) (h2:t.kind≠2) (h3:t.kind≠3) (h4:see Ca t=false) (h5:see Bu t=false) (h6:see Dp t=false) (h7:see AV t=false) (h8:see Dq t=false):D .prim (t ::r) (.bad (t ::r))
 | encl_bad {ts r:List Ae} (d:D (.beh AV) ts (.bad r)):D .encl ts (.bad r)
 | encl_end {ts r:List Ae} {e:Pt} (d:D (.beh AV) ts (.ok e r)) (h:Aw Br r=false):D .encl ts (.bad r)
 | encl {ts r:List Ae} {e:Pt} {t:Ae} (d:D (.beh AV) ts (.ok e (t ::r))) (h:see Br t=true):D .encl ts (.ok e r)
theorem Ud:∀ (b:List Ae) (a:List ByteArray),∃ c,b=c ++(H7 b a).2.2
 | [],a=>⟨[],by simp[H7]⟩
 | [t],a=>by
  rw[H7];split
  ·exact ⟨[t],rfl⟩
  ·exact ⟨[],rfl⟩
 | t ::c ::q,a=>by
  rw[H7];split
  ·split
   ·obtain ⟨d,f⟩:=Ud q (a ++ [t.text]);exact ⟨t ::c ::d,by rw[List.cons_append,List.cons_append,← f]⟩
   ·exact ⟨[t],rfl⟩
  ·exact ⟨[],rfl⟩
theorem II (a:List Ae):∃ c,a=c ++(FR a).2.2:=by
 rw[FR];split
 ·exact ⟨[],rfl⟩
 ·exact Ud a []
def NT.slow:NT→Bool
 | .more _ _=>true
 | _=>false
theorem D.suf {nt:NT}{l:List Ae}{x:PR}(h:D nt l x):∃ c,l=c ++x.rest∧(∀ e r,x= .ok e r→nt.slow=false→c≠ []):=by
 induction h with
 | beh_no=>exact ⟨[],rfl,fun e r h=>by cases h⟩
 | @beh s t r x h d a=>obtain ⟨c,hc,_⟩:=a;exact ⟨t ::c,by rw[List.cons_append,← hc],fun _ _ _ _=>by simp⟩
 | expr_no h d a=>obtain ⟨c,hc,h2⟩:=a;exact ⟨c,hc,fun e r h3 _=>h2 e r h3 rfl⟩
 | expr_if1 h d a=>obtain ⟨c,hc,_⟩:=a;exact ⟨c,hc,fun _ _ h=>by cases h⟩
 | expr_if2 h d1 d2 g i=>obtain ⟨c,hc,_⟩:=g;obtain ⟨d,j,_⟩:=i;exact ⟨c ++d,by rw[List.append_assoc,← j];exact hc,fun _ _ h=>by cases h⟩
 | expr_if3 h d1 d2 d3 g i m=>obtain ⟨c,hc,_⟩:=g;obtain ⟨d,j,_⟩:=i;obtain ⟨e,he,_⟩:=m;dsimp only[PR.rest] at *;exact ⟨c ++(d ++e),by rw[List.append_assoc,List.append_assoc,← he,← j];exact hc,fun _ _ h=>by cases h⟩
 | expr_if h d1 d2 d3 g i m=>obtain ⟨c,hc,n⟩:=g;obtain ⟨d,j,_⟩:=i;obtain ⟨e,he,_⟩:=m;dsimp only[PR.rest] at *;exact ⟨c ++(d ++e),by rw[List.append_assoc,List.append_assoc,← he,← j];exact hc,fun _ _ _ _ h=>n _ _ rfl rfl (List.append_eq_nil_iff.1 h).1⟩
 | chain_bad d a=>obtain ⟨c,hc,_⟩:=a;exact ⟨c,hc,fun _ _ h=>by cases h⟩
 | chain d d2 g i=>obtain ⟨c,hc,n⟩:=g;obtain ⟨d,j,_⟩:=i;exact ⟨c ++d,by rw[List.append_assoc,← j];exact hc,fun _ _ _ _ h=>n _ _ rfl rfl (List.append_eq_nil_iff.1 h).1⟩
 | more_no=>exact ⟨[],rfl,fun _ _ _ h=>by cases h⟩
 | @more_bad k e t r q op h d a=>obtain ⟨c,hc,_⟩:=a;exact ⟨t ::c,by rw[List.cons_append,← hc],fun _ _ h=>by cases h⟩
 | @more k e f t r q op x h d d2 g i=>obtain ⟨c,hc,_⟩:=g;obtain ⟨d,j,_⟩:=i;exact ⟨t ::(c ++d),by rw[List.cons_append,List.append_assoc,← j];exact congrArg _ hc,fun _ _ _ h=>by cases h⟩
 | opd1 d a=>obtain ⟨c,hc,h2⟩:=a;exact ⟨c,hc,fun e r h3 _=>h2 e r h3 rfl⟩
 | opd2 d a=>obtain ⟨c,hc,h2⟩:=a;exact ⟨c,hc,fun e r h3 _=>h2 e r h3 rfl⟩
 | opd4 d a=>obtain ⟨c,hc,h2⟩:=a;exact ⟨c,hc,fun e r h3 _=>h2 e r h3 rfl⟩
 | opd5 d a=>obtain ⟨c,hc,h2⟩:=a;exact ⟨c,hc,fun e r h3 _=>h2 e r h3 rfl⟩
 | opd6 d a=>obtain ⟨c,hc,h2⟩:=a;exact ⟨c,hc,fun e r h3 _=>h2 e r h3 rfl⟩
 | neg_no h d a=>obtain ⟨c,hc,h2⟩:=a;exact ⟨c,hc,fun e r h3 _=>h2 e r h3 rfl⟩
 | @neg_bad t r q h d a=>obtain ⟨c,hc,_⟩:=a;exact ⟨t ::c,by rw[List.cons_append,← hc],fun _ _ h=>by cases h⟩
 | @neg t r q e h d a=>obtain ⟨c,hc,_⟩:=a;exact ⟨t ::c,by rw[List.cons_append];exact congrArg _ hc,fun _ _ _ _=>by simp⟩
 | cmp_bad d a=>obtain ⟨c,hc,_⟩:=a;exact ⟨c,hc,fun _ _ h=>by cases h⟩
 | cmp_one d h a=>obtain ⟨c,hc,h2⟩:=a;exact ⟨c,hc,fun _ _ _ _=>h2 _ _ rfl rfl⟩
 | @cmp_two_bad l r q e t op d h d2 g i=>obtain ⟨c,hc,_⟩:=g;obtain ⟨b,o,_⟩:=i;exact ⟨c ++t ::b,by rw[List.append_assoc,List.cons_append,← o];exact hc,fun _ _ h=>by cases h⟩
 | @cmp_two l r q e f t op d h d2 g i=>obtain ⟨c,hc,_⟩:=g;obtain ⟨b,o,_⟩:=i;exact ⟨c ++t ::b,by rw[List.append_assoc,List.cons_append];exact hc.trans (by rw[show r=b ++_ from o];rfl),fun _ _ _ _ h=>by simp at h⟩
 | una_no h d a=>obtain ⟨c,hc,h2⟩:=a;exact ⟨c,hc,fun e r h3 _=>h2 e r h3 rfl⟩
 | @una_bad t r q h d a=>obtain ⟨c,hc,_⟩:=a;exact ⟨t ::c,by rw[List.cons_append,← hc],fun _ _ h=>by cases h⟩
 | @una t r q e h d a=>obtain ⟨c,hc,_⟩:=a;exact ⟨t ::c,by rw[List.cons_append];exact congrArg _ hc,fun _ _ _ _=>by simp⟩
 | @num t r h=>exact ⟨[t],rfl,fun _ _ _ _=>by simp⟩
 | @text t r h=>exact ⟨[t],rfl,fun _ _ _ _=>by simp⟩
 | @name t r h=>exact ⟨[t],rfl,fun _ _ _ _=>by simp⟩
 | @tru t r h=>exact ⟨[t],rfl,fun _ _ _ _=>by simp⟩
 | @fls t r h=>exact ⟨[t],rfl,fun _ _ _ _=>by simp⟩
 | @size_bad t r q h d a=>obtain ⟨c,hc,_⟩:=a;exact ⟨t ::c,by rw[List.cons_append,← hc],fun _ _ h=>by cases h⟩
 | @size t r q e h d a=>obtain ⟨c,hc,_⟩:=a;exact ⟨t ::c,by rw[List.cons_append];exact congrArg _ hc,fun _ _ _ _=>by simp⟩
 | par h d a=>obtain ⟨c,hc,h2⟩:=a;exact ⟨c,hc,fun e r h3 _=>h2 e r h3 rfl⟩
 | @set_bad t r q p h hs=>obtain ⟨c,hc⟩:=II r;rw[hs] at hc;exact ⟨t ::c,by rw[List.cons_append];exact congrArg _ hc,fun _ _ h=>by cases h⟩
 | @set_end t r q p h hs hq=>obtain ⟨c,hc⟩:=II r;rw[hs] at hc;exact ⟨t ::c,by rw[List.cons_append];exact congrArg _ hc,fun _ _ h=>by cases h⟩
 | @set t u r q p h hs hq=>obtain ⟨c,hc⟩:=II r;rw[hs] at hc;exact ⟨t ::(c ++ [u]),by rw[List.cons_append,List.append_assoc];exact congrArg _ hc,fun _ _ _ _=>by simp⟩
 | prim_nil=>exact ⟨[],rfl,fun _ _ h=>by cases h⟩
 | prim_no=>exact ⟨[],rfl,fun _ _ h=>by cases h⟩
 | encl_bad d a=>obtain ⟨c,hc,_⟩:=a;exact ⟨c,hc,fun _ _ h=>by cases h⟩
 | encl_end d h a=>obtain ⟨c,hc,_⟩:=a;exact ⟨c,hc,fun _ _ h=>by cases h⟩
 | @encl l r e t d h a=>obtain ⟨c,hc,_⟩:=a;exact ⟨c ++ [t],by rw[List.append_assoc];exact hc,fun _ _ _ _=>by simp⟩
theorem D.len {nt:NT}{a:List Ae}{x:PR}(h:D nt a x):x.rest.length≤a.length:=by
 obtain ⟨c,hc,_⟩:=h.suf;rw[hc,List.length_append];omega
theorem D.less {nt:NT}{a r:List Ae}{e:Pt}(h:D nt a (.ok e r))(hs:nt.slow=false):r.length < a.length:=by
 obtain ⟨c,hc,b⟩:=h.suf;have h1:=b e r rfl hs;have h2: 0 < c.length:=List.length_pos_iff.2 h1;rw[hc,List.length_append,PR.rest];omega
def NT.rank:NT→Nat
 | .beh _=>0 | .encl=>1 | .prim=>2 | .una=>3
 | .opd k=>if k=6 then 4 else if k=5 then 6 else if k=4 then 8 else if k=2 then 11 else 13
 | .chain k=>if k=6 then 5 else if k=5 then 7 else if k=2 then 12 else 14
 | .cmp=>9 | .neg=>10 | .expr=>15 | .more .. =>16
def NT.good:NT→Prop
 | .opd k=>k=1∨k=2∨k=4∨k=5∨k=6
 | .chain k=>k=1∨k=2∨k=5∨k=6
 | .more k _=>k=1∨k=2∨k=5∨k=6
 | _=>True
theorem D.total:∀ (n:Nat) (nt:NT) (g:List Ae),nt.good→g.length * 17+nt.rank≤n→∃ x,D nt g x:=by
 intro n
 induction n with
 | zero=>
  intro nt g j hm;cases nt with
  | beh s=>cases g with
   | nil=>exact ⟨_,.beh_no rfl⟩
   | cons t r=>simp at hm
  | opd k=>exfalso;revert hm;simp only[NT.rank];split <;> (try split) <;> (try split) <;> (try split) <;> omega
  | chain k=>exfalso;revert hm;simp only[NT.rank];split <;> (try split) <;> (try split) <;> omega
  | _=>simp[NT.rank] at hm
 | succ n i=>
  intro nt g j hm;cases nt with
  | beh s=>
   cases g with
   | nil=>exact ⟨_,.beh_no rfl⟩
   | cons t r=>
    cases h:see s t
    ·exact ⟨_,.beh_no h⟩
    ·obtain ⟨x,d⟩:=i .expr r trivial (by simp[NT.rank] at hm ⊢;omega);exact ⟨x,.beh h d⟩
  | expr=>
   cases h:Aw Gm g
   ·obtain ⟨x,d⟩:=i (.chain 1) g (.inl rfl) (by simp[NT.rank] at hm ⊢;omega);exact ⟨x,.expr_no h d⟩
   ·cases g with
    | nil=>cases h
    | cons t r=>
     have m:see Gm t=true:=h;obtain ⟨x,d⟩:=i (.beh Gm) (t ::r) trivial (by simp[NT.rank] at hm ⊢;omega);cases x with
     | bad q=>exact ⟨_,.expr_if1 m d⟩
     | ok a q=>
      have l:=d.less rfl;obtain ⟨y,d2⟩:=i (.beh Cm) q trivial (by simp[NT.rank] at hm l ⊢;omega);cases y with
      | bad p=>exact ⟨_,.expr_if2 m d d2⟩
      | ok b p=>
       have z:=d2.less rfl;obtain ⟨o,d3⟩:=i (.beh AE) p trivial (by simp[NT.rank] at hm l ⊢;omega);cases o with
       | bad v=>exact ⟨_,.expr_if3 m d d2 d3⟩
       | ok c v=>exact ⟨_,.expr_if m d d2 d3⟩
  | chain k=>
   have hk:(k=1∨k=2∨k=4∨k=5∨k=6):=by simp[NT.good] at j;omega
   have w:(NT.opd k).rank+1=(NT.chain k).rank:=by simp[NT.good] at j;rcases j with rfl | rfl | rfl | rfl <;> rfl
   obtain ⟨x,d⟩:=i (.opd k) g hk (by omega);cases x with
   | bad q=>exact ⟨_,.chain_bad d⟩
   | ok e q=>
    have l:=d.less rfl;obtain ⟨y,d2⟩:=i (.more k e) q j (by simp only[NT.rank] at hm l ⊢;omega);exact ⟨y,.chain d d2⟩
  | more k e=>
   have hk:(k=1∨k=2∨k=4∨k=5∨k=6):=by simp[NT.good] at j;omega
   cases h:OF k g with
   | none=>exact ⟨_,.more_no h⟩
   | some op=>
    cases g with
    | nil=>cases h
    | cons t r=>
     have w:(NT.opd k).rank≤13:=by simp only[NT.rank];split <;> (try split) <;> (try split) <;> (try split) <;> omega
     have A:(r.length+1) * 17+16≤n+1:=by simpa[NT.rank] using hm
     obtain ⟨x,d⟩:=i (.opd k) r hk (by omega);cases x with
     | bad q=>exact ⟨_,.more_bad h d⟩
     | ok f q=>
      have l:=d.less rfl;obtain ⟨y,d2⟩:=i (.more k (.bin t.at_ op e f)) q j (by simp only[NT.rank];omega);exact ⟨y,.more h d d2⟩
  | opd k=>
   simp only[NT.good] at j;rcases j with rfl | rfl | rfl | rfl | rfl
   ·obtain ⟨x,d⟩:=i (.chain 2) g (.inr (.inl rfl)) (by simp[NT.rank] at hm ⊢;omega);exact ⟨x,.opd1 d⟩
   ·obtain ⟨x,d⟩:=i .neg g trivial (by simp[NT.rank] at hm ⊢;omega);exact ⟨x,.opd2 d⟩
   ·obtain ⟨x,d⟩:=i (.chain 5) g (.inr (.inr (.inl rfl))) (by simp[NT.rank] at hm ⊢;omega);exact ⟨x,.opd4 d⟩
   ·obtain ⟨x,d⟩:=i (.chain 6) g (.inr (.inr (.inr rfl))) (by simp[NT.rank] at hm ⊢;omega);exact ⟨x,.opd5 d⟩
   ·obtain ⟨x,d⟩:=i .una g trivial (by simp[NT.rank] at hm ⊢;omega);exact ⟨x,.opd6 d⟩
  | neg=>
   cases h:Aw FE g
   ·obtain ⟨x,d⟩:=i .cmp g trivial (by simp[NT.rank] at hm ⊢;omega);exact ⟨x,.neg_no h d⟩
   ·cases g with
    | nil=>cases h
    | cons t r=>
     obtain ⟨x,d⟩:=i .neg r trivial (by simp[NT.rank] at hm ⊢;omega);cases x with
     | bad q=>exact ⟨_,.neg_bad h d⟩
     | ok e q=>exact ⟨_,.neg h d⟩
  | cmp=>
   obtain ⟨x,d⟩:=i (.opd 4) g (.inr (.inr (.inl rfl))) (by simp[NT.rank] at hm ⊢;omega);cases x with
   | bad q=>exact ⟨_,.cmp_bad d⟩
   | ok e q=>
    have l:=d.less rfl;cases h:OF 4 q with
    | none=>exact ⟨_,.cmp_one d h⟩
    | some op=>
     cases q with
     | nil=>cases h
     | cons t r=>
      obtain ⟨y,d2⟩:=i (.opd 4) r (.inr (.inr (.inl rfl))) (by simp[NT.rank] at hm l ⊢;omega);cases y with
      | bad q=>exact ⟨_,.cmp_two_bad d h d2⟩
      | ok f q=>exact ⟨_,.cmp_two d h d2⟩
  | una=>
   cases h:Aw Cs g
   ·obtain ⟨x,d⟩:=i .prim g trivial (by simp[NT.rank] at hm ⊢;omega);exact ⟨x,.una_no h d⟩
   ·cases g with
    | nil=>cases h
    | cons t r=>
     obtain ⟨x,d⟩:=i .una r trivial (by simp[NT.rank] at hm ⊢;omega);cases x with
     | bad q=>exact ⟨_,.una_bad h d⟩
     | ok e q=>exact ⟨_,.una h d⟩
  | prim=>
   cases g with
   | nil=>exact ⟨_,.prim_nil⟩
   | cons t r=>
    by_cases h1:t.kind=1
    ·exact ⟨_,.num h1⟩
    by_cases h2:t.kind=2
    ·exact ⟨_,.text h2⟩
    by_cases h3:t.kind=3
    ·exact ⟨_,.name h3⟩
    cases h4:see Ca t
    case true=>exact ⟨_,.tru h4⟩
    cases h5:see Bu t
    case true=>exact ⟨_,.fls h5⟩
    cases h6:see Dp t
    case true=>
     obtain ⟨x,d⟩:=i .encl r trivial (by simp[NT.rank] at hm ⊢;omega);cases x with
     | bad q=>exact ⟨_,.size_bad h6 d⟩
     | ok e q=>exact ⟨_,.size h6 d⟩
    cases h7:see AV t
    case true=>
     obtain ⟨x,d⟩:=i .encl (t ::r) trivial (by simp[NT.rank] at hm ⊢;omega);exact ⟨x,.par h7 d⟩
    cases h8:see Dq t
    case true=>
     rcases hs:FR r with ⟨B,b,q⟩
     cases b
     ·exact ⟨_,.set_bad h8 hs⟩
     ·cases hq:Aw BT q
      ·exact ⟨_,.set_end h8 hs hq⟩
      ·cases q with
       | nil=>cases hq
       | cons u q=>exact ⟨_,.set h8 hs hq⟩
    exact ⟨_,.prim_no h1 h2 h3 h4 h5 h6 h7 h8⟩
  | encl=>
   obtain ⟨x,d⟩:=i (.beh AV) g trivial (by simp[NT.rank] at hm ⊢;omega);cases x with
   | bad q=>exact ⟨_,.encl_bad d⟩
   | ok e q=>
    cases h:Aw Br q
    ·exact ⟨_,.encl_end d h⟩
    ·cases q with
     | nil=>cases h
     | cons t r=>exact ⟨_,.encl d h⟩
def U6:List UInt8:= [78,85,77]
def Ue:List UInt8:= [84,69,88,84]
def Gh:List UInt8:= [78,65,77,69]
def tk (t:Ae):List UInt8:=if t.kind=1 then U6 else if t.kind=2 then Ue else if t.kind=3 then Gh else Al t.text
def Y8:List Ae→List UInt8
 | []=> []
 | t ::_=>tk t
def Ct:List (List UInt8):=EC ++CM ++Ih.map (fun c=> [c])
def BI (t:Ae):Prop:=t.kind=1∨t.kind=2∨t.kind=3∨((t.kind=4∨t.kind=5)∧Al t.text∈Ct)
theorem IJ {t:Ae}{s:List UInt8}(h:BI t)(hs:s∈Ct):see s t=decide (tk t=s):=by
 have b:U6≠s:=fun e=>by rw[← e] at hs;revert hs;decide
 have c:Ue≠s:=fun e=>by rw[← e] at hs;revert hs;decide
 have d:Gh≠s:=fun e=>by rw[← e] at hs;revert hs;decide
 rcases h with h | h | h | ⟨h,f⟩
 ·simp[see,tk,h,b]
 ·simp[see,tk,h,c]
 ·simp[see,tk,h,d]
 ·have e:decide (t.text=Bg s)=decide (Al t.text=s):=by
   by_cases a:Al t.text=s
   ·rw[decide_eq_true a,decide_eq_true];rw[← a,Cv]
   ·rw[decide_eq_false a,decide_eq_false];intro e;exact a (by rw[e,Fb])
  rcases h with h | h <;> simp[see,tk,h,e]
theorem Qg {a:List Ae}{s:List UInt8}(h:∀ t∈a,BI t)(hs:s∈Ct):Aw s a=decide (Y8 a=s):=by
 cases a with
 | nil=>
  have:Y8 []≠s:=fun e=>by rw[← e] at hs;revert hs;decide
  rw[decide_eq_false this];rfl
 | cons t r=>exact IJ (h t (List.mem_cons_self ..)) hs
inductive Sy where
 | policy | decision | expr | orMore | and_ | andMore | not_ | compared | sum | sumMore | term | termMore | unary | primary | scopes | scopesMore
 | scope
 | t (s:List UInt8)
def Kz (k:Nat):List (List UInt8):=(Cn k).map Prod.fst
def AI (x:Sy) (t:List UInt8):Option (List Sy):=match x with
 | .policy=>if t=Fu then some [.t Fu,.t Gh,.t Qf,.expr,.t Ax,.policy] else if t=Bk then some [.t Bk,.expr,.t Ce,.decision,.t Ax,.policy] else some [.t AE,.decision,.t Ax]
 | .decision=>if t=CL then some [.t CL,.expr] else some [.t Gg]
 | .expr=>if t=Gm then some [.t Gm,.expr,.t Cm,.expr,.t AE,.expr] else some [.and_,.orMore]
 | .orMore=>if t=kOr then some [.t kOr,.and_,.orMore] else some []
 | .and_=>some [.not_,.andMore]
 | .andMore=>if t=Su then some [.t Su,.not_,.andMore] else some []
 | .not_=>if t=FE then some [.t FE,.not_] else some [.sum,.compared]
 | .compared=>if t∈Kz 4 then some [.t t,.sum] else some []
 | .sum=>some [.term,.sumMore]
 | .sumMore=>if t∈Kz 5 then some [.t t,.term,.sumMore] else some []
 | .term=>some [.unary,.termMore]
 | .termMore=>if t∈Kz 6 then some [.t t,.unary,.termMore] else some []
 | .unary=>if t=Cs then some [.t Cs,.unary] else some [.primary]
 | .primary=>if t=AV then some [.t AV,.expr,.t Br] else if t=Dp then some [.t Dp,.t AV,.expr,.t Br] else if t=Dq then some [.t Dq,.scopes] else if t=Ue∨t=Gh∨t=Ca∨t=Bu then some [.t t] else some [.t U6]
 | .scopes=>if t=BT then some [.t BT] else some [.scope,.scopesMore]
 | .scopesMore=>if t=Dr then some [.t Dr,.scope,.scopesMore] else some [.t BT]
 | .scope=>none
 | .t _=>none
inductive U7:Nat→List Sy→List Ae→Option (List Ae)→Prop
 | fin:U7 0 [] [] none
 | over {t:Ae} {r:List Ae} :U7 0 [] (t ::r) (some (t ::r))
 | exp {n:Nat} {x:Sy} {m st:List Sy} {ts:List Ae} {res:Option (List Ae)} (h:AI x (Y8 ts)=some m) (d:U7 n (m ++st) ts res):U7 (n+1) (x ::st) ts res
 | scope {n:Nat} {st:List Sy} {t:Ae} {r:List Ae} {res:Option (List Ae)} (h:FT t) (d:U7 n st r res):U7 (n+1) (.scope ::st) (t ::r) res
 | scope_nil {st:List Sy} :U7 1 (.scope ::st) [] (some [])
 | scope_no {st:List Sy} {t:Ae} {r:List Ae} (h: ¬ FT t):U7 1 (.scope ::st) (t ::r) (some (t ::r))
 | term {n:Nat} {s:List UInt8} {st:List Sy} {t:Ae} {r:List Ae} {res:Option (List Ae)} (h:tk t=s) (d:U7 n st r res):U7 (n+1) (.t s ::st) (t ::r) res
 | term_nil {s:List UInt8} {st:List Sy} :U7 1 (.t s ::st) [] (some [])
 | term_no {s:List UInt8} {st:List Sy} {t:Ae} {r:List Ae} (h:tk t≠s):U7 1 (.t s ::st) (t ::r) (some (t ::r))
def Ru (st:List Sy) (ts:List Ae) (res:Option (List Ae)):Prop:=∃ n,U7 n st ts res
theorem Ru.exp {x:Sy}{m st:List Sy}{a:List Ae}{b:Option (List Ae)}(h:AI x (Y8 a)=some m)(d:Ru (m ++st) a b):Ru (x ::st) a b:=by
 obtain ⟨n,d⟩:=d;exact ⟨n+1,.exp h d⟩
theorem Ru.scope {st:List Sy}{t:Ae}{r:List Ae}{a:Option (List Ae)}(h:FT t)(d:Ru st r a):Ru (.scope ::st) (t ::r) a:=by
 obtain ⟨n,d⟩:=d;exact ⟨n+1,.scope h d⟩
theorem Ru.term {s:List UInt8}{st:List Sy}{t:Ae}{r:List Ae}{a:Option (List Ae)}(h:tk t=s)(d:Ru st r a):Ru (.t s ::st) (t ::r) a:=by
 obtain ⟨n,d⟩:=d;exact ⟨n+1,.term h d⟩
theorem Ru.term_no {s:List UInt8}{st:List Sy}{a:List Ae}(h:Y8 a≠s):Ru (.t s ::st) a (some a):=by
 cases a with
 | nil=>exact ⟨1,.term_nil⟩
 | cons t r=>exact ⟨1,.term_no h⟩
def PR.aft (x:PR) (st:List Sy) (res:Option (List Ae)):Prop:=match x with
 | .ok _ r=>Ru st r res
 | .bad r=>res=some r
def NT.sym:NT→List Sy
 | .expr=> [.expr]
 | .chain k=>if k=1 then [.and_,.orMore] else if k=2 then [.not_,.andMore] else if k=5 then [.term,.sumMore] else [.unary,.termMore]
 | .more k _=>if k=1 then [.orMore] else if k=2 then [.andMore] else if k=5 then [.sumMore] else [.termMore]
 | .opd k=>if k=1 then [.and_] else if k=2 then [.not_] else if k=4 then [.sum] else if k=5 then [.term] else [.unary]
 | .neg=> [.not_]
 | .cmp=> [.sum,.compared]
 | .una=> [.unary]
 | .prim=> [.primary]
 | .encl=> [.t AV,.expr,.t Br]
 | .beh s=> [.t s,.expr]
def NT.fair:NT→Prop
 | .beh s=>s∈Ct
 | n=>n.good
theorem Lo {k:Nat}{s:List UInt8}(h:s∈Kz k):s∈Ct:=by
 have a1:∀ s∈Kz 1,s∈Ct:=by decide
 have a2:∀ s∈Kz 2,s∈Ct:=by decide
 have a4:∀ s∈Kz 4,s∈Ct:=by decide
 have a5:∀ s∈Kz 5,s∈Ct:=by decide
 have a6:∀ s∈Kz 6,s∈Ct:=by decide
 match k,h with
 | 0,h | 3,h=>cases h
 | 1,h=>exact a1 s h
 | 2,h=>exact a2 s h
 | 4,h=>exact a4 s h
 | 5,h=>exact a5 s h
 | 6,h=>exact a6 s h
 | k+7,h=>cases h
theorem Ny {k:Nat}{a:List Ae}(c:∀ t∈a,BI t)(h:OF k a=none):Y8 a ∉ Kz k:=by
 intro hm;cases a with
 | nil=>exact absurd (Lo hm) (by decide)
 | cons t r=>
  obtain ⟨p,d,b⟩:=List.mem_map.1 hm;rw[OF,Co,Option.map_eq_none_iff,List.find?_eq_none] at h;refine h p d ?_;rw[IJ (c t (List.mem_cons_self ..)) (by rw[b];exact Lo hm),decide_eq_true_eq,b];rfl
theorem GS {k:Nat}{t:Ae}{op:Int}(a:BI t)(h:Co k t=some op):tk t∈Kz k:=by
 obtain ⟨s,h1,h2⟩:=Ln h;have h3:s∈Kz k:=List.mem_map.2 ⟨_,h1,rfl⟩;rw[IJ a (Lo h3),decide_eq_true_eq] at h2;rw[h2];exact h3
theorem AC {s:List UInt8}{t:Ae}(a:BI t)(hs:s∈Ct)(h:see s t=true):tk t=s:=by
 rw[IJ a hs,decide_eq_true_eq] at h;exact h
theorem NA {s:List UInt8}{t:Ae}(a:BI t)(hs:s∈Ct)(h:see s t=false):tk t≠s:=by
 rw[IJ a hs,decide_eq_false_iff_not] at h;exact h
theorem Dc {s:List UInt8}{a:List Ae}(b:∀ t∈a,BI t)(hs:s∈Ct)(h:Aw s a=false):Y8 a≠s:=by
 rw[Qg b hs,decide_eq_false_iff_not] at h;exact h
theorem Uf:∀ (d:List Ae) (a:List ByteArray),(∀ t∈d,BI t)→∀ st b,((H7 d a).2.1=false→b=some (H7 d a).2.2)→((H7 d a).2.1=true→Ru (.t BT ::st) (H7 d a).2.2 b)→Ru (.scope :: .scopesMore ::st) d b
 | [],a,ho,st,b,h1,h2=>by
  have e:b=some []:=h1 rfl;rw[e];exact ⟨1,.scope_nil⟩
 | [t],a,ho,st,b,h1,h2=>by
  rw[H7] at h1 h2;by_cases hc:FT t
  ·rw[if_pos hc] at h2;refine .scope hc (.exp (m:= [.t BT]) rfl (h2 rfl))
  ·rw[if_neg hc] at h1;have e:b=some [t]:=h1 rfl;rw[e];exact ⟨1,.scope_no hc⟩
 | t ::c ::q,a,ho,st,b,h1,h2=>by
  rw[H7] at h1 h2;by_cases hc:FT t
  ·rw[if_pos hc] at h1 h2;have g:=ho c (by simp);cases hk:see Dr c
   ·rw[hk,if_neg (by decide)] at h2;have f:=NA g (by decide) hk;exact .scope hc (.exp (m:= [.t BT]) (if_neg f) (h2 rfl))
   ·rw[hk,if_pos rfl] at h1 h2;have f:=AC g (by decide) hk;exact .scope hc (.exp (m:= [.t Dr,.scope,.scopesMore]) (if_pos f) (.term f (Uf q _ (fun u hu=>ho u (by simp[hu])) st b h1 h2)))
  ·rw[if_neg hc] at h1;have e:b=some (t ::c ::q):=h1 rfl;rw[e];exact ⟨1,.scope_no hc⟩
theorem OG (a:List Ae)(c:∀ t∈a,BI t)(st:List Sy)(b:Option (List Ae))(h1:(FR a).2.1=false→b=some (FR a).2.2)(h2:(FR a).2.1=true→Ru (.t BT ::st) (FR a).2.2 b):Ru (.scopes ::st) a b:=by
 rw[FR] at h1 h2;cases h:Aw BT a
 ·rw[h,if_neg (by decide)] at h1 h2;exact .exp (m:= [.scope,.scopesMore]) (if_neg (Dc c (by decide) h)) (Uf a [] c st b h1 h2)
 ·rw[h,if_pos rfl] at h2;rw[Qg c (by decide),decide_eq_true_eq] at h;exact .exp (m:= [.t BT]) (if_pos h) (h2 rfl)
theorem Bl {nt:NT}{a:List Ae}{x:PR}(d:D nt a x)(b:∀ t∈a,BI t):∀ t∈x.rest,BI t:=by
 obtain ⟨c,hc,_⟩:=d.suf;intro t ht;exact b t (by rw[hc];exact List.mem_append_right _ ht)
theorem Ru.prim_t {s:List UInt8}{st:List Sy}{t:Ae}{r:List Ae}{a:Option (List Ae)}(h:tk t=s)(he:AI .primary s=some [.t s])(d:Ru st r a):Ru (.primary ::st) (t ::r) a:=
 .exp (m:= [.t s]) (by show AI .primary (tk t)=_;rw[h];exact he) (.term h d)
theorem D.run {nt:NT}{y:List Ae}{x:PR}(d:D nt y x):nt.fair→(∀ t∈y,BI t)→∀ st i,x.aft st i→Ru (nt.sym ++st) y i:=by
 induction d with
 | @beh_no s y h=>
  intro hf g st i j;have e:i=some y:=j;rw[e];exact .term_no (Dc g hf h)
 | @beh s t r x h d l=>
  intro hf g st i j;exact .term (AC (g t (by simp)) hf h) (l trivial (fun u hu=>g u (by simp[hu])) st i j)
 | @expr_no y x h d l=>
  intro hf g st i j;exact .exp (m:= [.and_,.orMore]) (if_neg (Dc g (by decide) h)) (l (.inl rfl) g st i j)
 | @expr_if1 t r q h d l=>
  intro hf g st i j;have:=AC (g t (by simp)) (by decide) h;exact .exp (m:= [.t Gm,.expr,.t Cm,.expr,.t AE,.expr]) (if_pos this) (l (show Gm∈Ct by decide) g ([Sy.t Cm,Sy.expr,Sy.t AE,Sy.expr] ++st) i j)
 | @expr_if2 t r q p a h d d2 n z=>
  intro hf g st i j;have e1:=AC (g t (by simp)) (by decide) h;have w:=Bl d g;have h2:Ru ([.t Cm,.expr,.t AE,.expr] ++st) q i:=z (show Cm∈Ct by decide) w ([Sy.t AE,Sy.expr] ++st) i j;exact .exp (m:= [.t Gm,.expr,.t Cm,.expr,.t AE,.expr]) (if_pos e1) (n (show Gm∈Ct by decide) g ([Sy.t Cm,Sy.expr,Sy.t AE,Sy.expr] ++st) i h2)
 | @expr_if3 t r q p F a b h d d2 d3 n z B=>
  intro hf g st i j;have e1:=AC (g t (by simp)) (by decide) h;have w:=Bl d g;have h3:Ru ([.t AE,.expr] ++st) p i:=B (show AE∈Ct by decide) (Bl d2 w) st i j;have h2:Ru ([.t Cm,.expr,.t AE,.expr] ++st) q i:=z (show Cm∈Ct by decide) w ([Sy.t AE,Sy.expr] ++st) i h3;exact .exp (m:= [.t Gm,.expr,.t Cm,.expr,.t AE,.expr]) (if_pos e1) (n (show Gm∈Ct by decide) g ([Sy.t Cm,Sy.expr,Sy.t AE,Sy.expr] ++st) i h2)
 | @expr_if t r q p F a b c h d d2 d3 n z B=>
  intro hf g st i j;have e1:=AC (g t (by simp)) (by decide) h;have w:=Bl d g;have h3:Ru ([.t AE,.expr] ++st) p i:=B (show AE∈Ct by decide) (Bl d2 w) st i j;have h2:Ru ([.t Cm,.expr,.t AE,.expr] ++st) q i:=z (show Cm∈Ct by decide) w ([Sy.t AE,Sy.expr] ++st) i h3;exact .exp (m:= [.t Gm,.expr,.t Cm,.expr,.t AE,.expr]) (if_pos e1) (n (show Gm∈Ct by decide) g ([Sy.t Cm,Sy.expr,Sy.t AE,Sy.expr] ++st) i h2)
 | @chain_bad k y r d l=>
  intro hf g st i j;rcases hf with rfl | rfl | rfl | rfl
  ·exact l (.inl rfl) g (.orMore ::st) i j
  ·exact l (.inr (.inl rfl)) g (.andMore ::st) i j
  ·exact l (.inr (.inr (.inr (.inl rfl)))) g (.sumMore ::st) i j
  ·exact l (.inr (.inr (.inr (.inr rfl)))) g (.termMore ::st) i j
 | @chain k y r e x d d2 n z=>
  intro hf g st i j;have h2:=z hf (Bl d g) st i j;rcases hf with rfl | rfl | rfl | rfl
  ·exact n (.inl rfl) g (.orMore ::st) i h2
  ·exact n (.inr (.inl rfl)) g (.andMore ::st) i h2
  ·exact n (.inr (.inr (.inr (.inl rfl)))) g (.sumMore ::st) i h2
  ·exact n (.inr (.inr (.inr (.inr rfl)))) g (.termMore ::st) i h2
 | @more_no k e y h=>
  intro hf g st i j;have o:=Ny g h;rcases hf with rfl | rfl | rfl | rfl
  ·exact .exp (m:= []) (if_neg (fun e=>o (by rw[e];decide))) j
  ·exact .exp (m:= []) (if_neg (fun e=>o (by rw[e];decide))) j
  ·exact .exp (m:= []) (if_neg o) j
  ·exact .exp (m:= []) (if_neg o) j
 | @more_bad k e t r q op h d l=>
  intro hf g st i j;have o:=GS (g t (by simp)) h;have v:∀ u∈r,BI u:=fun u hu=>g u (by simp[hu]);rcases hf with rfl | rfl | rfl | rfl
  ·have e1:tk t=kOr:=List.mem_singleton.1 o;exact .exp (m:= [.t kOr,.and_,.orMore]) (if_pos e1) (.term e1 (l (.inl rfl) v (.orMore ::st) i j))
  ·have e1:tk t=Su:=List.mem_singleton.1 o;exact .exp (m:= [.t Su,.not_,.andMore]) (if_pos e1) (.term e1 (l (.inr (.inl rfl)) v (.andMore ::st) i j))
  ·exact .exp (m:= [.t (tk t),.term,.sumMore]) (if_pos o) (.term rfl (l (.inr (.inr (.inr (.inl rfl)))) v (.sumMore ::st) i j))
  ·exact .exp (m:= [.t (tk t),.unary,.termMore]) (if_pos o) (.term rfl (l (.inr (.inr (.inr (.inr rfl)))) v (.termMore ::st) i j))
 | @more k e f t r q op x h d d2 n z=>
  intro hf g st i j;have o:=GS (g t (by simp)) h;have v:∀ u∈r,BI u:=fun u hu=>g u (by simp[hu]);have h2:=z hf (Bl d v) st i j;rcases hf with rfl | rfl | rfl | rfl
  ·have e1:tk t=kOr:=List.mem_singleton.1 o;exact .exp (m:= [.t kOr,.and_,.orMore]) (if_pos e1) (.term e1 (n (.inl rfl) v (.orMore ::st) i h2))
  ·have e1:tk t=Su:=List.mem_singleton.1 o;exact .exp (m:= [.t Su,.not_,.andMore]) (if_pos e1) (.term e1 (n (.inr (.inl rfl)) v (.andMore ::st) i h2))
  ·exact .exp (m:= [.t (tk t),.term,.sumMore]) (if_pos o) (.term rfl (n (.inr (.inr (.inr (.inl rfl)))) v (.sumMore ::st) i h2))
  ·exact .exp (m:= [.t (tk t),.unary,.termMore]) (if_pos o) (.term rfl (n (.inr (.inr (.inr (.inr rfl)))) v (.termMore ::st) i h2))
 | opd1 d l=>intro hf g st i j;exact .exp (m:= [.not_,.andMore]) rfl (l (.inr (.inl rfl)) g st i j)
 | opd2 d l=>intro hf g st i j;exact l trivial g st i j
 | opd4 d l=>intro hf g st i j;exact .exp (m:= [.term,.sumMore]) rfl (l (.inr (.inr (.inl rfl))) g st i j)
 | opd5 d l=>intro hf g st i j;exact .exp (m:= [.unary,.termMore]) rfl (l (.inr (.inr (.inr rfl))) g st i j)
 | opd6 d l=>intro hf g st i j;exact l trivial g st i j
 | @neg_no y x h d l=>
  intro hf g st i j;exact .exp (m:= [.sum,.compared]) (if_neg (Dc g (by decide) h)) (l trivial g st i j)
 | @neg_bad t r q h d l=>
  intro hf g st i j;have e1:=AC (g t (by simp)) (by decide) h;exact .exp (m:= [.t FE,.not_]) (if_pos e1) (.term e1 (l trivial (fun u hu=>g u (by simp[hu])) st i j))
 | @neg t r q e h d l=>
  intro hf g st i j;have e1:=AC (g t (by simp)) (by decide) h;exact .exp (m:= [.t FE,.not_]) (if_pos e1) (.term e1 (l trivial (fun u hu=>g u (by simp[hu])) st i j))
 | cmp_bad d l=>intro hf g st i j;exact l (.inr (.inr (.inl rfl))) g (.compared ::st) i j
 | cmp_one d h l=>
  intro hf g st i j;exact l (.inr (.inr (.inl rfl))) g (.compared ::st) i (.exp (m:= []) (if_neg (Ny (Bl d g) h)) j)
 | @cmp_two_bad y r q e t op d h d2 n z=>
  intro hf g st i j;have w:∀ u∈t ::r,BI u:=Bl d g;have o:=GS (w t (by simp)) h;exact n (.inr (.inr (.inl rfl))) g (.compared ::st) i (.exp (m:= [.t (tk t),.sum]) (if_pos o) (.term rfl (z (.inr (.inr (.inl rfl))) (fun u hu=>w u (by simp[hu])) st i j)))
 | @cmp_two y r q e f t op d h d2 n z=>
  intro hf g st i j;have w:∀ u∈t ::r,BI u:=Bl d g;have o:=GS (w t (by simp)) h;exact n (.inr (.inr (.inl rfl))) g (.compared ::st) i (.exp (m:= [.t (tk t),.sum]) (if_pos o) (.term rfl (z (.inr (.inr (.inl rfl))) (fun u hu=>w u (by simp[hu])) st i j)))
 | @una_no y x h d l=>
  intro hf g st i j;exact .exp (m:= [.primary]) (if_neg (Dc g (by decide) h)) (l trivial g st i j)
 | @una_bad t r q h d l=>
  intro hf g st i j;have e1:=AC (g t (by simp)) (by decide) h;exact .exp (m:= [.t Cs,.unary]) (if_pos e1) (.term e1 (l trivial (fun u hu=>g u (by simp[hu])) st i j))
 | @una t r q e h d l=>
  intro hf g st i j;have e1:=AC (g t (by simp)) (by decide) h;exact .exp (m:= [.t Cs,.unary]) (if_pos e1) (.term e1 (l trivial (fun u hu=>g u (by simp[hu])) st i j))
 | @num t r h=>intro hf g st i j;exact .prim_t (s:=U6) (by rw[tk,if_pos h]) rfl j
 | @text t r h=>intro hf g st i j;exact .prim_t (s:=Ue) (by rw[tk,h];rfl) rfl j
 | @name t r h=>intro hf g st i j;exact .prim_t (s:=Gh) (by rw[tk,h];rfl) rfl j
 | @tru t r h=>intro hf g st i j;exact .prim_t (AC (g t (by simp)) (by decide) h) rfl j
 | @fls t r h=>intro hf g st i j;exact .prim_t (AC (g t (by simp)) (by decide) h) rfl j
 | @size_bad t r q h d l=>
  intro hf g st i j;have e1:=AC (g t (by simp)) (by decide) h;exact .exp (m:= [.t Dp,.t AV,.expr,.t Br]) (by show AI .primary (tk t)=_;rw[e1];rfl) (.term e1 (l trivial (fun u hu=>g u (by simp[hu])) st i j))
 | @size t r q e h d l=>
  intro hf g st i j;have e1:=AC (g t (by simp)) (by decide) h;exact .exp (m:= [.t Dp,.t AV,.expr,.t Br]) (by show AI .primary (tk t)=_;rw[e1];rfl) (.term e1 (l trivial (fun u hu=>g u (by simp[hu])) st i j))
 | @par t r x h d l=>
  intro hf g st i j;have e1:=AC (g t (by simp)) (by decide) h;exact .exp (m:= [.t AV,.expr,.t Br]) (by show AI .primary (tk t)=_;rw[e1];rfl) (l trivial g st i j)
 | @set_bad t r q C h hs=>
  intro hf g st i j;have e1:=AC (g t (by simp)) (by decide) h;have e:i=some q:=j;exact .exp (m:= [.t Dq,.scopes]) (by show AI .primary (tk t)=_;rw[e1];rfl) (.term e1 (OG r (fun u hu=>g u (by simp[hu])) st i (fun _=>by rw[hs];exact e) (fun h=>by rw[hs] at h;cases h)))
 | @set_end t r q C h hs hq=>
  intro hf g st i j;have e1:=AC (g t (by simp)) (by decide) h;have e:i=some q:=j;have v:∀ u∈r,BI u:=fun u hu=>g u (by simp[hu]);have H:∀ u∈q,BI u:=fun u hu=>by
   obtain ⟨c,hc⟩:=II r;rw[hs] at hc;exact v u (by rw[hc];exact List.mem_append_right _ hu)
  exact .exp (m:= [.t Dq,.scopes]) (by show AI .primary (tk t)=_;rw[e1];rfl) (.term e1 (OG r v st i (fun h=>by rw[hs] at h;cases h) (fun _=>by rw[hs,e];exact .term_no (Dc H (by decide) hq))))
 | @set t u r q C h hs hq=>
  intro hf g st i j;have e1:=AC (g t (by simp)) (by decide) h;have v:∀ u∈r,BI u:=fun u hu=>g u (by simp[hu]);have I:BI u:=by
   obtain ⟨c,hc⟩:=II r;rw[hs] at hc;exact v u (by rw[hc];simp)
  exact .exp (m:= [.t Dq,.scopes]) (by show AI .primary (tk t)=_;rw[e1];rfl) (.term e1 (OG r v st i (fun h=>by rw[hs] at h;cases h) (fun _=>by rw[hs];exact .term (AC I (by decide) hq) j)))
 | prim_nil=>
  intro hf g st i j;have e:i=some []:=j;rw[e];exact .exp (m:= [.t U6]) rfl (.term_no (by decide))
 | @prim_no t r h1 h2 h3 h4 h5 h6 h7 h8=>
  intro hf g st i j;have e:i=some (t ::r):=j;rw[e];have A:=g t (by simp);have O:t.kind=4∨t.kind=5:=by rcases A with h | h | h | h <;> first | contradiction | exact h.1
  have E:tk t=Al t.text∧Al t.text∈Ct:=by
   rcases A with h | h | h | h
   ·contradiction
   ·contradiction
   ·contradiction
   ·exact ⟨by rw[tk,if_neg h1,if_neg h2,if_neg h3],h.2⟩
  have nx:∀ s,s ∉ Ct→tk t≠s:=fun s hs e=>hs (by rw[← e,E.1];exact E.2);have J:=NA A (by decide) h4;have K:=NA A (by decide) h5;have L:=NA A (by decide) h6;have M:=NA A (by decide) h7;have N:=NA A (by decide) h8;refine .exp (m:= [.t U6]) ?_ (.term_no (show tk t≠_ from nx _ (by decide)));show AI .primary (tk t)=_;rw[AI,if_neg M,if_neg L,if_neg N,if_neg (by
   rintro (h | h | h | h)
   ·exact nx _ (by decide) h
   ·exact nx _ (by decide) h
   ·exact J h
   ·exact K h)]
 | encl_bad d l=>intro hf g st i j;exact l (show AV∈Ct by decide) g (.t Br ::st) i j
 | encl_end d h l=>
  intro hf g st i j;refine l (show AV∈Ct by decide) g (.t Br ::st) i ?_;have e:i=_:=j;rw[e];exact .term_no (Dc (Bl d g) (by decide) h)
 | @encl y r e t d h l=>
  intro hf g st i j;have w:∀ u∈t ::r,BI u:=Bl d g;exact l (show AV∈Ct by decide) g (.t Br ::st) i (.term (AC (w t (by simp)) (by decide) h) j)
end Go.Proofs.YtoplnhndilmlcaaGreatDoor
namespace Go.Proofs.YtoplnhndilmlcaaGreatDoor
open Go.RowKit Go.Extern.Stop Go.Stop Go.Extern
theorem QD (v:Value)(w:World):(Extern.ReflectliteType.typeOf #[.iface 256 v]).run Tryz.prog w= .ok (.iface 195 (.agg #[.pointer (some ⟨17,256,none⟩)])) w:=by kernel_rfl
def Xn:TypeId→Sem Value:=fun t=>do Go.Extern.Rtype.noPackHeld "Comparable" t;pure (.bool (← typeInfo t).comparable)
theorem IY (w:World):((Extern.ReflectliteType.method Xn) #[.agg #[.pointer (some ⟨17,256,none⟩)]]).run Tryz.prog w= .ok (.bool true) w:=by kernel_rfl
theorem EH (v:Value)(w:World):(Go.method 409 195 v "Comparable").run Tryz.prog w= .ok (232,v) w:=by kernel_rfl
theorem Xo:(Tryz.prog.info? 256).map (·.comparable)=some true:=by kernel_rfl
theorem Xp:(Tryz.prog.info? 258).map (·.size)=some 1:=by kernel_rfl
theorem AbO (v:Value)(a:TypeId)(w:World):(Instr.typeAssert (.iface 256 v) a 225 true).run Tryz.prog w= .ok (.tuple #[.nilIface,.bool false]) w:=run_typeAssert_lacksB Tryz.underlying225 (by kernel_rfl) (by kernel_rfl) v a w
theorem Vs (v:Value)(a:TypeId)(w:World):(Instr.typeAssert (.iface 256 v) a 203 true).run Tryz.prog w= .ok (.tuple #[.nilIface,.bool false]) w:=run_typeAssert_lacksB Tryz.underlying203 (by kernel_rfl) (by kernel_rfl) v a w
theorem SY (v:Value)(a:TypeId)(w:World):(Instr.typeAssert (.iface 256 v) a 204 true).run Tryz.prog w= .ok (.tuple #[.nilIface,.bool false]) w:=run_typeAssert_lacksB Tryz.underlying204 (by kernel_rfl) (by kernel_rfl) v a w
theorem GU (a:Addr)(w:World):
  Calls Tryz.prog 85 #[.iface 256 (.pointer (some a)),.iface 256 (.pointer (some a))] w fun e w'=>e= .returned (.bool true)∧w'=w:=by
 obtain ⟨i,hi,b⟩:=Option.map_eq_some_iff.1 Xo;obtain ⟨j,c,d⟩:=Option.map_eq_some_iff.1 Xp;have h8:=@run_callFunc_extern Tryz.prog 117 _ Extern.ReflectliteType.typeOf Tryz.func117 (by kernel_rfl) (by kernel_rfl) (by kernel_rfl) (by kernel_rfl);have f:=@run_callFunc_extern Tryz.prog 232 _ (Extern.ReflectliteType.method Xn) Tryz.func232 (by kernel_rfl) (by kernel_rfl) (by kernel_rfl) (by kernel_rfl);have g:=QD;have h:=IY;have k:=EH;have l:=run_eql_iface_ptr_same (P:=Tryz.prog) w a Tryz.underlying55 Tryz.underlying256 hi b c;go_enter Tryz.func85,Tryz.ntmps85
 go_wp2
 refine wp_loop_rounds 1 ?_;rw[rounds_succ];go_wp2
 go_ret
 exact ⟨rfl,rfl⟩
theorem Xq (a b:Addr)(c d:Array Value)(f g:TypeId)(w:World)(h:a≠b)(k:w.heap[a.block]? =some (.cells c f (0,0)))(l:w.heap[b.block]? =some (.cells d g (0,0))):
  Calls Tryz.prog 85 #[.iface 256 (.pointer (some a)),.iface 256 (.pointer (some b))] w fun e w'=>e= .returned (.bool false)∧w'=w:=by
 obtain ⟨i,hi,m⟩:=Option.map_eq_some_iff.1 Xo;obtain ⟨j,n,o⟩:=Option.map_eq_some_iff.1 Xp;have h8:=@run_callFunc_extern Tryz.prog 117 _ Extern.ReflectliteType.typeOf Tryz.func117 (by kernel_rfl) (by kernel_rfl) (by kernel_rfl) (by kernel_rfl);have p:=@run_callFunc_extern Tryz.prog 232 _ (Extern.ReflectliteType.method Xn) Tryz.func232 (by kernel_rfl) (by kernel_rfl) (by kernel_rfl) (by kernel_rfl);have q:=QD;have r:=IY;have s:=EH;have t:=AbO;have u:=Vs;have v:=SY;have x:=run_eql_iface_ptr_other (P:=Tryz.prog) w Tryz.underlying55 Tryz.underlying256 hi m n (by rw[o];decide) h k l;go_enter Tryz.func85,Tryz.ntmps85
 go_wp2
 refine wp_loop_rounds 1 ?_;rw[rounds_succ];go_wp2
 go_ret
 exact ⟨rfl,rfl⟩
end Go.Proofs.YtoplnhndilmlcaaGreatDoor
