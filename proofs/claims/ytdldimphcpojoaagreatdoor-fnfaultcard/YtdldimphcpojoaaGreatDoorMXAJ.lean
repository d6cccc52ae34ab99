/-
  PickP, Mem, Byte1, MarkT, GA. Own work.
-/
import Derived.Test.YtdldimphcpojoaaGreatDoorMXAA
import Derived.WalkSpells
import Derived.WalkLawsBesides
import Derived.Laws.BytesString
import Derived.Deep.RegionHeld3
namespace Go.Proofs.YtdldimphcpojoaaGreatDoor
open Go.RowKit
def Xw (a b:ByteArray):Bool:=a.toList== b.toList
theorem EW (a b:ByteArray):Xw a b=true↔a=b:=by
 rw[Xw,beq_iff_eq,ByteArray.toList_eq,ByteArray.toList_eq];exact ⟨Gg,fun h=>by rw[h]⟩
def QK (ss:List ByteArray) (s:ByteArray):Bool:=ss.any fun x=>Xw x s
theorem Ip (a:List ByteArray)(s:ByteArray):QK a s=true↔s∈a:=by
 rw[QK,List.any_eq_true];constructor
 ·rintro ⟨x,hx,he⟩;rw[EW] at he;subst he;exact hx
 ·intro h;exact ⟨s,h,(EW _ _).2 rfl⟩
theorem Sw (a:List ByteArray)(s:ByteArray):s∈a↔∃ j,j < a.length∧EP a j=s:=by
 constructor
 ·intro h;obtain ⟨j,b,rfl⟩:=List.getElem_of_mem h;exact ⟨j,b,Cf a j b⟩
 ·rintro ⟨j,b,rfl⟩;rw[Cf a j b];exact List.getElem_mem b
theorem WX (a:List ByteArray)(s:ByteArray)(j:Nat)(b:j < a.length)(h:Xw (EP a j) s=true):QK a s=true:=by
 rw[Ip,Sw];exact ⟨j,b,(EW _ _).1 h⟩
theorem Ua (a:List ByteArray)(s:ByteArray)(h:∀ j,j < a.length→Xw (EP a j) s=false):QK a s=false:=by
 rw[Bool.eq_false_iff];intro k;rw[Ip,Sw] at k;obtain ⟨j,b,e⟩:=k;have:=h j b;rw[(EW _ _).2 e] at this;cases this
theorem LX (a:List ByteArray)(k:Nat)(h:k < a.length):a.take (k+1)=a.take k ++ [EP a k]:=by
 rw[Cf a k h,List.take_succ_eq_append_getElem h]
theorem Em {w:World}{a e n:Nat}{v:Value}{b:List Value}(h:w.ownsRow a e 1 v n b):∃ x c,v= .slice x n c:=by
 rcases h.2 with ⟨rfl,rfl⟩ | ⟨g,cap,d,rfl,_⟩
 ·exact ⟨_,_,rfl⟩
 ·exact ⟨_,_,rfl⟩
theorem Bg.setFar {w:World}{a:Option Addr}{n c:Nat}{d:List ByteArray}(h:Bg w a n c d){p:Addr}(g:∀ x,a=some x→p.block≠x.block)(u:Value):Bg (w.setCell p u) a n c d:=
 ⟨h.len,h.cap,h.small,h.sizes,fun j i=>by
  obtain ⟨b,k,f,l,hc⟩:=h.cells j i;refine ⟨b,k,f,by simpa using l, ?_⟩;rw[← hc];exact World.cell?_of_block (heap_setCell_other w p b u (fun e=>g _ f e.symm))⟩
theorem Bg.drewN {w:World}{a:Option Addr}{n c:Nat}{b:List ByteArray}(h:Bg w a n c b)(k:Nat):Bg (w.drewN k) a n c b:=
 h.below (below_drewN (Below.refl w.heap.size w) k) NLN
def Hu (x:Int):ByteArray:=ByteArray.empty.push (UInt8.ofNat x.toNat)
theorem Dx (x:Int):(Hu x).size=1:=rfl
theorem L2 (a:World)(x:Int):(convert 22 9 (.slice (some ⟨a.heap.size,0,none⟩) 1 1)).run Tryz.prog (a.alloc (.cells #[.int .u8 x] 5))= .ok (.string (Hu x)) (a.alloc (.cells #[.int .u8 x] 5)):=by
 rw[run_convert_bytes_string _ _ _ _ _ _ _ Tryz.underlying22 Tryz.underlying5 Tryz.underlying9];rw[run_bytesToString _ _ _ _ [x]]
 ·rfl
 ·have h:(a.alloc (.cells #[.int .u8 x] 5)).cell? ⟨a.heap.size,0,none⟩=some (.int .u8 x):=by simp
  simp[loadCells,h,go_sem]
theorem Ao (a b:ByteArray):(a ++b).size=a.size+b.size:=ByteArray.size_append
def Yv:Nat→Nat→ByteArray→ByteArray
 | 0,_,l=>l
 | f+1,k,l=>if k=0 then l else Yv f (k / 10) (Hu (48+(k:Int) % 10) ++l)
def XF (k:Nat):ByteArray:=if k=0 then ⟨#[109,48]⟩ else ⟨#[109]⟩ ++Yv (k+1) k ⟨#[]⟩
set_option linter.unusedVariables false
def see (s:List UInt8) (t:Af):Bool:=(decide (t.kind=4) || decide (t.kind=5)) && decide (t.text=Ax s)
def AL (s:List UInt8):List Af→Bool
 | []=>false
 | t ::_=>see s t
theorem NS {a b:List UInt8}(h:Ax a=Ax b):a=b:=by
 rw[← Do a,← Do b,h]
theorem Ag {s s':List UInt8}{t:Af}(h:see s t=true)(a:s≠s'):see s' t=false:=by
 rw[see,Bool.and_eq_true,decide_eq_true_eq] at h;rw[see,h.2];have:decide (Ax s=Ax s')=false:=decide_eq_false (fun e=>a (NS e));rw[this,Bool.and_false]
theorem FR {s:List UInt8}{t:Af}(h:see s t=true):t.kind=4∨t.kind=5:=by
 rw[see,Bool.and_eq_true,Bool.or_eq_true,decide_eq_true_eq,decide_eq_true_eq] at h;exact h.1
theorem Kt {s:List UInt8}{t:Af}(h:see s t=true):t.text=Ax s:=by
 rw[see,Bool.and_eq_true,decide_eq_true_eq] at h;exact h.2
def CU:List UInt8:= [108,101,116]
def AZ:List UInt8:= [119,104,101,110]
def AI:List UInt8:= [101,108,115,101]
def EA:List UInt8:= [100,101,110,121]
def Br:List UInt8:= [103,114,97,110,116]
def Du:List UInt8:= [105,102]
def BQ:List UInt8:= [116,104,101,110]
def Ee:List UInt8:= [110,111,116]
def MK:List UInt8:= [97,110,100]
def Wt:List UInt8:= [111,114]
def Zg:List UInt8:= [105,110]
def Wu:List UInt8:= [119,105,116,104,105,110]
def BO:List UInt8:= [115,105,122,101]
def Ca:List UInt8:= [116,114,117,101]
def Bs:List UInt8:= [102,97,108,115,101]
def Bh:List UInt8:= [61,62]
def NU:List UInt8:= [61]
def AF:List UInt8:= [59]
def AX:List UInt8:= [45]
def AD:List UInt8:= [40]
def AT:List UInt8:= [41]
def BV:List UInt8:= [123]
def BK:List UInt8:= [125]
def DA:List UInt8:= [44]
def Cy:Nat→List (List UInt8 × Int)
 | 1=> [(Wt,26)]
 | 2=> [(MK,25)]
 | 4=> [([61,61],19),([33,61],20),([60],21),([60,61],22),(Zg,23),(Wu,24)]
 | 5=> [([43],11),(AX,12),([124],16),([92],18)]
 | 6=> [([42],13),([47],14),([37],15),([38],17)]
 | _=> []
def CF (k:Nat) (t:Af):Option Int:=((Cy k).find? (fun p=>see p.1 t)).map Prod.snd
def NV (k:Nat):List Af→Option Int
 | []=>none
 | t ::_=>CF k t
theorem Fj {k:Nat}{t:Af}{op:Int}(h:CF k t=some op):∃ s,(s,op)∈Cy k∧see s t=true:=by
 rw[CF,Option.map_eq_some_iff] at h;obtain ⟨⟨s,a⟩,h1,h2⟩:=h;have h3:=List.mem_of_find?_eq_some h1;have h4:=List.find?_some h1;exact ⟨s,by rw[← h2];exact h3,h4⟩
inductive Pt where
 | int (i:Nat) (n:Int)
 | text (i:Nat) (s:ByteArray)
 | bool (i:Nat) (b:Bool)
 | set (i:Nat) (ss:List ByteArray)
 | name (i:Nat) (s:ByteArray)
 | un (i:Nat) (op:Int) (k:Pt)
 | bin (i:Nat) (op:Int) (l r:Pt)
 | ite (i:Nat) (c t e:Pt)
def FM (t:Af):Prop:=t.kind=2∧t.text≠Ax []
instance (t:Af):Decidable (FM t):=inferInstanceAs (Decidable (_∧_))
def IU:List Af→List ByteArray→List ByteArray × Bool × List Af
 | [],a=>(a,false, [])
 | [t],a=>if FM t then (a ++ [t.text],true, []) else (a,false, [t])
 | t ::c ::q,a=>if FM t then (if see DA c then IU q (a ++ [t.text]) else (a ++ [t.text],true,c ::q)) else (a,false,t ::c ::q)
def FN (ts:List Af):List ByteArray × Bool × List Af:=if AL BK ts then ([],true,ts) else IU ts []
inductive PR where
 | ok (e:Pt) (r:List Af)
 | bad (r:List Af)
def PR.rest:PR→List Af
 | .ok _ r=>r
 | .bad r=>r
inductive NT where
 | expr
 | chain (k:Nat)
 | more (k:Nat) (e:Pt)
 | opd (k:Nat)
 | neg
 | cmp
 | una
 | prim
 | encl
 | beh (s:List UInt8)
inductive D:NT→List Af→PR→Prop
 | beh_no {s:List UInt8} {ts:List Af} (h:AL s ts=false):D (.beh s) ts (.bad ts)
 | beh {s:List UInt8} {t:Af} {r:List Af} {x:PR} (h:see s t=true) (d:D .expr r x):D (.beh s) (t ::r) x
 | expr_no {ts:List Af} {x:PR} (h:AL Du ts=false) (d:D (.chain 1) ts x):D .expr ts x
 | expr_if1 {t:Af} {r q:List Af} (h:see Du t=true) (d1:D (.beh Du) (t ::r) (.bad q)):D .expr (t ::r) (.bad q)
 | expr_if2 {t:Af} {r q p:List Af} {a:Pt} (h:see Du t=true) (d1:D (.beh Du) (t ::r) (.ok a q)) (d2:D (.beh BQ) q (.bad p)):D .expr (t ::r) (.bad p)
 | expr_if3 {t:Af} {r q p o:List Af} {a b:Pt} (h:see Du t=true) (d1:D (.beh Du) (t ::r) (.ok a q)) (d2:D (.beh BQ) q (.ok b p)) (d3:D (.beh AI) p (.bad o)):D .expr (t ::r) (.bad o)
 | expr_if {t:Af} {r q p o:List Af} {a b c:Pt} (h:see Du t=true) (d1:D (.beh Du) (t ::r) (.ok a q)) (d2:D (.beh BQ) q (.ok b p)) (d3:D (.beh AI) p (.ok c o)):D .expr (t ::r) (.ok (.ite t.at_ a b c) o)
 | chain_bad {k:Nat} {ts r:List Af} (d:D (.opd k) ts (.bad r)):D (.chain k) ts (.bad r)
 | chain {k:Nat} {ts r:List Af} {e:Pt} {x:PR} (d:D (.opd k) ts (.ok e r)) (d2:D (.more k e) r x):D (.chain k) ts x
 | more_no {k:Nat} {e:Pt} {ts:List Af} (h:NV k ts=none):D (.more k e) ts (.ok e ts)
 | more_bad {k:Nat} {e:Pt} {t:Af} {r q:List Af} {op:Int} (h:CF k t=some op) (d:D (.opd k) r (.bad q)):D (.more k e) (t ::r) (.bad q)
 | more {k:Nat} {e f:Pt} {t:Af} {r q:List Af} {op:Int} {x:PR} (h:CF k t=some op) (d:D (.opd k) r (.ok f q)) (d2:D (.more k (.bin t.at_ op e f)) q x):D (.more k e) (t ::r) x
 | opd1 {ts:List Af} {x:PR} (d:D (.chain 2) ts x):D (.opd 1) ts x
 | opd2 {ts:List Af} {x:PR} (d:D .neg ts x):D (.opd 2) ts x
 | opd4 {ts:List Af} {x:PR} (d:D (.chain 5) ts x):D (.opd 4) ts x
 | opd5 {ts:List Af} {x:PR} (d:D (.chain 6) ts x):D (.opd 5) ts x
 | opd6 {ts:List Af} {x:PR} (d:D .una ts x):D (.opd 6) ts x
 | neg_no {ts:List Af} {x:PR} (h:AL Ee ts=false) (d:D .cmp ts x):D .neg ts x
 | neg_bad {t:Af} {r q:List Af} (h:see Ee t=true) (d:D .neg r (.bad q)):D .neg (t ::r) (.bad q)
 | neg {t:Af} {r q:List Af} {e:Pt} (h:see Ee t=true) (d:D .neg r (.ok e q)):D .neg (t ::r) (.ok (.un t.at_ 9 e) q)
 | cmp_bad {ts r:List Af} (d:D (.opd 4) ts (.bad r)):D .cmp ts (.bad r)
 | cmp_one {ts r:List Af} {e:Pt} (d:D (.opd 4) ts (.ok e r)) (h:NV 4 r=none):D .cmp ts (.ok e r)
 | cmp_two_bad {ts r q:List Af} {e:Pt} {t:Af} {op:Int} (d:D (.opd 4) ts (.ok e (t ::r))) (h:CF 4 t=some op) (d2:D (.opd 4) r (.bad q)):D .cmp ts (.bad q)
 | cmp_two {ts r q:List Af} {e f:Pt} {t:Af} {op:Int} (d:D (.opd 4) ts (.ok e (t ::r))) (h:CF 4 t=some op) (d2:D (.opd 4) r (.ok f q)):D .cmp ts (.ok (.bin t.at_ op e f) q)
 | una_no {ts:List Af} {x:PR} (h:AL AX ts=false) (d:D .prim ts x):D .una ts x
 | una_bad {t:Af} {r q:List Af} (h:see AX t=true) (d:D .una r (.bad q)):D .una (t ::r) (.bad q)
 | una {t:Af} {r q:List Af} {e:Pt} (h:see AX t=true) (d:D .una r (.ok e q)):D .una (t ::r) (.ok (.un t.at_ 8 e) q)
 | num {t:Af} {r:List Af} (h:t.kind=1):D .prim (t ::r) (.ok (.int t.at_ t.num) r)
 | text {t:Af} {r:List Af} (h:t.kind=2):D .prim (t ::r) (.ok (.text t.at_ t.text) r)
 | name {t:Af} {r:List Af} (h:t.kind=3):D .prim (t ::r) (.ok (.name t.at_ t.text) r)
 | tru {t:Af} {r:List Af} (h:see Ca t=true):D .prim (t ::r) (.ok (.bool t.at_ true) r)
 | fls {t:Af} {r:List Af} (h:see Bs t=true):D .prim (t ::r) (.ok (.bool t.at_ false) r)
 | size_bad {t:Af} {r q:List Af} (h:see BO t=true) (d:D .encl r (.bad q)):D .prim (t ::r) (.bad q)
 | size {t:Af} {r q:List Af} {e:Pt} (h:see BO t=true) (d:D .encl r (.ok e q)):D .prim (t ::r) (.ok (.un t.at_ 10 e) q)
 | par {t:Af} {r:List Af} {x:PR} (h:see AD t=true) (d:D .encl (t ::r) x):D .prim (t ::r) x
 | set_bad {t:Af} {r q:List Af} {ss:List ByteArray} (h:see BV t=true) (hs:FN r=(ss,false,q)):D .prim (t ::r) (.bad q)
 | set_end {t:Af} {r q:List Af} {ss:List ByteArray} (h:see BV t=true) (hs:FN r=(ss,true,q)) (hq:AL BK q=false):D .prim (t ::r) (.bad q)
 | set {t u:Af} {r q:List Af} {ss:List ByteArray} (h:see BV t=true) (hs:FN r=(ss,true,u ::q)) (hq:see BK u=true):D .prim (t ::r) (.ok (.set t.at_ ss) q)
 | prim_nil:D .prim [] (.bad [])
 | prim_no {t:Af} {r:List Af} (h1:t.kind≠1) (h2:t.kind≠2) (h3:t.kind≠3) (h4:see Ca t=false) (h5:see Bs t=false) (h6:see BO t=false) (h7:see AD t=false) (h8:see BV t=false):D .prim (t ::r) (.bad (t ::r))
 | encl_bad {ts r:List Af} (d:D (.beh AD) ts (.bad r)):D .encl ts (.bad r)
 | encl_end {ts r:List Af} {e:Pt} (d:D (.beh AD) ts (.ok e r)) (h:AL AT r=false):D .encl ts (.bad r)
 | encl {ts r:List Af} {e:Pt} {t:Af} (d:D (.beh AD) ts (.ok e (t ::r))) (h:see AT t=true):D .encl ts (.ok e r)
theorem Sb:∀ (b:List Af) (a:List ByteArray),∃ c,b=c ++(IU b a).2.2
 | [],a=>⟨[],by simp[IU]⟩
 | [t],a=>by
  rw[IU];split
  ·exact ⟨[t],rfl⟩
  ·exact ⟨[],rfl⟩
 | t ::c ::q,a=>by
  rw[IU];split
  ·split
   ·obtain ⟨d,f⟩:=Sb q (a ++ [t.text]);exact ⟨t ::c ::d,by rw[List.cons_append,List.cons_append,← f]⟩
   ·exact ⟨[t],rfl⟩
  ·exact ⟨[],rfl⟩
theorem Ib (a:List Af):∃ c,a=c ++(FN a).2.2:=by
 rw[FN];split
 ·exact ⟨[],rfl⟩
 ·exact Sb a []
def NT.slow:NT→Bool
 | .more _ _=>true
 | _=>false
theorem D.suf {nt:NT}{l:List Af}{x:PR}(h:D nt l x):∃ c,l=c ++x.rest∧(∀ e r,x= .ok e r→nt.slow=false→c≠ []):=by
 induction h with
 | beh_no=>exact ⟨[],rfl,fun e r h=>by cases h⟩
 | @beh s t r x h d a=>obtain ⟨c,hc,_⟩:=a;exact ⟨t ::c,by rw[List.cons_append,← hc],fun _ _ _ _=>by simp⟩
 | expr_no h d a=>obtain ⟨c,hc,h2⟩:=a;exact ⟨c,hc,fun e r h3 _=>h2 e r h3 rfl⟩
 | expr_if1 h d a=>obtain ⟨c,hc,_⟩:=a;exact ⟨c,hc,fun _ _ h=>by cases h⟩
 | expr_if2 h d1 d2 g i=>obtain ⟨c,hc,_⟩:=g;obtain ⟨d,j,_⟩:=i;exact ⟨c ++d,by rw[List.append_assoc,← j];exact hc,fun _ _ h=>by cases h⟩
 | expr_if3 h d1 d2 d3 g i m=>obtain ⟨c,hc,_⟩:=g;obtain ⟨d,j,_⟩:=i;obtain ⟨e,he,_⟩:=m;dsimp only[PR.rest] at *;exact ⟨c ++(d ++e),by rw[List.append_assoc,List.append_assoc,← he,← j];exact hc,fun _ _ h=>by cases h⟩
 | expr_if h d1 d2 d3 g i m=>obtain ⟨c,hc,n⟩:=g;obtain ⟨d,j,_⟩:=i;obtain ⟨e,he,_⟩:=m;dsimp only[PR.rest] at *;exact ⟨c ++(d ++e),by rw[List.append_assoc,List.append_assoc,← he,← j];exact hc,fun _ _ _ _ h=>n _ _ rfl rfl (List.append_eq_nil_iff.1 h).1⟩
 | chain_bad d a=>obtain ⟨c,hc,_⟩:=a;exact ⟨c,hc,fun _ _ h=>by cases h⟩
 | chain d d2 g i=>obtain ⟨c,hc,n⟩:=g;obtain ⟨d,j,_⟩:=i;exact ⟨c ++d,by rw[List.append_assoc,← j];exact hc,fun _ _ _ _ h=>n _ _ rfl rfl (List.append_eq_nil_iff.1 h).1⟩
 | more_no=>exact ⟨[],rfl,fun _ _ _ h=>by cases h⟩
 | @more_bad k e t r q op h d a=>obtain ⟨c,hc,_⟩:=a;exact ⟨t ::c,by rw[List.cons_append,← hc],fun _ _ h=>by cases h⟩
 | @more k e f t r q op x h d d2 g i=>obtain ⟨c,hc,_⟩:=g;obtain ⟨d,j,_⟩:=i;exact ⟨t ::(c ++d),by rw[List.cons_append,List.append_assoc,← j];exact congrArg _ hc,fun _ _ _ h=>by cases h⟩
 | opd1 d a=>obtain ⟨c,hc,h2⟩:=a;exact ⟨c,hc,fun e r h3 _=>h2 e r h3 rfl⟩
 | opd2 d a=>obtain ⟨c,hc,h2⟩:=a;exact ⟨c,hc,fun e r h3 _=>h2 e r h3 rfl⟩
 | opd4 d a=>obtain ⟨c,hc,h2⟩:=a;exact ⟨c,hc,fun e r h3 _=>h2 e r h3 rfl⟩
 | opd5 d a=>obtain ⟨c,hc,h2⟩:=a;exact ⟨c,hc,fun e r h3 _=>h2 e r h3 rfl⟩
 | opd6 d a=>obtain ⟨c,hc,h2⟩:=a;exact ⟨c,hc,fun e r h3 _=>h2 e r h3 rfl⟩
 | neg_no h d a=>obtain ⟨c,hc,h2⟩:=a;exact ⟨c,hc,fun e r h3 _=>h2 e r h3 rfl⟩
 | @neg_bad t r q h d a=>obtain ⟨c,hc,_⟩:=a;exact ⟨t ::c,by rw[List.cons_append,← hc],fun _ _ h=>by cases h⟩
 | @neg t r q e h d a=>obtain ⟨c,hc,_⟩:=a;exact ⟨t ::c,by rw[List.cons_append];exact congrArg _ hc,fun _ _ _ _=>by simp⟩
 | cmp_bad d a=>obtain ⟨c,hc,_⟩:=a;exact ⟨c,hc,fun _ _ h=>by cases h⟩
 | cmp_one d h a=>obtain ⟨c,hc,h2⟩:=a;exact ⟨c,hc,fun _ _ _ _=>h2 _ _ rfl rfl⟩
 | @cmp_two_bad l r q e t op d h d2 g i=>obtain ⟨c,hc,_⟩:=g;obtain ⟨b,o,_⟩:=i;exact ⟨c ++t ::b,by rw[List.append_assoc,List.cons_append,← o];exact hc,fun _ _ h=>by cases h⟩
 | @cmp_two l r q e f t op d h d2 g i=>obtain ⟨c,hc,_⟩:=g;obtain ⟨b,o,_⟩:=i;exact ⟨c ++t ::b,by rw[List.append_assoc,List.cons_append];exact hc.trans (by rw[show r=b ++_ from o];rfl),fun _ _ _ _ h=>by simp at h⟩
 | una_no h d a=>obtain ⟨c,hc,h2⟩:=a;exact ⟨c,hc,fun e r h3 _=>h2 e r h3 rfl⟩
 | @una_bad t r q h d a=>obtain ⟨c,hc,_⟩:=a;exact ⟨t ::c,by rw[List.cons_append,← hc],fun _ _ h=>by cases h⟩
 | @una t r q e h d a=>obtain ⟨c,hc,_⟩:=a;exact ⟨t ::c,by rw[List.cons_append];exact congrArg _ hc,fun _ _ _ _=>by simp⟩
 | @num t r h=>exact ⟨[t],rfl,fun _ _ _ _=>by simp⟩
 | @text t r h=>exact ⟨[t],rfl,fun _ _ _ _=>by simp⟩
 | @name t r h=>exact ⟨[t],rfl,fun _ _ _ _=>by simp⟩
 | @tru t r h=>exact ⟨[t],rfl,fun _ _ _ _=>by simp⟩
 | @fls t r h=>exact ⟨[t],rfl,fun _ _ _ _=>by simp⟩
 | @size_bad t r q h d a=>obtain ⟨c,hc,_⟩:=a;exact ⟨t ::c,by rw[List.cons_append,← hc],fun _ _ h=>by cases h⟩
 | @size t r q e h d a=>obtain ⟨c,hc,_⟩:=a;exact ⟨t ::c,by rw[List.cons_append];exact congrArg _ hc,fun _ _ _ _=>by simp⟩
 | par h d a=>obtain ⟨c,hc,h2⟩:=a;exact ⟨c,hc,fun e r h3 _=>h2 e r h3 rfl⟩
 | @set_bad t r q p h hs=>obtain ⟨c,hc⟩:=Ib r;rw[hs] at hc;exact ⟨t ::c,by rw[List.cons_append];exact congrArg _ hc,fun _ _ h=>by cases h⟩
 | @set_end t r q p h hs hq=>obtain ⟨c,hc⟩:=Ib r;rw[hs] at hc;exact ⟨t ::c,by rw[List.cons_append];exact congrArg _ hc,fun _ _ h=>by cases h⟩
 | @set t u r q p h hs hq=>obtain ⟨c,hc⟩:=Ib r;rw[hs] at hc;exact ⟨t ::(c ++ [u]),by rw[List.cons_append,List.append_assoc];exact congrArg _ hc,fun _ _ _ _=>by simp⟩
 | prim_nil=>exact ⟨[],rfl,fun _ _ h=>by cases h⟩
 | prim_no=>exact ⟨[],rfl,fun _ _ h=>by cases h⟩
 | encl_bad d a=>obtain ⟨c,hc,_⟩:=a;exact ⟨c,hc,fun _ _ h=>by cases h⟩
 | encl_end d h a=>obtain ⟨c,hc,_⟩:=a;exact ⟨c,hc,fun _ _ h=>by cases h⟩
 | @encl l r e t d h a=>obtain ⟨c,hc,_⟩:=a;exact ⟨c ++ [t],by rw[List.append_assoc];exact hc,fun _ _ _ _=>by simp⟩
theorem D.len {nt:NT}{a:List Af}{x:PR}(h:D nt a x):x.rest.length≤a.length:=by
 obtain ⟨c,hc,_⟩:=h.suf;rw[hc,List.length_append];omega
theorem D.less {nt:NT}{a r:List Af}{e:Pt}(h:D nt a (.ok e r))(hs:nt.slow=false):r.length < a.length:=by
 obtain ⟨c,hc,b⟩:=h.suf;have h1:=b e r rfl hs;have h2: 0 < c.length:=List.length_pos_iff.2 h1;rw[hc,List.length_append,PR.rest];omega
def NT.rank:NT→Nat
 | .beh _=>0 | .encl=>1 | .prim=>2 | .una=>3
 | .opd k=>if k=6 then 4 else if k=5 then 6 else if k=4 then 8 else if k=2 then 11 else 13
 | .chain k=>if k=6 then 5 else if k=5 then 7 else if k=2 then 12 else 14
 | .cmp=>9 | .neg=>10 | .expr=>15 | .more .. =>16
def NT.good:NT→Prop
 | .opd k=>k=1∨k=2∨k=4∨k=5∨k=6
 | .chain k=>k=1∨k=2∨k=5∨k=6
 | .more k _=>k=1∨k=2∨k=5∨k=6
 | _=>True
theorem D.total:∀ (n:Nat) (nt:NT) (g:List Af),nt.good→g.length * 17+nt.rank≤n→∃ x,D nt g x:=by
 intro n
 induction n with
 | zero=>
  intro nt g j hm;cases nt with
  | beh s=>cases g with
   | nil=>exact ⟨_,.beh_no rfl⟩
   | cons t r=>simp at hm
  | opd k=>exfalso;revert hm;simp only[NT.rank];split <;> (try split) <;> (try split) <;> (try split) <;> omega
  | chain k=>exfalso;revert hm;simp only[NT.rank];split <;> (try split) <;> (try split) <;> omega
  | _=>simp[NT.rank] at hm
 | succ n i=>
  intro nt g j hm;cases nt with
  | beh s=>
   cases g with
   | nil=>exact ⟨_,.beh_no rfl⟩
   | cons t r=>
    cases h:see s t
    ·exact ⟨_,.beh_no h⟩
    ·obtain ⟨x,d⟩:=i .expr r trivial (by simp[NT.rank] at hm ⊢;omega);exact ⟨x,.beh h d⟩
  | expr=>
   cases h:AL Du g
   ·obtain ⟨x,d⟩:=i (.chain 1) g (.inl rfl) (by simp[NT.rank] at hm ⊢;omega);exact ⟨x,.expr_no h d⟩
   ·cases g with
    | nil=>cases h
    | cons t r=>
     have m:see Du t=true:=h;obtain ⟨x,d⟩:=i (.beh Du) (t ::r) trivial (by simp[NT.rank] at hm ⊢;omega);cases x with
     | bad q=>exact ⟨_,.expr_if1 m d⟩
     | ok a q=>
      have l:=d.less rfl;obtain ⟨y,d2⟩:=i (.beh BQ) q trivial (by simp[NT.rank] at hm l ⊢;omega);cases y with
      | bad p=>exact ⟨_,.expr_if2 m d d2⟩
      | ok b p=>
       have z:=d2.less rfl;obtain ⟨o,d3⟩:=i (.beh AI) p trivial (by simp[NT.rank] at hm l ⊢;omega);cases o with
       | bad v=>exact ⟨_,.expr_if3 m d d2 d3⟩
       | ok c v=>exact ⟨_,.expr_if m d d2 d3⟩
  | chain k=>
   have hk:(k=1∨k=2∨k=4∨k=5∨k=6):=by simp[NT.good] at j;omega
   have w:(NT.opd k).rank+1=(NT.chain k).rank:=by simp[NT.good] at j;rcases j with rfl | rfl | rfl | rfl <;> rfl
   obtain ⟨x,d⟩:=i (.opd k) g hk (by omega);cases x with
   | bad q=>exact ⟨_,.chain_bad d⟩
   | ok e q=>
    have l:=d.less rfl;obtain ⟨y,d2⟩:=i (.more k e) q j (by simp only[NT.rank] at hm l ⊢;omega);exact ⟨y,.chain d d2⟩
  | more k e=>
   have hk:(k=1∨k=2∨k=4∨k=5∨k=6):=by simp[NT.good] at j;omega
   cases h:NV k g with
   | none=>exact ⟨_,.more_no h⟩
   | some op=>
    cases g with
    | nil=>cases h
    | cons t r=>
     have w:(NT.opd k).rank≤13:=by simp only[NT.rank];split <;> (try split) <;> (try split) <;> (try split) <;> omega
     have A:(r.length+1) * 17+16≤n+1:=by simpa[NT.rank] using hm
     obtain ⟨x,d⟩:=i (.opd k) r hk (by omega);cases x with
     | bad q=>exact ⟨_,.more_bad h d⟩
     | ok f q=>
      have l:=d.less rfl;obtain ⟨y,d2⟩:=i (.more k (.bin t.at_ op e f)) q j (by simp only[NT.rank];omega);exact ⟨y,.more h d d2⟩
  | opd k=>
   simp only[NT.good] at j;rcases j with rfl | rfl | rfl | rfl | rfl
   ·obtain ⟨x,d⟩:=i (.chain 2) g (.inr (.inl rfl)) (by simp[NT.rank] at hm ⊢;omega);exact ⟨x,.opd1 d⟩
   ·obtain ⟨x,d⟩:=i .neg g trivial (by simp[NT.rank] at hm ⊢;omega);exact ⟨x,.opd2 d⟩
   ·obtain ⟨x,d⟩:=i (.chain 5) g (.inr (.inr (.inl rfl))) (by simp[NT.rank] at hm ⊢;omega);exact ⟨x,.opd4 d⟩
   ·obtain ⟨x,d⟩:=i (.chain 6) g (.inr (.inr (.inr rfl))) (by simp[NT.rank] at hm ⊢;omega);exact ⟨x,.opd5 d⟩
   ·obtain ⟨x,d⟩:=i .una g trivial (by simp[NT.rank] at hm ⊢;omega);exact ⟨x,.opd6 d⟩
  | neg=>
   cases h:AL Ee g
   ·obtain ⟨x,d⟩:=i .cmp g trivial (by simp[NT.rank] at hm ⊢;omega);exact ⟨x,.neg_no h d⟩
   ·cases g with
    | nil=>cases h
    | cons t r=>
     obtain ⟨x,d⟩:=i .neg r trivial (by simp[NT.rank] at hm ⊢;omega);cases x with
     | bad q=>exact ⟨_,.neg_bad h d⟩
     | ok e q=>exact ⟨_,.neg h d⟩
  | cmp=>
   obtain ⟨x,d⟩:=i (.opd 4) g (.inr (.inr (.inl rfl))) (by simp[NT.rank] at hm ⊢;omega);cases x with
   | bad q=>exact ⟨_,.cmp_bad d⟩
   | ok e q=>
    have l:=d.less rfl;cases h:NV 4 q with
    | none=>exact ⟨_,.cmp_one d h⟩
    | some op=>
     cases q with
     | nil=>cases h
     | cons t r=>
      obtain ⟨y,d2⟩:=i (.opd 4) r (.inr (.inr (.inl rfl))) (by simp[NT.rank] at hm l ⊢;omega);cases y with
      | bad q=>exact ⟨_,.cmp_two_bad d h d2⟩
      | ok f q=>exact ⟨_,.cmp_two d h d2⟩
  | una=>
   cases h:AL AX g
   ·obtain ⟨x,d⟩:=i .prim g trivial (by simp[NT.rank] at hm ⊢;omega);exact ⟨x,.una_no h d⟩
   ·cases g with
    | nil=>cases h
    | cons t r=>
     obtain ⟨x,d⟩:=i .una r trivial (by simp[NT.rank] at hm ⊢;omega);cases x with
     | bad q=>exact ⟨_,.una_bad h d⟩
     | ok e q=>exact ⟨_,.una h d⟩
  | prim=>
   cases g with
   | nil=>exact ⟨_,.prim_nil⟩
   | cons t r=>
    by_cases h1:t.kind=1
    ·exact ⟨_,.num h1⟩
    by_cases h2:t.kind=2
    ·exact ⟨_,.text h2⟩
    by_cases h3:t.kind=3
    ·exact ⟨_,.name h3⟩
    cases h4:see Ca t
    case true=>exact ⟨_,.tru h4⟩
    cases h5:see Bs t
    case true=>exact ⟨_,.fls h5⟩
    cases h6:see BO t
    case true=>
     obtain ⟨x,d⟩:=i .encl r trivial (by simp[NT.rank] at hm ⊢;omega);cases x with
     | bad q=>exact ⟨_,.size_bad h6 d⟩
     | ok e q=>exact ⟨_,.size h6 d⟩
    cases h7:see AD t
    case true=>
     obtain ⟨x,d⟩:=i .encl (t ::r) trivial (by simp[NT.rank] at hm ⊢;omega);exact ⟨x,.par h7 d⟩
    cases h8:see BV t
    case true=>
     rcases hs:FN r with ⟨B,b,q⟩
     cases b
     ·exact ⟨_,.set_bad h8 hs⟩
     ·cases hq:AL BK q
      ·exact ⟨_,.set_end h8 hs hq⟩
      ·cases q with
       | nil=>cases hq
       | cons u q=>exact ⟨_,.set h8 hs hq⟩
    exact ⟨_,.prim_no h1 h2 h3 h4 h5 h6 h7 h8⟩
  | encl=>
   obtain ⟨x,d⟩:=i (.beh AD) g trivial (by simp[NT.rank] at hm ⊢;omega);cases x with
   | bad q=>exact ⟨_,.encl_bad d⟩
   | ok e q=>
    cases h:AL AT q
    ·exact ⟨_,.encl_end d h⟩
    ·cases q with
     | nil=>cases h
     | cons t r=>exact ⟨_,.encl d h⟩
end Go.Proofs.YtdldimphcpojoaaGreatDoor
