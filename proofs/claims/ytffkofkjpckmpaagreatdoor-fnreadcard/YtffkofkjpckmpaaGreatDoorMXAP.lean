/-
  QE0, ONB, HD. Own work.
-/
import Derived.Test.YtffkofkjpckmpaaGreatDoorMXAJ
import Derived.Test.YtffkofkjpckmpaaGreatDoorMXAO
import Derived.Test.YtffkofkjpckmpaaGreatDoorMXAS
import Derived.Test.YtffkofkjpckmpaaGreatDoorMXAB
import Derived.Test.YtffkofkjpckmpaaGreatDoorMXAZ
namespace Go.Proofs.YtffkofkjpckmpaaGreatDoor
open Go.RowKit
set_option linter.unusedVariables false
theorem Ex.form (e:Ex):∃ t u,e.val= .iface t u:=by cases e <;> exact ⟨_,_,rfl⟩
theorem Cs {T:TypeId}{a:Array Field}(hu: Tryz.prog.underlying T=some (.struct a))(b:TypeId)(v:Value)(w:World):(Instr.typeAssert (.iface T v) b T true).run Tryz.prog w= .ok (.tuple #[v,.bool true]) w:=by simp[Instr.typeAssert,run_underlying hu]
theorem Ai {S T:TypeId}{b:Array Field}{a:Value}(hu: Tryz.prog.underlying T=some (.struct b))(c:∀ w,(zeroValue T).run Tryz.prog w= .ok a w)(h:S≠T)(d:TypeId)(v:Value)(w:World):(Instr.typeAssert (.iface S v) d T true).run Tryz.prog w= .ok (.tuple #[a,.bool false]) w:=by simp[Instr.typeAssert,run_underlying hu,c,h]
def MI (x:Nd) (u k:Value):List Value:= [.int .i64 x.op,.int .i64 x.num,.string x.text,u,k]
def JM:List Nd→List Value→List Value→List Value
 |x ::N,u ::nv,k ::kv=>MI x u k ++JM N nv kv
 |_,_,_=> []
theorem VS:∀ (N:List Nd) (a b:List Value),a.length=N.length→b.length=N.length→(JM N a b).length=N.length * 5
 | [],_,_,_,_=>by simp[JM]
 |x ::N, [],_,h,_=>by simp at h
 |x ::N,_ ::_, [],_,h=>by simp at h
 |x ::N,u ::a,k ::b,h,h'=>by
  have:=VS N a b (by simpa using h) (by simpa using h');simp only[JM,MI,zB,List.length_cons,List.length_nil,this];omega
theorem Sn:∀ (N:List Nd) (a b:List Value) (x:Nd) (u k:Value),a.length=N.length→b.length=N.length→JM (N ++ [x]) (a ++ [u]) (b ++ [k])=JM N a b ++MI x u k
 | [], [], [],x,u,k,_,_=>by simp[JM]
 | [],_ ::_,_,x,u,k,h,_=>by simp at h
 | [], [],_ ::_,x,u,k,_,h=>by simp at h
 |y ::N, [],_,x,u,k,h,_=>by simp at h
 |y ::N,_ ::_, [],x,u,k,_,h=>by simp at h
 |y ::N,z ::a,t ::b,x,u,k,h,h'=>by
  have:=Sn N a b x u k (by simpa using h) (by simpa using h');simp only[List.cons_append,JM,this,zC]
theorem Qf:∀ (N:List Nd) (a b:List Value) (j:Nat) (h:j < N.length) (c:j < a.length) (h2:j < b.length),∀ r,r < 5→(JM N a b)[j * 5+r]? =(MI N[j] a[j] b[j])[r]?
 |x ::N,u ::a,k ::b,0,_,_,_,r,hr=>by
  rw[JM,Nat.zero_mul,zW,yJ (by simp[MI];omega)];rfl
 |x ::N,u ::a,k ::b,j+1,h,c,h2,r,hr=>by
  have d:=Qf N a b j (by simpa using h) (by simpa using c) (by simpa using h2) r hr;rw[JM,yC (by simp[MI];omega)];have e:(j+1) * 5+r - (MI x u k).length=j * 5+r:=by simp[MI];omega
  rw[e,d];rfl
 | [],_,_,_,h,_,_,_,_=>absurd h (by simp)
 |_ ::_, [],_,_,_,h,_,_,_=>absurd h (by simp)
 |_ ::_,_ ::_, [],_,_,_,h,_,_=>absurd h (by simp)
structure Cj (w:World) (lo:Nat) (v:Value) (N:List Nd) (nv kv:List Value):Prop where
 len:nv.length=N.length
 lenk:kv.length=N.length
 own:w.ownsRow lo 124 5 v N.length (JM N nv kv)
 names:∀ j,(h:j < N.length)→(h':j < nv.length)→w.ownsRow lo 9 1 nv[j] N[j].names.length (N[j].names.map Value.string)
 kids:∀ j,(h:j < N.length)→(h':j < kv.length)→w.ownsRow lo 3 1 kv[j] N[j].kids.length (AF N[j].kids)
 apart:∀ i j,(hij:i < j)→(h:j < nv.length)→∀ q,(nv[i]'(by omega)).ownBlock=some q→nv[j].ownBlock≠some q
 apartk:∀ i j,(hij:i < j)→(h:j < kv.length)→∀ q,(kv[i]'(by omega)).ownBlock=some q→kv[j].ownBlock≠some q
theorem Cj.nil (w:World)(lo:Nat):Cj w lo (.slice none 0 0) [] [] []:=
 ⟨rfl,rfl,World.ownsRow_nil _ _ _ _,fun j h=>absurd h (by simp),fun j h=>absurd h (by simp),fun i j _ h=>absurd h (by simp),fun i j _ h=>absurd h (by simp)⟩
theorem Ac {w w':World}{a:Nat}{e:TypeId}{size n:Nat}{v:Value}{b:List Value}(h:w.ownsRow a e size v n b)(d:∀ q,v.ownBlock=some q→w'.heap[q]? =w.heap[q]?):w'.ownsRow a e size v n b:=by
 refine ⟨h.1, ?_⟩;rcases h.2 with h2 | ⟨g,cap,f,c,i,j,h4⟩
 ·exact .inl h2
 ·exact .inr ⟨g,cap,f,c,i,(d g (by rw[c];rfl)).trans j,h4⟩
theorem Cj.lts {w:World}{lo:Nat}{v:Value}{N:List Nd}{b c:List Value}(h:Cj w lo v N b c):(∀ q,v.ownBlock=some q→lo≤q∧q < w.heap.size)∧(∀ j,(a:j < b.length)→∀ q,b[j].ownBlock=some q→lo≤q∧q < w.heap.size)∧∀ j,(a:j < c.length)→∀ q,c[j].ownBlock=some q→lo≤q∧q < w.heap.size:=
 ⟨h.own.lt,fun j a=>(h.names j (by rw[← h.len];exact a) a).lt,fun j a=>(h.kids j (by rw[← h.lenk];exact a) a).lt⟩
theorem Cj.upto {w w':World}{lo:Nat}{v:Value}{N:List Nd}{c d:List Value}(h:Cj w lo v N c d)(h1:∀ q,v.ownBlock=some q→w'.heap[q]? =w.heap[q]?)(h2:∀ j,(a:j < c.length)→∀ q,c[j].ownBlock=some q→w'.heap[q]? =w.heap[q]?)(h3:∀ j,(a:j < d.length)→∀ q,d[j].ownBlock=some q→w'.heap[q]? =w.heap[q]?):Cj w' lo v N c d:=
 ⟨h.len,h.lenk,Ac h.own h1,fun j a b=>Ac (h.names j a b) (h2 j b),fun j a b=>Ac (h.kids j a b) (h3 j b),h.apart,h.apartk⟩
theorem Cj.blocks {w w':World}{lo:Nat}{v:Value}{N:List Nd}{c d:List Value}(h:Cj w lo v N c d)(b:∀ k,lo≤k→k < w.heap.size→w'.heap[k]? =w.heap[k]?):Cj w' lo v N c d:=
 h.upto (fun q hq=>b q (h.lts.1 q hq).1 (h.lts.1 q hq).2) (fun j a q hq=>b q (h.lts.2.1 j a q hq).1 (h.lts.2.1 j a q hq).2) (fun j a q hq=>b q (h.lts.2.2 j a q hq).1 (h.lts.2.2 j a q hq).2)
theorem Ap {w:World}{B i n j size k:Nat}{e e':TypeId}{v f:Value}{l m:List Value}(h:w.ownsRow B e size v n l)(o:w.ownsRow i e' k f j m)(p:e≠e'):∀ q,v.ownBlock=some q→f.ownBlock≠some q:=fun q hq b=>by
 rcases h.2 with ⟨c,_⟩ | ⟨g,cap,t,c,_,r,_⟩
 ·rw[c] at hq;cases hq
 rcases o.2 with ⟨d,_⟩ | ⟨s,u,x,d,_,a,_⟩
 ·rw[d] at b;cases b
 rw[c] at hq;rw[d] at b;obtain rfl:g=q:=by simpa[Value.ownBlock] using hq
 obtain rfl:s=g:=by simpa[Value.ownBlock] using b
 rw[r] at a;injection a with a;injection a with _ a;exact p a
def InN (v:Value) (nv kv:List Value) (hi:Nat):Prop:=(∀ q,v.ownBlock=some q→q < hi)∧(∀ j,(hj:j < nv.length)→∀ q,nv[j].ownBlock=some q→q < hi)∧∀ j,(hj:j < kv.length)→∀ q,kv[j].ownBlock=some q→q < hi
def okN (x:Nd):Prop:=x.names.length≤1048576∧x.kids.length≤1048576∧∀ s∈x.names,s.size≤maxLen
set_option maxRecDepth 100000
set_option maxHeartbeats 12800000
theorem TC (t u:List UInt8):((AB t).toList== u)=decide (t=u):=by
 rw[zZ];show (t== u)=_;by_cases e:t=u
 ·rw[zR e,e];simp
 ·rw[zK e];simpa using e
theorem Up (t:Ae)(w:World):Calls Tryz.prog 35 #[.agg #[.int .i64 t.kind,.int .i64 t.num,.string t.text,.int .i64 (t.at_:Int)]] w fun e w'=>e= .returned (.string (AB (tk t)))∧Below w.heap.size w w':=by
 have b:=(Below.refl w.heap.size w).alloc NLN (.cells #[.int .i64 t.kind,.int .i64 t.num,.string t.text,.int .i64 (t.at_:Int)] 42);by_cases h1:t.kind=1
 ·have a:=Ab (show tk t=N8 by rw[tk,if_pos h1]);have e1:(t.kind== 1)=true:=zI.2 h1;clear h1;go_enter Tryz.func35,Tryz.ntmps35
  go_wp2_with fail
  go_ret
  exact ⟨by rw[Aa a];rfl,b⟩
 by_cases h2:t.kind=2
 ·have a:=Ab (show tk t=Fe by rw[tk,if_neg h1,if_pos h2]);have e1:(t.kind== 1)=false:=zA.2 h1;have e2:(t.kind== 2)=true:=zI.2 h2;clear h1 h2;go_enter Tryz.func35,Tryz.ntmps35
  go_wp2_with fail
  go_ret
  exact ⟨by rw[Aa a];rfl,b⟩
 by_cases h3:t.kind=3
 ·have a:=Ab (show tk t=Ew by rw[tk,if_neg h1,if_neg h2,if_pos h3]);have e1:(t.kind== 1)=false:=zA.2 h1;have e2:(t.kind== 2)=false:=zA.2 h2;have e3:(t.kind== 3)=true:=zI.2 h3;clear h1 h2 h3;go_enter Tryz.func35,Tryz.ntmps35
  go_wp2_with fail
  go_ret
  exact ⟨by rw[Aa a];rfl,b⟩
 ·have a:=Ab (show tk t=Aj t.text by rw[tk,if_neg h1,if_neg h2,if_neg h3]);have e1:(t.kind== 1)=false:=zA.2 h1;have e2:(t.kind== 2)=false:=zA.2 h2;have e3:(t.kind== 3)=false:=zA.2 h3;clear h1 h2 h3;go_enter Tryz.func35,Tryz.ntmps35
  go_wp2_with fail
  go_ret
  exact ⟨by rw[Aa a,Bn];rfl,b⟩
def Sy.str:Sy→List UInt8
 | .policy=> [80,111,108,105,99,121]
 | .decision=> [68,101,99,105,115,105,111,110]
 | .expr=> [69,120,112,114]
 | .orMore=> [79,114,77,111,114,101]
 | .and_=> [65,110,100]
 | .andMore=> [65,110,100,77,111,114,101]
 | .not_=> [78,111,116]
 | .compared=> [67,111,109,112,97,114,101,100]
 | .sum=> [83,117,109]
 | .sumMore=> [83,117,109,77,111,114,101]
 | .term=> [84,101,114,109]
 | .termMore=> [84,101,114,109,77,111,114,101]
 | .unary=> [85,110,97,114,121]
 | .primary=> [80,114,105,109,97,114,121]
 | .scopes=> [83,99,111,112,101,115]
 | .scopesMore=> [83,99,111,112,101,115,77,111,114,101]
 | .scope=> [83,67,79,80,69]
 | .t s=>s
def g0 (x:Sy):ByteArray:=AB x.str
def ExA (o:Option (List Sy)) (w:World) (r:Ending) (w':World):Prop:=
 (match o with
   |some m=>∃ a cx,r= .returned (.tuple #[.slice a m.length cx,.bool true])∧w'.ownsRow w.heap.size 9 1 (.slice a m.length cx) m.length (m.map fun y=>Value.string (g0 y))
   |none=>r= .returned (.tuple #[.slice none 0 0,.bool false]))∧Below w.heap.size w w'
theorem WM {w:World}{B a n size:Nat}{e:TypeId}{v:Value}{b:List Value}(h:w.ownsRow B e size v n b)(c:a≤B):w.ownsRow a e size v n b:=by
 refine ⟨h.1, ?_⟩;rcases h.2 with h0 | ⟨g,cap,d,f,h1,h2⟩
 ·exact .inl h0
 ·exact .inr ⟨g,cap,d,f,zL c h1,h2⟩
theorem Gx (w:World)(a:Array Value)(n:Nat)(h:a.size=n)(hm:n≤maxLen):(w.alloc (.cells a 9)).ownsRow w.heap.size 9 1 (.slice (some ⟨w.heap.size,0,none⟩) n n) n a.toList:=by
 refine ⟨by simp[h],.inr ⟨w.heap.size,n,a,rfl,NLN,heap_alloc_new w _,NLN,hm,by omega, ?_⟩⟩;rw[Nat.mul_one,zk (by simp;omega)]
theorem VH (x:Sy):g0 x=⟨x.str.toArray⟩:=rfl
theorem AbZ (x:Sy)(t:List UInt8)(w:World)(h:(∀ u,x≠.t u)∧x≠.scope∧x≠.compared∧x≠.sumMore∧x≠.termMore):Calls Tryz.prog 36 #[.string (g0 x),.string (AB t)] w (ExA (An x t) w):=by
 obtain ⟨a,c⟩:∃ a,a=AB t:=⟨_,rfl⟩
 have d:=Ab (fun u=>show (t=u)=((a.toList== u)=true) by rw[c,TC,zF]);have f:=Ab c;rw[← c,VH];clear c;cases x
 case t u=>exact absurd rfl (h.1 u)
 case scope=>exact absurd rfl h.2.1
 case compared=>exact absurd rfl h.2.2.1
 case sumMore=>exact absurd rfl h.2.2.2.1
 case termMore=>exact absurd rfl h.2.2.2.2
 all_goals
  clear h;dsimp only[Sy.str]
 case' policy=>cases b:(a.toList== [108,101,116]);cases e1:(a.toList== [119,104,101,110])
 case' decision=>cases b:(a.toList== [103,114,97,110,116])
 case' expr=>cases b:(a.toList== [105,102])
 case' orMore=>cases b:(a.toList== [111,114])
 case' andMore=>cases b:(a.toList== [97,110,100])
 case' not_=>cases b:(a.toList== [110,111,116])
 case' unary=>cases b:(a.toList== [45])
 case' primary=>cases b:(a.toList== [40]);cases e1:(a.toList== [115,105,122,101]);cases e2:(a.toList== [123]);cases e3:(a.toList== [84,69,88,84]);cases e4:(a.toList== [78,65,77,69]);cases e5:(a.toList== [116,114,117,101]);cases i:(a.toList== [102,97,108,115,101])
 case' scopes=>cases b:(a.toList== [125])
 case' scopesMore=>cases b:(a.toList== [44])
 all_goals
  go_enter Tryz.func36,Tryz.ntmps36
  go_wp2_with fail
  go_ret2
  have g:=Aa d;simp only[An,Dq,Bf,BA,DO,kOr,Rm,DT,Bd,AH,Cb,Ch,Fe,Ew,BS,Bl,Bp,Dy,reduceIte,Bool.false_eq_true,or_true,true_or,or_self, *];clear g;rw[Aa f]
  first
  |exact ⟨⟨_,_,rfl,Gx w _ _ rfl (by unfold maxLen;decide)⟩,(Below.refl w.heap.size w).alloc NLN _⟩
  |exact ⟨⟨_,_,rfl,by exact Gx w #[.string (AB t)] 1 rfl (by unfold maxLen;decide)⟩,(Below.refl w.heap.size w).alloc NLN _⟩
  |exact ⟨⟨none,0,rfl,World.ownsRow_nil _ _ _ _⟩,BRN⟩
theorem YF (a:Option Addr)(n c:Nat)(b:List ByteArray)(s:ByteArray)(w:World)(h:BL w a n c b):
  Calls Tryz.prog 74 #[.string s,.slice a n c] w fun e w'=>e= .returned (.bool (Uq b s))∧w'=w:=by
 go_enter Tryz.func74,Tryz.ntmps74
 go_wp2_with fail
 refine (WN a n c b s w h).mono ?_;rintro e w' ⟨rfl,d⟩;rw[d];dsimp only;go_wp2_with fail
 go_ret
 exact ⟨rfl,rfl⟩
theorem YG (k:Nat)(t:List UInt8):Uq ((A9 k).map AB) (AB t)=decide (t∈A9 k):=by
 by_cases h:t∈A9 k
 ·rw[zR h,JL];exact zb.2 ⟨t,h,rfl⟩
 ·rw[zK h,Z2,Ne,JL];intro hm;obtain ⟨x,hx,he⟩:=zb.1 hm;exact h (by rw[← Rl he];exact hx)
theorem WO:∀ k < 7,∀ j < 6,(D0 ((A9 k).map AB) j).size≤32:=by decide
def YH (k:Nat):Array Value:=((A9 k).map fun s=>Value.string (AB s)).toArray
theorem EA (k n:Nat)(hk:(A9 k).length=n)(a:n≤6)(h7:k < 7)(w:World):BL (w.alloc (.cells (YH k) 9)) (some ⟨w.heap.size,0,none⟩) n n ((A9 k).map AB):=
 BL.of_owns (by
  have h:=Gx w (YH k) n (by simp[YH,hk]) (by unfold maxLen;omega);rw[show (YH k).toList=((A9 k).map AB).map Value.string by simp[YH]] at h;exact h) (fun j b=>zL (WO k h7 j (by omega)) (by unfold maxLen;decide))
theorem E8 (f k n:Nat)(h:f= 75∧k=4∧n=6∨f= 76∧k=5∧n=4∨f= 77∧k=6∧n=4)(w:World):Calls Tryz.prog f #[] w fun r w'=>r= .returned (.slice (some ⟨w.heap.size,0,none⟩) n n)∧w'=w.alloc (.cells (YH k) 9):=by
 rcases h with ⟨rfl,rfl,rfl⟩ | ⟨rfl,rfl,rfl⟩ | ⟨rfl,rfl,rfl⟩
 case' inl=>go_enter Tryz.func75,Tryz.ntmps75
 case' inr.inl=>go_enter Tryz.func76,Tryz.ntmps76
 case' inr.inr=>go_enter Tryz.func77,Tryz.ntmps77
 all_goals
  go_wp2_with fail
  go_ret
  exact ⟨rfl,rfl⟩
theorem Ur (x:Sy)(t:List UInt8)(w:World)(hx:x= .compared∨x= .sumMore∨x= .termMore):Calls Tryz.prog 36 #[.string (g0 x),.string (AB t)] w (ExA (An x t) w):=by
 have g:=Ab (YG · t);rw[VH];rcases hx with rfl | rfl | rfl
 case' inl=>by_cases h:t∈A9 4
 case' inr.inl=>by_cases h:t∈A9 5
 case' inr.inr=>by_cases h:t∈A9 6
 all_goals
  dsimp only[Sy.str]
  first
  |rw[An,if_pos h]
   have d:=Ab (zR h)
  |rw[An,if_neg h]
   have d:=Ab (zK h)
  clear h;go_enter Tryz.func36,Tryz.ntmps36
  go_wp2_with fail
  first
  |refine (E8 _ 4 6 (.inl ⟨rfl,rfl,rfl⟩) w).mono ?_
   have hs:=EA 4 6 rfl (by decide) (by decide) w
  |refine (E8 _ 5 4 (.inr (.inl ⟨rfl,rfl,rfl⟩)) w).mono ?_
   have hs:=EA 5 4 rfl (by decide) (by decide) w
  |refine (E8 _ 6 4 (.inr (.inr ⟨rfl,rfl,rfl⟩)) w).mono ?_
   have hs:=EA 6 4 rfl (by decide) (by decide) w
  rintro r a ⟨rfl,c⟩;rw[← c] at hs;have b:Below w.heap.size w a:=c ▸ (Below.refl w.heap.size w).alloc NLN _;clear c;dsimp only;go_wp2_with fail
  refine (YF _ _ _ _ _ _ hs).mono ?_;rintro r i ⟨rfl,f⟩;rw[f,Aa g,Aa d];clear f hs;dsimp only;go_wp2_with fail
  go_ret2
  first
  |exact ⟨⟨none,0,rfl,World.ownsRow_nil _ _ _ _⟩,b⟩
  |refine ⟨⟨_,_,rfl,WM (B:=a.heap.size) ?_ b.size⟩,b.alloc b.size _⟩
   first
   |exact Gx a #[.string (AB t),_,_] 3 rfl (by unfold maxLen;decide)
   |exact Gx a #[.string (AB t),_] 2 rfl (by unfold maxLen;decide)
def SyA:List (List UInt8):= [Sy.policy,.decision,.expr,.orMore,.and_,.andMore,.not_,.compared,.sum,.sumMore,.term,.termMore,.unary,.primary,.scopes,.scopesMore].map Sy.str
theorem VI (s t:List UInt8)(hs:s ∉ SyA)(w:World):Calls Tryz.prog 36 #[.string (AB s),.string (AB t)] w (ExA none w):=by
 have a:∀ u∈SyA,((AB s).toList== u)=false:=fun u hu=>by
  rw[TC];exact zK fun h=>hs (h ▸ hu)
 simp only[SyA,Sy.str,List.map_cons,Z1,List.forall_mem_cons] at a;clear hs;generalize AB s=b at a ⊢;generalize AB t=c;obtain ⟨d,e1,e2,e3,e4,e5,f,g,i,j,k,l,m,n,o,p,-⟩:=a;go_enter Tryz.func36,Tryz.ntmps36
 go_wp2_with fail
 go_ret2
 exact ⟨rfl,BRN⟩
theorem ML (x:Sy)(hx:okY x)(t:List UInt8)(w:World):Calls Tryz.prog 36 #[.string (g0 x),.string (AB t)] w (ExA (An x t) w):=by
 cases x
 case compared=>exact Ur _ t w (.inl rfl)
 case sumMore=>exact Ur _ t w (.inr (.inl rfl))
 case termMore=>exact Ur _ t w (.inr (.inr rfl))
 case scope=>exact VI _ t (by decide) w
 case t s=>
  refine VI s t ((show ∀ u∈Cq ++ [N8,Fe,Ew],u ∉ SyA by decide) s ?_) w;rcases hx with h | h | h | h
  ·exact za _ h
  all_goals rw[h];decide
 all_goals exact AbZ _ t w (by simp)
end Go.Proofs.YtffkofkjpckmpaaGreatDoor
