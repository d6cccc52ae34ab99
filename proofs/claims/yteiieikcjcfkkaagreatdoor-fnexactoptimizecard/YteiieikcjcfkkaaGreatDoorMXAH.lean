import Derived.Test.YteiieikcjcfkkaaGreatDoorMXAC
open Go.Proofs.Tryz
open Option renaming none->T,some->X
open Go.Value renaming int->U,string->Q
open Go.IntKind renaming i64->V
open Go renaming World->Z,Value->R,Calls->jE,bodyPost_ret->jN
open Bool renaming true->jA,false->jC
open Go.Ending renaming returned->jH
open Go.Region renaming wanted->jz
open Go.Proofs.Tryz renaming prog->j4
namespace Go.Proofs.YteiieikcjcfkkaaGreatDoor
set_option maxRecDepth 100000
set_option maxHeartbeats 6400000
open Go.RowKit
set_option linter.unusedVariables false
variable {K:Act->Z->Prop}{ops:Array Oper}{tmps:Array R}{g:Exit->Act->Z->Prop}{b:Nat}{o:Oper}{P:Program}{i:Prop}{a c d:R}{w:Z}
def Nn:Array R:=#[U V 26,U V 1,Q ⟨#[111,114]⟩,U V 25,U V 2,Q ⟨#[97,110,100]⟩,U V 19,U V 4,Q ⟨#[61,61]⟩,U V 20,U V 4,Q ⟨#[33,61]⟩,U V 21,U V 4,Q ⟨#[60]⟩,U V 22,U V 4,Q ⟨#[60,61]⟩,U V 23,U V 4,Q ⟨#[105,110]⟩,U V 24,U V 4,Q ⟨#[119,105,116,104,105,110]⟩,U V 11,U V 5,Q ⟨#[43]⟩,U V 12,U V 5,Q ⟨#[45]⟩,U V 16,U V 5,Q ⟨#[124]⟩,U V 18,U V 5,Q ⟨#[92]⟩,U V 13,U V 6,Q ⟨#[42]⟩,U V 14,U V 6,Q ⟨#[47]⟩,U V 15,U V 6,Q ⟨#[37]⟩,U V 17,U V 6,Q ⟨#[38]⟩]
structure Opr where
 op:Int
 lv:Int
 text:ByteArray
def Tw:Nat->Opr
 |0=>⟨26,1,⟨#[111,114]⟩⟩
 |1=>⟨25,2,⟨#[97,110,100]⟩⟩
 |2=>⟨19,4,⟨#[61,61]⟩⟩
 |3=>⟨20,4,⟨#[33,61]⟩⟩
 |4=>⟨21,4,⟨#[60]⟩⟩
 |5=>⟨22,4,⟨#[60,61]⟩⟩
 |6=>⟨23,4,⟨#[105,110]⟩⟩
 |7=>⟨24,4,⟨#[119,105,116,104,105,110]⟩⟩
 |8=>⟨11,5,⟨#[43]⟩⟩
 |9=>⟨12,5,⟨#[45]⟩⟩
 |10=>⟨16,5,⟨#[124]⟩⟩
 |11=>⟨18,5,⟨#[92]⟩⟩
 |12=>⟨13,6,⟨#[42]⟩⟩
 |13=>⟨14,6,⟨#[47]⟩⟩
 |14=>⟨15,6,⟨#[37]⟩⟩
 |15=>⟨17,6,⟨#[38]⟩⟩
 |_=>⟨0,0,⟨#[]⟩⟩
theorem WG:∀k,k<16->Nn.extract (k*3) (k*3+3)= #[U V (Tw k).op,U V (Tw k).lv,Q (Tw k).text]
 |0,_=>rfl
 |1,_=>rfl
 |2,_=>rfl
 |3,_=>rfl
 |4,_=>rfl
 |5,_=>rfl
 |6,_=>rfl
 |7,_=>rfl
 |8,_=>rfl
 |9,_=>rfl
 |10,_=>rfl
 |11,_=>rfl
 |12,_=>rfl
 |13,_=>rfl
 |14,_=>rfl
 |15,_=>rfl
 |n+16,h=>absurd h (by omega)
theorem Afv (op:Int)(h: 11<=op/\op<=26):∃k,k<16/\(Tw k).op=op:=by
 have:op=11\/op=12\/op=13\/op=14\/op=15\/op=16\/op=17\/op=18\/op=19\/op=20\/op=21\/op=22\/op=23\/op=24\/op=25\/op=26:=by omega
 rcases this with e|e|e|e|e|e|e|e|e|e|e|e|e|e|e|e<;>subst e
 ·exact⟨8,by decide,rfl⟩
 ·exact⟨9,by decide,rfl⟩
 ·exact⟨12,by decide,rfl⟩
 ·exact⟨13,by decide,rfl⟩
 ·exact⟨14,by decide,rfl⟩
 ·exact⟨10,by decide,rfl⟩
 ·exact⟨15,by decide,rfl⟩
 ·exact⟨11,by decide,rfl⟩
 ·exact⟨2,by decide,rfl⟩
 ·exact⟨3,by decide,rfl⟩
 ·exact⟨4,by decide,rfl⟩
 ·exact⟨5,by decide,rfl⟩
 ·exact⟨6,by decide,rfl⟩
 ·exact⟨7,by decide,rfl⟩
 ·exact⟨1,by decide,rfl⟩
 ·exact⟨0,by decide,rfl⟩
theorem AiM:∀k,k<16->11<=(Tw k).op/\(Tw k).op<=26
 |0,_|1,_|2,_|3,_|4,_|5,_|6,_|7,_|8,_|9,_|10,_|11,_|12,_|13,_|14,_|15,_=>by decide
 |n+16,h=>absurd h (by omega)
def Ua (op:Int):Bool:=decide (11<=op/\op<=26)
def AiN (op:Int) (e:Ending):Prop:=∃ (x y:Int) (s:ByteArray),e=jH (.tuple #[.agg #[U V x,U V y,Q s],.bool (Ua op)])
theorem PJ {t:TypeId}(R:Ag w b #[a,c,d] t):w.cell? ⟨b,0,T⟩=X a/\w.cell? ⟨b,1,T⟩=X c/\w.cell? ⟨b,2,T⟩=X d/\∀j,w.frozen? ⟨b,j,T⟩=jC:=
 ⟨R.cell 0,R.cell 1,R.cell 2,fun j=>R.frozen j⟩
theorem Abi {fn:Func}{a b:Tmp}(h:fn.results= #[.cell a 239,.tmp b]){g:Nat}{c d f u:R}(i:tmps.getD a undef= .pointer (X ⟨g,0,T⟩))(j:tmps.getD b undef=u)
  (g0:w.cell? ⟨g,0,T⟩=X c)(g1:w.cell? ⟨g,1,T⟩=X d)(g2:w.cell? ⟨g,2,T⟩=X f):
  (results fn tmps).run j4 w= .ok (.tuple #[.agg #[c,d,f],u]) w:=by
 rw[Array.getD_eq_getD_getElem?]at i j;simp[results,h,i,j,go_sem,g0,g1,g2]
theorem Gj (op:Int)(w:Z)(z: 4 <w.heap.size)(hc:∀k,w.cell? ⟨4,k,T⟩=Nn[k]?):
  jE j4 159 #[U V op] w fun e w'=>AiN op e/\Ah w w':=by
 have s:=Ab (show ∀k,(w.alloc (.cells #[U V 0,U V 0,Q ⟨#[]⟩] 239)).cell? ⟨4,k,T⟩=Nn[k]? from fun k=>(World.cell?_alloc_lt _ _ ⟨4,k,T⟩ z).trans (hc k));clear hc;have t:=Av w (.cells #[U V 0,U V 0,Q ⟨#[]⟩] 239);have u:=Ag.new w #[U V 0,U V 0,Q ⟨#[]⟩] 239;go_enter func159,ntmps159
 go_wp2_with (refine Ek rfl 272 _ rfl 4 rfl Nn _ (Aa s) underlying272 rfl (by kernel_rfl) ?_)
 clear s;go_loopw [7] (fun i wr=>∃k:Nat,k<=16/\i=U V k/\Ah w wr/\Ag wr w.heap.size #[U V 0,U V 0,Q ⟨#[]⟩] 239/\∀j,j<k->(Tw j).op≠op) (fun i _=>16-(intOf i).toNat)
 case atStart=>exact⟨0,by omega,rfl,t,u,fun j h=>absurd h (by omega)⟩
 case round=>
  obtain⟨k,K,rfl,d,a,v⟩:=hrel;have f:=Ab v;clear v t u;by_cases g:k<16
  ·have L:(k:Int)<16:=by omega
   have q:=Ab (WG k g);have x:=Ab (AiM k g);have l:=Ab g;have M:=a.lt;have m:=Ab (show(Tw k).op≠op->∀j,j<k+1->(Tw j).op≠op from fun e j y=>by
    by_cases A:j=k
    ·subst A;exact e
    ·exact Aa f j (by omega))
   have b:=Ab (show(Tw k).op=op->Ua op=jA from fun e=>by rw[<-e];exact zL (Aa x));clear f x g;generalize Tw k=o at q m b;have B:=d.alloc d.size (.cells #[U V o.op,U V o.lv,Q o.text] 239);have C:=a.alloc (.cells #[U V o.op,U V o.lv,Q o.text] 239);by_cases c:o.op=op
   ·have eo:(o.op==op)=jA:=zM.2 c;have D:=Ab (Aa b c);clear c b m;obtain⟨E,F,G,H⟩:=PJ a;go_wp2_with (refine Bq rfl 272 _ _ rfl Nn rfl k rfl 16 239 underlying272 (Aa l) _ underlying239 rfl 3 (by kernel_rfl) _ (Aa q) ?_)
    have r:Ag _ w.heap.size #[U V o.op,U V o.lv,Q o.text] 239:=(((a.set 0 (U V o.op)).set 1 (U V o.lv)).set 2 (Q o.text)).alloc (.cells #[U V o.op,U V o.lv,Q o.text] 239);have n:=(((d.setCell (p:=⟨w.heap.size,0,T⟩) NLN (U V o.op)).setCell (p:=⟨w.heap.size,1,T⟩) NLN (U V o.lv)).setCell (p:=⟨w.heap.size,2,T⟩) NLN (Q o.text))
    have I:=n.alloc n.size (.cells #[U V o.op,U V o.lv,Q o.text] 239);obtain⟨g0,g1,g2,gf⟩:=PJ r;exact jN (Abi results159 rfl rfl g0 g1 g2) rfl ⟨⟨_,_,_,by rw[Aa D];rfl⟩,I⟩
   ·have eo:(o.op==op)=jC:=zA.2 c;have J:=Ab (Aa m c);clear c b m;go_wp2_with (refine Bq rfl 272 _ _ rfl Nn rfl k rfl 16 239 underlying272 (Aa l) _ underlying239 rfl 3 (by kernel_rfl) _ (Aa q) ?_)
    go_roundw
    case rel=>exact⟨k+1,Aa l,by go_num,B,C,Aa J⟩
    case measure=>have:=Aa l;simp[intOf];omega
  ·have e:k=16:=by omega
   subst e;have b:=Ab (show Ua op=jC from zJ fun h=>by
    obtain⟨j,y,e⟩:=Afv op h;exact Aa f j y e)
   clear f;obtain⟨E,F,G,H⟩:=PJ a;go_wp2_with fail
   have r:Ag _ w.heap.size #[U V 0,U V 0,Q ⟨#[]⟩] 239:=((a.set 0 (U V 0)).set 1 (U V 0)).set 2 (Q ⟨#[]⟩);have n:=(((d.setCell (p:=⟨w.heap.size,0,T⟩) NLN (U V 0)).setCell (p:=⟨w.heap.size,1,T⟩) NLN (U V 0)).setCell (p:=⟨w.heap.size,2,T⟩) NLN (Q ⟨#[]⟩))
   obtain⟨g0,g1,g2,gf⟩:=PJ r;exact jN (Abi results159 rfl rfl g0 g1 g2) rfl ⟨⟨_,_,_,by rw[Aa b];rfl⟩,n⟩
theorem Iu (op:Int)(w:Z)(d: 4 <w.heap.size)(hc:∀k,w.cell? ⟨4,k,T⟩=Nn[k]?):
  jE j4 130 #[U V op] w fun e w'=>e=jH (U V (CI op))/\Ah w w':=by
 have f:=Ab hc;clear hc;by_cases h0: 1<=op/\op<=7
 ·have:op=1\/op=2\/op=3\/op=4\/op=5\/op=6\/op=7:=by omega
  rcases this with e|e|e|e|e|e|e<;>subst e<;>(go_enter func130,ntmps130;go_wp2;go_ret;exact⟨rfl,BRN⟩)
 by_cases h1: 8<=op/\op<=10
 ·have:op=8\/op=9\/op=10:=by omega
  rcases this with e|e|e<;>subst e<;>(go_enter func130,ntmps130;go_wp2;go_ret;exact⟨rfl,BRN⟩)
 by_cases h3:op=27
 ·subst h3;go_enter func130,ntmps130
  go_wp2
  go_ret
  exact⟨rfl,BRN⟩
 have g:=Ab (show CI op=if Ua op=jA then 2 else -1 by
  rw[CI,if_neg h0,if_neg h1,Ua];by_cases h2: 11<=op/\op<=26
  ·rw[if_pos h2,if_pos (zL h2)]
  ·rw[if_neg h2,if_neg h3,if_neg (by rw[zJ h2];decide)])
 have e1:(op==1)=jC:=zA.2 (by omega);have e2:(op==2)=jC:=zA.2 (by omega);have e3:(op==3)=jC:=zA.2 (by omega);have e4:(op==4)=jC:=zA.2 (by omega);have e5:(op==5)=jC:=zA.2 (by omega);have e6:(op==6)=jC:=zA.2 (by omega);have e7:(op==7)=jC:=zA.2 (by omega);have m:(op==8)=jC:=zA.2 (by omega);have n:(op==9)=jC:=zA.2 (by omega);have o:(op==10)=jC:=zA.2 (by omega);have p:(op==27)=jC:=zA.2 (by omega);clear h0 h1 h3;go_enter func130,ntmps130
 cases c:Ua op
 ·have a:=Ab c;clear c;go_wp2_with (go_at_call 159;refine(Gj _ _ d (Aa f)).mono ?_;rintro e h ⟨⟨i,j,l,rfl⟩,b⟩;rw[Aa a])
  go_ret
  exact⟨by rw[Aa g,Aa a];rfl,b.alloc b.size _⟩
 ·have a:=Ab c;clear c;go_wp2_with (go_at_call 159;refine(Gj _ _ d (Aa f)).mono ?_;rintro e h ⟨⟨i,j,l,rfl⟩,b⟩;rw[Aa a])
  go_ret
  exact⟨by rw[Aa g,Aa a];rfl,b.alloc b.size _⟩
theorem QN {a:Act}{d:Exit->Act->Z->Prop}{g:Prop}(i:o.guard=T)(f:FuncId)(fn:Func)(hf:P.funcs[f]? =X fn)(j:(fn.name== "runtime.NumGoroutine")=jC)(c:fn.body.isNone=jC)(x:Operand)(k:Array TypeId)
  (l:o.op= .call { callee:= .value (.func f),args:=#[x],argTypes:=k })(b:Value)(hx:a.eval x=b)
  (R:Value->Z->Prop)(hc:jE P f #[b] w fun e w'=>∃v,e=jH v/\R v w')(h:∀v w',R v w'->K (a.put o.dst v) w'):
  if jz o (yielded ops a.tmps)=jA then Oper.wp P o a w K d else g:=by
 have m:jz o (yielded ops a.tmps)=jA:=by simp[jz,i]
 rw[if_pos m];unfold Oper.wp;have n:(execOp a.eval o).run P w= .ok (.enter f #[b]) w:=by
  subst hx;have h1:fn.name≠ "runtime.NumGoroutine" :=by simpa using j
  have h2:(callFunc f #[a.eval x]).run P w= .ok (.enter f #[a.eval x]) w:=by
   have h3:fn.body≠T:=fun e=>by rw[e]at c;cases c
   simp[callFunc,hf,h1,h3]
  simpa[execOp,l,resolve,invoke,Act.eval,Result.andThen,go_sem]using h2
 rw[n,Oper.upon_enter];refine hc.mono ?_;rintro e w' ⟨v,rfl,p⟩;exact h v w' p
theorem Gz {f:FuncId}{args:Array R}{A:Ending->Z->Prop}(h:jE P f args w A)(b:∀e w',A e w'->∃v,e=jH v):jE P f args w fun e w'=>∃v,e=jH v/\A (jH v) w':=
 h.mono fun e w' a=>by
  obtain⟨v,rfl⟩:=b e w' a;exact⟨v,rfl,a⟩
theorem Bg {v u:R}(h:jH v=jH u):v=u:=by cases h;rfl
theorem AE {a:Act}(j:o.guard=T)(f:FuncId)(fn:Func)(hf:P.funcs[f]? =X fn)(k:(fn.name== "runtime.NumGoroutine")=jC)(d:fn.body.isNone=jC)(x y:Operand)(l:Array TypeId)
  (m:o.op= .call { callee:= .value (.func f),args:=#[x,y],argTypes:=l })(b c:Value)(hx:a.eval x=b)(hy:a.eval y=c)
  (R:Value->Z->Prop)(hc:jE P f #[b,c] w fun e w'=>∃v,e=jH v/\R v w')(h:∀v w',R v w'->K (a.put o.dst v) w'):
  if jz o (yielded ops a.tmps)=jA then Oper.wp P o a w K g else i:=by
 have n:jz o (yielded ops a.tmps)=jA:=by simp[jz,j]
 rw[if_pos n];unfold Oper.wp;have p:(execOp a.eval o).run P w= .ok (.enter f #[b,c]) w:=by
  subst hx hy;have h1:fn.name≠ "runtime.NumGoroutine" :=by simpa using k
  have h2:(callFunc f #[a.eval x,a.eval y]).run P w= .ok (.enter f #[a.eval x,a.eval y]) w:=by
   have h3:fn.body≠T:=fun e=>by rw[e]at d;cases d
   simp[callFunc,hf,h1,h3]
  simpa[execOp,m,resolve,invoke,Act.eval,Result.andThen,go_sem]using h2
 rw[p,Oper.upon_enter];refine hc.mono ?_;rintro e w' ⟨v,rfl,q⟩;exact h v w' q
end Go.Proofs.YteiieikcjcfkkaaGreatDoor
