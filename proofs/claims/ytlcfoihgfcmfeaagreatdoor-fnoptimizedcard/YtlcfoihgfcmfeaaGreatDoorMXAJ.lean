import Derived.Test.YtlcfoihgfcmfeaaGreatDoorMXAH
import Derived.Laws.AppendOwnNone
import Derived.Deep.RegionLaw
import Derived.Test.YtlcfoihgfcmfeaaGreatDoorMXAC
namespace Go.Proofs.YtlcfoihgfcmfeaaGreatDoor
open Proofs.Tryz
open World renaming heap->Q,ownsRow->jP
open Proofs.Tryz renaming prog->jZ
open Go.RowKit
set_option linter.unusedVariables false
variable{a:Act}{g:Array Oper}{j:Exit->Act->World->Prop}{rest:List Oper}{n c:Nat}{o:Oper}{w:World}
theorem Am.dK{a:Addr}{ss:M6}(hq:Am w (some a) n c ss):∀j u,(ss.map Value.string)[j]?=some u->World.cell? w (a.add j)=some u:=λj u hu=>by rw[zi,Z6]at hu;obtain⟨s,hs,rfl⟩:=hu;have b:j<List.length ss:=(zL.1 hs).1;obtain⟨b1,d,f,_,hc⟩:=hq.cells j<|G7 hq.len;simp only[Option.some.injEq]at f;subst f;have g:((Addr.mk b1 d none):Addr).add j=⟨b1,d+j,none⟩:=Ga;rw[g,hc,Dw _ j b];rw[zE b]at hs;cases hs;rfl
theorem OF(k:o.guard=none)(s x:Operand)(l:o.op=.call {callee:=.builtin .append,args:=#[s,x],argTypes:=#[31,31]})(base:Nat)(v:Value)(n:Nat)(d:List Value)(hs:a.eval s=v)(f:jP w base 9 1 v n d)(b:M2 Addr)(m c:Nat)(ss:M6)(hx:a.eval x=.slice b m c)(hq:Am w b m c ss)(p:b=none->c=0)(A:n+m<=1048576)(q:base<=Array.size (Q w))(h:∀v' w',jP w' base 9 1 v' (n+m) (d++ss.map Value.string)->w.grownBy w' (Value.ownBlock v)->wpList jZ g j rest (a.put o.dst v') w'):wpList jZ g j (o::rest) a w:=by obtain⟨i,hi,r,t,y⟩:=info_parts Gd;cases b with|none=>obtain rfl:=p rfl;have hm:m=0:=G7 hq.cap;subst hm;have z:ss=[]:=z4<|G7 hq.len;subst z;refine wpList_append_own_none k s x 31 l base 9 i 1 underlying31 hi v n d hs f hx<|h v w (by simpa using f) ?_;exact⟨rfl,rfl,rfl,NLN,λ_ _ _=>rfl⟩|some b=>
  refine J7 _ k s x 31 l base 9 i (.string ByteArray.empty) 1 16 underlying31 hi r t y rfl Ob v n d hs f b m c (ss.map Value.string) hx ?_ hq.dK ?_ ?_ ?_ q (λv' w' h1 h2 _=>h v' w' h1 h2)
  .have:=hq.len;simp;omega
  .intro u hu;obtain⟨s,_,rfl⟩:=zU.1 hu;rfl
  .unfold maxLen;omega
  omega
theorem WF{base n c:Nat}{x:M2 Addr}{b:List Value}(h:jP w base 9 1 (.slice x n c) n b):x=none->c=0:=λe=>by
 obtain⟨a,_⟩|⟨g,cap,d,a,_⟩:=h.2
 .simp only[Value.slice.injEq]at a;exact a.2.2
 subst e;simp only[Value.slice.injEq]at a;cases a.1
set_option maxRecDepth 100000
theorem Dh{b:Act}(l:o.guard=none)(s x:Operand)(m:o.op=.call {callee:=.builtin .append,args:=#[s,x],argTypes:=#[31,31]})(base:Nat)(v:Value)(k:Nat)(d:List Value)(hs:b.eval s=v)(f:jP w base 9 1 v k d)(a:M2 Addr)(n c:Nat)(ss:M6)(hx:b.eval x=.slice a n c)(h:Am w a n c ss)(hc:a=none->c=0)(D:k+n<=1048576)(p:base<=Array.size (Q w))(r:∀v' w',jP w' base 9 1 v' (k+n) (d++ss.map Value.string)->Below base w w'->wpList jZ g j rest (b.put o.dst v') w'):wpList jZ g j (o::rest) b w:=by
 obtain⟨i,hi,t,y,z⟩:=info_parts Gd;cases a with|none=>
   have h0:n=0:=by obtain q|q:=Nat.eq_zero_or_pos n;all_goals grind[Am.cells]
   obtain rfl:=hc rfl;subst h0;obtain rfl:ss=[]:=z4 h.len.symm;exact wpList_append_own_none l s x 31 m base 9 i 1 underlying31 hi v k d hs f hx<|r v w (by simpa using f) BRN|some A=>
   refine J7 w l s x 31 m base 9 i (.string ByteArray.empty) 1 16 underlying31 hi t y z rfl Ob v k d hs f A n c (ss.map Value.string) hx ?_ (Am.dK h) ?_ ?_ ?_ p ?_
   .grind[Am.len]
   .intro u hu;obtain⟨s,_,rfl⟩:=zU.1 hu;rfl
   .unfold maxLen;omega
   .omega
   intro v' w' B C _;exact r v' w' B<|BRN.grown C p λq hq=>(f.lt q hq).1
def AD:Ex->Bool|.un _ op k=>!decide (op=8)&&AD k|.bin _ op l r=>!decide (11<=op/\op<=16)&&(AD l&&AD r)|.ite _ c t e=>AD c&&(AD t&&AD e)|_=>true
end Go.Proofs.YtlcfoihgfcmfeaaGreatDoor
