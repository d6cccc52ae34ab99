import Derived.Test.YtnjpihpohilnjaaGreatDoorMXAP
import Derived.Lib.ItoaNum
open List renaming length->T
open Option renaming none->U,some->Q
open Array renaming size->R
open Go renaming World->jB,Value->jF,Addr->jG
open Bool renaming true->jD,false->jE
open ByteArray renaming empty->jW
namespace Go.Proofs.YtnjpihpohilnjaaGreatDoor
open Proofs.Tryz
open Value renaming int->V,slice->Y,string->jC,pointer->jP,tuple->jQ,iface->jU
open IntKind renaming i64->X
open World renaming heap->Z,cell?->jI,ownsRow->jO
open Ending renaming returned->jN
open Addr renaming block->jT
open Proofs.Tryz renaming prog->jZ
open Go.RowKit
set_option linter.unusedVariables false
set_option maxRecDepth 100000
set_option maxHeartbeats 4000000
variable{x b:Int}{p:Int×Int}{N:L6}{a q:Nat}{w w':jB}
inductive Ex where
 |int (i n:Int)
 |text (i:Int) (s:ByteArray)
 |bool (i:Int) (b:Bool)
 |set (i:Int) (a:Option jG) (n c:Nat) (ss:List ByteArray)
 |name (i:Int) (s:ByteArray)
 |attr (i n:Int)
 |lett (i n:Int)
 |un (i op:Int) (k:Ex)
 |bin (i op:Int) (l r:Ex)
 |ite (i:Int) (c t e:Ex)
abbrev L8:=List Ex
abbrev M3:=L0 Ex
def Ex.op:Ex->Int
 |.int .. =>1| .text .. =>2| .bool .. =>3| .set .. =>4| .name .. =>5| .attr .. =>6| .lett .. =>7
 |.un _ op _=>op| .bin _ op _ _=>op| .ite .. =>27
def Ex.aL:Ex->Nat
 |.un _ _ k=>k.aL+1
 |.bin _ _ l r=>l.aL+r.aL+1
 |.ite _ c t e=>c.aL+t.aL+e.aL+1
 |_=>1
def Ex.fit (w:jB):Ex->Prop
 |.int _ n=>0<=n/\n<=9223372036854775807
 |.text _ s=>s.size<=32
 |.bool .. =>True
 |.set _ a n c ss=>Aq w a n c ss/\n<=64/\∀x∈ss,x.size<=32
 |.name _ s=>s.size<=32
 |.attr .. =>False
 |.lett .. =>False
 |.un _ op k=>(8<=op/\op<=10)/\k.fit w
 |.bin _ op l r=>(11<=op/\op<=26)/\l.fit w/\r.fit w
 |.ite _ c t e=>c.fit w/\t.fit w/\e.fit w
inductive AZ (N:L6):Nat->Ex->Prop
 |int {i:Nat} {x:Nd} (h:N[i]? =Q x) (ho:x.op=1) (hk:x.aD=[]):AZ N i<|.int i x.num
 |text {i:Nat} {x:Nd} (h:N[i]? =Q x) (ho:x.op=2) (hk:x.aD=[]):AZ N i<|.text i x.text
 |bool {i:Nat} {x:Nd} (h:N[i]? =Q x) (ho:x.op=3) (hk:x.aD=[]):AZ N i<|.bool i<|decide (x.num=1)
 |set {i:Nat} {x:Nd} (h:N[i]? =Q x) (ho:x.op=4) (hk:x.aD=[]) (a:Option jG) (n c:Nat):AZ N i<|.set i a n c x.aB
 |name {i:Nat} {x:Nd} (h:N[i]? =Q x) (ho:x.op=5) (hk:x.aD=[]):AZ N i<|.name i x.text
 |attr {i:Nat} {x:Nd} (h:N[i]? =Q x) (ho:x.op=6) (hk:x.aD=[]):AZ N i<|.attr i x.num
 |lett {i:Nat} {x:Nd} (h:N[i]? =Q x) (ho:x.op=7) (hk:x.aD=[]):AZ N i<|.lett i x.num
 |un {i k:Nat} {x:Nd} {e:Ex} (h:N[i]? =Q x) (ho: 8<=x.op/\x.op<=10) (hk:x.aD=[(k:Int)]) (hi:k<i) (t:AZ N k e):AZ N i<|.un i x.op e
 |bin {i k l:Nat} {x:Nd} {e f:Ex} (h:N[i]? =Q x) (ho: 11<=x.op/\x.op<=26) (hk:x.aD=[(k:Int),(l:Int)]) (hi:k<i/\l<i) (t:AZ N k e) (u:AZ N l f):AZ N i<|.bin i x.op e f
 |ite {i k l m:Nat} {x:Nd} {e f g:Ex} (h:N[i]? =Q x) (ho:x.op=27) (hk:x.aD=[(k:Int),(l:Int),(m:Int)]) (hi:k<i/\l<i/\m<i) (t:AZ N k e) (u:AZ N l f) (v:AZ N m g):AZ N i<|.ite i e f g
theorem AZ.lt {i:Nat}{e:Ex}(h:AZ N i e):i<T N:=by cases h<;>exact(zP.1 Q4).1
def QS (Es:L8):Nat:=(Es.map Ex.aL).sum
theorem Jw {b:Nat}{C:List (Nat×Nat)}(h:Av (N.map Nd.aD) a C b):∀(Es:L8),T Es=T C->(∀j,(r:j<T C)->(w:j<T Es)->AZ N C[j].1 Es[j])->a+QS Es=b:=by
 induction h with
 |nil a=>grind [zd,QS]
 |@cons a t b G C d ht K L i2=>
   intro Es F H
   match Es,F with
   |e ::Es,F=>
     have he:AZ N t e:=H 0 Ox Ox;have M:=i2 Es (by simpa using F) (λj r w=>H (j+1) (by simpa using r)<|by simpa using w);have I:∃x,N[t]? =Q x/\x.aD=Au G:=S4;obtain⟨x,hx,J⟩:=I;have O:a+e.aL=t+1:=by
      have E:∀(D:L8) (B:N6),x.aD=B.map (λ(q:Nat)=>(q:Int))->T D=T B->(∀j,(r:j<T B)->(w:j<T D)->AZ N B[j] D[j])->a+QS D=t:=by
       intro D B hq P hF;have e1:G.map (λp=>p.1)=B:=by
        have:=J.symm.trans hq;rw[Au]at this;have w:=congrArg (List.map Int.toNat) this;simpa[List.map_map,Function.comp_def]using w
       grind [zN]
      have o:∀{y:Nd},N[t]? =Q y->y=x:=λh=>K7<|h.symm.trans hx;have A:x.aD=[]->a=t:=λh0=>by
       have:=E [] [] (by rw[h0];rfl) rfl (λj h=>H9 h Ox);simpa[QS]using this
      cases he with
      |int h s d=>rw[A<|o h ▸ d];rfl
      |text h s d=>rw[A<|o h ▸ d];rfl
      |bool h s d=>rw[A<|o h ▸ d];rfl
      |set h s d a n c=>rw[A<|o h ▸ d];rfl
      |name h s d=>rw[A<|o h ▸ d];rfl
      |attr h s d=>rw[A<|o h ▸ d];rfl
      |lett h s d=>rw[A<|o h ▸ d];rfl
      |@un i k y e h s d hi u=>
        have:=E [e] [k] (by rw[<-o h,d];rfl) rfl (λj r w=>by
         have:j=0:=by simpa using r
         subst this;exact u)
        grind [QS,Ex.aL]
      |@bin i k l y e f h s d hi u v=>
        have:=E [e,f] [k,l] (by rw[<-o h,d];rfl) rfl (λj r w=>by
         match j,r with
         |0,_=>exact u
         |1,_=>exact v)
        grind [QS,Ex.aL]
      |@ite i k l m y e f g h s d hi u v z=>
        have:=E [e,f,g] [k,l,m] (by rw[<-o h,d];rfl) rfl (λj r w=>by
         match j,r with
         |0,_=>exact u
         |1,_=>exact v
         |2,_=>exact z)
        grind [QS,Ex.aL]
     grind [QS,Ex.aL]
def BI (n:Int):Int:=if n<2 then 3 else if n<4 then 2 else 4
def By (op:Int):L2->Int
 |[a]=>if op=8/\a=2 then 2 else if op=9/\a=1 then 1 else if op=10/\a=4 then 2 else 0
 |[a,b]=>if (11<=op/\op<=15)/\a=2/\b=2 then 2 else if (16<=op/\op<=18)/\a=4/\b=4 then 4
  else if (op=19\/op=20)/\a=b then 1 else if (op=21\/op=22)/\a=2/\b=2 then 1 else if op=23/\a=3/\b=4 then 1
  else if op=24/\a=4/\b=4 then 1 else if (op=25\/op=26)/\a=1/\b=1 then 1 else 0
 |[a,b,c]=>if a=1/\b=c then b else 0
 |_=>0
def nz (t:Int):N7:=if t=0 then U else Q t
theorem Qw (n:Int): 1<=BI n/\BI n<=4:=by grind [BI]
theorem Ih {t a:Int}(h:nz t=Q a):t=a/\a≠0:=by grind [nz]
def AX (ts:L2):Ex->N7
 |.int .. =>Q 2
 |.text .. =>Q 3
 |.bool .. =>Q 1
 |.set .. =>Q 4
 |.name .. =>U
 |.attr _ n=>Q<|BI n
 |.lett _ n=>if 0<=n then ts[n.toNat]? else U
 |.un _ op k=>match AX ts k with
  |some a=>nz<|By op [a]
  |none=>U
 |.bin _ op l r=>match AX ts l with
  |some a=>match AX ts r with
   |some b=>nz<|By op [a,b]
   |none=>U
  |none=>U
 |.ite _ c t e=>match AX ts c with
  |some a=>match AX ts t with
   |some b=>match AX ts e with
    |some d=>nz<|By 27 [a,b,d]
    |none=>U
   |none=>U
  |none=>U
def Ex.aD:Ex->L8
 |.un _ _ k=> [k]
 |.bin _ _ l r=> [l,r]
 |.ite _ c t e=> [c,t,e]
 |_=> []
def Eh (ts:L2):Ex->L2
 |.un i op k=>Eh ts k++[(AX ts<|.un i op k).getD 0]
 |.bin i op l r=>Eh ts l++Eh ts r++[(AX ts<|.bin i op l r).getD 0]
 |.ite i c t e=>Eh ts c++Eh ts t++Eh ts e++[(AX ts<|.ite i c t e).getD 0]
 |e=> [(AX ts e).getD 0]
theorem QQ (ts:L2):∀(e:Ex),T (Eh ts e)=e.aL:=by intro e;induction e<;>intros<;>grind [Ex.aL,Eh]
def Ex.cA:Ex->Prop
 |.name .. =>False
 |.attr _ n=>0<=n/\n<6
 |.un _ op k=>(8<=op/\op<=10)/\k.cA
 |.bin _ op l r=>(11<=op/\op<=26)/\l.cA/\r.cA
 |.ite _ c t e=>c.cA/\t.cA/\e.cA
 |_=>True
section
structure ES (ss tt:L4) (i j:Nat):Prop where
 i_le:i<=T ss
 j_le:j<=T tt
 A:∀p q,p<i->j<=q->q<T tt->sl (AG ss p) (AG tt q)=jD
 B:∀p q,q<j->i<=p->p<T ss->sl (AG tt q) (AG ss p)=jD
theorem ES.start (ss tt:L4):ES ss tt 0 0:=⟨zE _,zE _,λp q h=>Oa,λp q h=>Oa⟩
variable{ss tt:L4}{i j:Nat}
theorem Xg {a b:K9}(h:sl a b=jD):eqS b a=jE:=by grind [EN,Il]
theorem TQ {a b:K9}(h:sl a b=jD):eqS a b=jE:=by grind [EN,Il]
theorem AaO (a:BM tt=jD){p:Nat}(b:p<=q)(hq:q<T tt){x:K9}(h:sl x (AG tt p)=jD):sl x (AG tt q)=jD:=by grind [Jc,GU]
theorem ES.left (h:ES ss tt i j)(ht:BM tt=jD)(hi:i<T ss)(hc:j<T tt->sl (AG ss i) (AG tt j)=jD):ES ss tt (i+1) j/\Lg tt (AG ss i)=jE:=by
 have d:∀q,j<=q->q<T tt->sl (AG ss i) (AG tt q)=jD:=λq hq a=>AaO ht hq a<|hc Oa;refine⟨⟨Oa,h.j_le,λp q b hq a=>?_,λp q hq b c=>h.B p q hq Oa c⟩,NQ _ _ λq hq=>?_⟩
 all_goals grind [TQ,ES.B,ES.A,Xg]
theorem ES.right (h:ES ss tt i j)(hs:BM ss=jD)(d:j<T tt)(hc:i<T ss->sl (AG tt j) (AG ss i)=jD):ES ss tt i (j+1)/\Lg ss (AG tt j)=jE:=by
 have f:∀p,i<=p->p<T ss->sl (AG tt j) (AG ss p)=jD:=λp a b=>AaO hs a b<|hc Oa;refine⟨⟨h.i_le,Oa,λp q a hq c=>h.A p q a Oa c,λp q hq a b=>?_⟩,NQ _ _ λp a=>?_⟩
 all_goals grind [TQ,ES.B,ES.A,Xg]
theorem ES.cO (h:ES ss tt i j)(hs:BM ss=jD)(ht:BM tt=jD)(hi:i<T ss)(d:j<T tt)(a:sl (AG ss i) (AG tt j)=jE)(b:sl (AG tt j) (AG ss i)=jE):
  ES ss tt (i+1) (j+1)/\Lg tt (AG ss i)=jD/\AG ss i=AG tt j:=by
 have e:=U5 _ _ a b;refine⟨⟨Oa,Oa,λp q c hq f=>?_,λp q hq c g=>?_⟩,?_,e⟩
 all_goals grind [Il,AaP,ES.B,ES.A,GU]
structure KL (ss tt:L4) (i j:Nat) (K:L4):Prop where
 out:K=DU (ss.take i) tt jE
structure KB (ss tt:L4) (i j:Nat) (K:L4):Prop where
 out:K=DU (ss.take i) tt jD
structure KA (ss tt:L4) (i j:Nat) (K:L4):Prop where
 cU:BM K=jD
 mem:∀x,x∈K↔x∈ss.take i\/x∈tt.take j
theorem KL.start:KL ss tt 0 0 []:=⟨rfl⟩
theorem KB.start:KB ss tt 0 0 []:=⟨rfl⟩
theorem KA.start:KA ss tt 0 0 []:=⟨by rfl,Ox⟩
variable{K:L4}
theorem KL.left (k:KL ss tt i j K)(h:ES ss tt i j)(ht:BM tt=jD)(hi:i<T ss)(hc:j<T tt->sl (AG ss i) (AG tt j)=jD):KL ss tt (i+1) j<|K++[AG ss i]:=
 ⟨by rw[QY ss tt jE i hi<|by rw[(h.left ht hi hc).2];rfl,k.out]⟩
theorem KL.right (k:KL ss tt i j K):KL ss tt i (j+1) K:=⟨k.out⟩
theorem KL.cO (k:KL ss tt i j K)(h:ES ss tt i j)(hs:BM ss=jD)(ht:BM tt=jD)(hi:i<T ss)(a:j<T tt)(b:sl (AG ss i) (AG tt j)=jE)(c:sl (AG tt j) (AG ss i)=jE):KL ss tt (i+1) (j+1) K:=
 ⟨by rw[U8 ss tt jE i hi<|by rw[(h.cO hs ht hi a b c).2.1];rfl,k.out]⟩
theorem KL.bZ (k:KL ss tt (T ss) j K):K=DU ss tt jE:=by rw[k.out,z2]
theorem KB.left (k:KB ss tt i j K)(h:ES ss tt i j)(ht:BM tt=jD)(hi:i<T ss)(hc:j<T tt->sl (AG ss i) (AG tt j)=jD):KB ss tt (i+1) j K:=
 ⟨by rw[U8 ss tt jD i hi<|by rw[(h.left ht hi hc).2];rfl,k.out]⟩
theorem KB.right (k:KB ss tt i j K):KB ss tt i (j+1) K:=⟨k.out⟩
theorem KB.cO (k:KB ss tt i j K)(h:ES ss tt i j)(hs:BM ss=jD)(ht:BM tt=jD)(hi:i<T ss)(a:j<T tt)(b:sl (AG ss i) (AG tt j)=jE)(c:sl (AG tt j) (AG ss i)=jE):KB ss tt (i+1) (j+1)<|K++[AG ss i]:=
 ⟨by rw[QY ss tt jD i hi<|by rw[(h.cO hs ht hi a b c).2.1];rfl,k.out]⟩
theorem KB.bZ (k:KB ss tt (T ss) j K):K=DU ss tt jD:=by rw[k.out,z2]
theorem TS (x:K9)(h:BM K=jD)(hx:∀y∈K,sl y x=jD):BM (K++[x])=jD:=by grind [BM]
theorem Gm (x:K9)(h:x∈ss.take i):∃p,p<i/\p<T ss/\AG ss p=x:=by
 obtain⟨p,a,e⟩:=(MO _ _).1 h;have b:T (ss.take i)<=i:=List.length_take_le _ _;have c:T (ss.take i)<=T ss:=O0;refine⟨p,Oa,Oa,?_⟩
 grind [Dd]
theorem KA.left (k:KA ss tt i j K)(h:ES ss tt i j)(hs:BM ss=jD)(hi:i<T ss):KA ss tt (i+1) j<|K++[AG ss i]:=
 ⟨TS _ k.cU λy hy=>by
  rcases(k.mem y).1 hy with hy|hy
  .obtain⟨p,a,b,rfl⟩:=Gm y hy;exact(GU ss).1 hs p i a hi
  .obtain⟨q,hq,c,rfl⟩:=Gm y hy;exact h.B i q hq NLN hi,
 λx=>by rw[zO,k.mem,Dw ss i hi,zO];simp only[zR];constructor<;>intro h<;>(obtain(h|h)|h:=h<;>simp[h])⟩
theorem KA.right (k:KA ss tt i j K)(h:ES ss tt i j)(ht:BM tt=jD)(a:j<T tt):KA ss tt i (j+1)<|K++[AG tt j]:=
 ⟨TS _ k.cU λy hy=>by
  rcases(k.mem y).1 hy with hy|hy
  .obtain⟨p,b,c,rfl⟩:=Gm y hy;exact h.A p j b NLN a
  .obtain⟨q,hq,d,rfl⟩:=Gm y hy;exact(GU tt).1 ht q j hq a,
 λx=>by rw[zO,k.mem,Dw tt j a,zO];simp only[zR];constructor<;>intro h<;>(first|(obtain(h|h)|h:=h<;>simp[h])|(obtain h|h|h:=h<;>simp[h]))⟩
theorem KA.cO (k:KA ss tt i j K)(h:ES ss tt i j)(hs:BM ss=jD)(hi:i<T ss)(d:j<T tt)(a:sl (AG ss i) (AG tt j)=jE)(b:sl (AG tt j) (AG ss i)=jE):KA ss tt (i+1) (j+1)<|K++[AG ss i]:=by
 have e:=U5 _ _ a b;have c:=k.left h hs hi;refine⟨c.cU,λx=>?_⟩
 grind [Dw,KA.mem]
end
theorem MK (x:Int)(w:jB):
  Calls jZ 178 #[V X x] w λe w'=>e=jN (.bool jD)/\w'=w:=by
 go_enter func178,ntmps178
 go_wp2
 go_ret
 exact⟨rfl,rfl⟩
theorem Ce {base e size n k:Nat}{v:jF}{a:L7}(h:jO w base e size v n a):(w.drewN k).ownsRow base e size v n a:=h
theorem AeI (a:L3)(n c:Nat)(ss:L4)(L:L3)(n' c':Nat)(tt:L4)(w:jB)(h:Aq w a n c ss)(G:Aq w L n' c' tt)
  (hs:BM ss=jD)(ht:BM tt=jD)(ai:n<=64)(aj:n'<=64):
  Calls jZ 177 #[Y a n c,Y L n' c',.func (Fn.func 178) #[] #[]] w λe w'=>∃x cx K,e=jN (Y x (T K) cx)/\jO w' (R<|Z w) 9 1 (Y x (T K) cx) (T K) (K.map Value.string)/\Ai w w'/\KA ss tt (T ss) (T tt) K:=by
 obtain⟨i,hi,B,C,D⟩:=info_parts GB;have M:=h.len;have N:=G.len;subst M N;have O:=Ab hs;have P:=Ab ht;go_enter func177,ntmps177
 go_wp2
 go_loopw [7,8,9] (λv i j wr=>∃ (p q:Nat) (K:L4),i=V X p/\j=V X q/\ES ss tt p q/\KA ss tt p q K/\T K<=p+q/\jO wr (R<|Z w) 9 1 v (T K) (K.map Value.string)/\Ai w wr) (λ_ i j _=>T ss+T tt-(intOf i).toNat-(intOf j).toNat)
 case atStart=>exact⟨0,0,[],rfl,rfl,ES.start _ _,KA.start,Ox,H3,BRN⟩
 case round=>
  obtain⟨p,q,K,rfl,rfl,hm,A,ak,f,g⟩:=hrel;have E:=g.size;have F:=hm.i_le;have hq:=hm.j_le;have hs:=Aa O;have ht:=Aa P;by_cases y:p<T ss
  .obtain⟨b,al,S,_,ao⟩:=(h.below g NLN).cells p y;subst S;have W:(p:Int)<(T ss:Int):=Oa;by_cases l:q<T tt
   .obtain⟨aa,ab,H,_,ac⟩:=(G.below g NLN).cells q l;subst H;have ad:(q:Int)<(T tt:Int):=Oa;have eq:((q:Int)==(T tt:Int))=jE:=zA.2 Oa;have ae:((p:Int)==(T ss:Int))=jE:=zA.2 Oa;cases I:Op.bytesLess (AG ss p).toList (AG tt q).toList
    .cases J:Op.bytesLess (AG tt q).toList (AG ss p).toList
     .go_wp2
      go_quiet (fail)
      go_wp2
      go_quiet (fail)
      go_wp2_with (first
       |(go_at_call 178;refine(MK _ _).mono ?_;rintro e w2 ⟨rfl,d⟩;rw[d];clear d)
       |(at_builtin;refine G7 _ rfl _ _ 30 rfl (R<|Z w) 9 i (jC jW) 1 16 underlying30 hi B C D rfl Ob _ _ _ rfl (G1 (Ce f) _) ⟨R<|Z wr,0,U⟩ 1 1 [jC<|AG ss p] rfl rfl ?c1 ?c2 ?c3 ?c4 ?c5 ?_))
      case c1=>exact K4 _ _ _
      case c2=>intro u hu;simp at hu;subst hu;rfl
      case c3=>unfold maxLen;omega
      case c4=>omega
      case c5=>simp;omega
      intro v' m o r _;have s:Ai w m:=((below_drewN g _).alloc E _).grown r O0 λk t=>(f.lt k t).1;go_wp2
      go_roundw
      case rel=>exact⟨p+1,q+1,_,O1,O1,(hm.cO hs ht y l I J).1,(A.cO hm hs y l I J),O7,by rw[zk,zC];exact o,s⟩
      case measure=>simp[intOf];omega
     .have z:p<T ss->sl (AG tt q) (AG ss p)=jD:=λ_=>J;go_wp2
      go_quiet (fail)
      go_wp2
      go_quiet (fail)
      go_wp2_with (first
       |(go_at_call 178;refine(MK _ _).mono ?_;rintro e w2 ⟨rfl,d⟩;rw[d];clear d)
       |(at_builtin;refine G7 _ rfl _ _ 30 rfl (R<|Z w) 9 i (jC jW) 1 16 underlying30 hi B C D rfl Ob _ _ _ rfl (G1 (Ce f) _) ⟨R<|Z wr,0,U⟩ 1 1 [jC<|AG tt q] rfl rfl ?c1 ?c2 ?c3 ?c4 ?c5 ?_))
      case c1=>exact K4 _ _ _
      case c2=>intro u hu;simp at hu;subst hu;rfl
      case c3=>unfold maxLen;omega
      case c4=>omega
      case c5=>simp;omega
      intro v' m o r _;have s:Ai w m:=((below_drewN g _).alloc E _).grown r O0 λk t=>(f.lt k t).1;go_wp2
      go_roundw
      case rel=>exact⟨p,q+1,_,O1,O1,(hm.right hs l λF=>z F).1,(A.right hm ht l),O7,by rw[zk,zC];exact o,s⟩
      case measure=>simp[intOf];omega
    .have z:q<T tt->sl (AG ss p) (AG tt q)=jD:=λ_=>I;go_wp2
     go_quiet (fail)
     go_wp2_with (first
      |(go_at_call 178;refine(MK _ _).mono ?_;rintro e w2 ⟨rfl,d⟩;rw[d];clear d)
      |(at_builtin;refine G7 _ rfl _ _ 30 rfl (R<|Z w) 9 i (jC jW) 1 16 underlying30 hi B C D rfl Ob _ _ _ rfl (G1 (Ce f) _) ⟨R<|Z wr,0,U⟩ 1 1 [jC<|AG ss p] rfl rfl ?c1 ?c2 ?c3 ?c4 ?c5 ?_))
     case c1=>exact K4 _ _ _
     case c2=>intro u hu;simp at hu;subst hu;rfl
     case c3=>unfold maxLen;omega
     case c4=>omega
     case c5=>simp;omega
     intro v' m o r _;have s:Ai w m:=((below_drewN g _).alloc E _).grown r O0 λk t=>(f.lt k t).1;go_wp2
     go_roundw
     case rel=>exact⟨p+1,q,_,O1,O1,(hm.left ht y λhq=>z hq).1,(A.left hm hs y),O7,by rw[zk,zC];exact o,s⟩
     case measure=>simp[intOf];omega
   .have eq:((q:Int)==(T tt:Int))=jD:=zD.2 Oa;have z:q<T tt->sl (AG ss p) (AG tt q)=jD:=λaf=>H9 af l;go_wp2
    go_quiet (fail)
    go_wp2_with (first
     |(go_at_call 178;refine(MK _ _).mono ?_;rintro e w2 ⟨rfl,d⟩;rw[d];clear d)
     |(at_builtin;refine G7 _ rfl _ _ 30 rfl (R<|Z w) 9 i (jC jW) 1 16 underlying30 hi B C D rfl Ob _ _ _ rfl (G1 (Ce f) _) ⟨R<|Z wr,0,U⟩ 1 1 [jC<|AG ss p] rfl rfl ?c1 ?c2 ?c3 ?c4 ?c5 ?_))
    case c1=>exact K4 _ _ _
    case c2=>intro u hu;simp at hu;subst hu;rfl
    case c3=>unfold maxLen;omega
    case c4=>omega
    case c5=>simp;omega
    intro v' m o r _;have s:Ai w m:=((below_drewN g _).alloc E _).grown r O0 λk t=>(f.lt k t).1;go_wp2
    go_roundw
    case rel=>exact⟨p+1,q,_,O1,O1,(hm.left ht y λhq=>z hq).1,(A.left hm hs y),O7,by rw[zk,zC];exact o,s⟩
    case measure=>simp[intOf];omega
  .by_cases l:q<T tt
   .obtain⟨aa,ab,H,_,ac⟩:=(G.below g NLN).cells q l;subst H;have ad:(q:Int)<(T tt:Int):=Oa;have eq:((q:Int)==(T tt:Int))=jE:=zA.2 Oa;have ae:((p:Int)==(T ss:Int))=jD:=zD.2 Oa;have W:decide ((p:Int)<(T ss:Int))=jE:=O0;have z:p<T ss->sl (AG tt q) (AG ss p)=jD:=λag=>H9 ag y;go_wp2
    go_quiet (fail)
    go_wp2
    go_quiet (fail)
    go_wp2_with (first
     |(go_at_call 178;refine(MK _ _).mono ?_;rintro e w2 ⟨rfl,d⟩;rw[d];clear d)
     |(at_builtin;refine G7 _ rfl _ _ 30 rfl (R<|Z w) 9 i (jC jW) 1 16 underlying30 hi B C D rfl Ob _ _ _ rfl (G1 (Ce f) _) ⟨R<|Z wr,0,U⟩ 1 1 [jC<|AG tt q] rfl rfl ?c1 ?c2 ?c3 ?c4 ?c5 ?_))
    case c1=>exact K4 _ _ _
    case c2=>intro u hu;simp at hu;subst hu;rfl
    case c3=>unfold maxLen;omega
    case c4=>omega
    case c5=>simp;omega
    intro v' m o r _;have s:Ai w m:=((below_drewN g _).alloc E _).grown r O0 λk t=>(f.lt k t).1;go_wp2
    go_roundw
    case rel=>exact⟨p,q+1,_,O1,O1,(hm.right hs l λF=>z F).1,(A.right hm ht l),O7,by rw[zk,zC];exact o,s⟩
    case measure=>simp[intOf];omega
   .have e1:p=T ss:=Oa;have e2:q=T tt:=Oa;subst e1;subst e2;go_wp2
    go_ret
    obtain⟨x,cx,ah⟩:=AA f;subst ah;exact⟨x,cx,K,rfl,f,g,A⟩
section
structure FV (w:jB) (aS aO aZ aW:jG):Prop where
 g0:jI w ⟨6,0,U⟩=Q (jU 273<|jP<|Q aS)
 g1:jI w ⟨0,0,U⟩=Q (jU 273<|jP<|Q aO)
 g2:jI w ⟨1,0,U⟩=Q (jU 273<|jP<|Q aZ)
 g3:jI w ⟨2,0,U⟩=Q (jU 273<|jP<|Q aW)
 big: 7<=R (Z w)
 rS:∃c t,(Z w)[jT aS]? =Q (.cells c t (0,0))
 rO:∃c t,(Z w)[jT aO]? =Q (.cells c t (0,0))
 rZ:∃c t,(Z w)[jT aZ]? =Q (.cells c t (0,0))
 rW:∃c t,(Z w)[jT aW]? =Q (.cells c t (0,0))
 nSO:aS≠aO
 nSZ:aS≠aZ
 nSW:aS≠aW
 nOZ:aO≠aZ
 nOW:aO≠aW
 nZW:aZ≠aW
theorem La {B:Nat}{a:jG}(h:∃c t,(Z w)[jT a]? =Q (.cells c t (0,0)))(b:Below B w w')(d:R (Z w)<=B):∃c t,(Z w')[jT a]? =Q (.cells c t (0,0)):=by grind [Go.RowKit.Below.block,Array.getElem?_eq_some_iff]
theorem FV.below {B:Nat}{aS aO aZ aW:jG}(h:FV w aS aO aZ aW)(a:Below B w w')(b:R (Z w)<=B):FV w' aS aO aZ aW where
 g0:=(a.cell (p:=⟨6,0,U⟩)<|by have:=h.big;show 6 <B;omega).trans h.g0
 g1:=(a.cell (p:=⟨0,0,U⟩)<|by have:=h.big;show 0 <B;omega).trans h.g1
 g2:=(a.cell (p:=⟨1,0,U⟩)<|by have:=h.big;show 1 <B;omega).trans h.g2
 g3:=(a.cell (p:=⟨2,0,U⟩)<|by have:=h.big;show 2 <B;omega).trans h.g3
 big:=zB h.big a.size
 rS:=La h.rS a b
 rO:=La h.rO a b
 rZ:=La h.rZ a b
 rW:=La h.rW a b
 nSO:=h.nSO
 nSZ:=h.nSZ
 nSW:=h.nSW
 nOZ:=h.nOZ
 nOW:=h.nOW
 nZW:=h.nZW
variable{aS aO aZ aW:jG}
def Ny (aS aO aZ aW:jG) (c:Int):jF:=if c=0 then .nilIface else if c=1 then jU 273 (jP<|Q aO)else if c=2 then jU 273 (jP<|Q aZ)else if c=3 then jU 273 (jP<|Q aW)else jU 273 (jP<|Q aS)
end
theorem Py (a: -9223372036854775808<=x)(b:x<=9223372036854775807):wrap64 x=x:=by unfold wrap64;omega
theorem YT (x:Int): -9223372036854775808<=wrap64 x/\wrap64 x<=9223372036854775807:=by unfold wrap64;omega
theorem AdR (x:Int):∃k:Int,wrap64 x=x+k*18446744073709551616:=⟨-((x+9223372036854775808) / 18446744073709551616),by unfold wrap64;omega⟩
theorem Qm {a:Int}(b: -9223372036854775808<=x)(c:x<=9223372036854775807)(h0:a≠0)(hm:a≠-1\/x≠-9223372036854775808): -9223372036854775808<=x.tdiv a/\x.tdiv a<=9223372036854775807:=by
 have d:(x.tdiv a).natAbs<=x.natAbs:=by rw[Int.natAbs_tdiv];exact Nat.div_le_self _ _
 have he:=Int.mul_tdiv_add_tmod x a;have f:(x.tmod a).natAbs<a.natAbs:=by rw[Int.natAbs_tmod];exact Nat.mod_lt _ Oa
 refine⟨Oa,?_⟩;by_cases e:x.tdiv a=9223372036854775808
 all_goals grind
theorem AiH {a:Int}(h0:a≠0)(c: -9223372036854775808<=b)(d:b<=9223372036854775807)(f: -9223372036854775808<=a*b)(g:a*b<=9223372036854775807):(wrap64 ((wrap64<|a*b).tdiv a)!=b)=jE/\wrap64 (a*b)=a*b:=by simp_all[Py]
theorem AgD {a:Int}(i: -9223372036854775808<=a)(j:a<=9223372036854775807)(h0:a≠0)(hm:a≠-1)(h:a*b< -9223372036854775808\/9223372036854775807<a*b):(wrap64 ((wrap64<|a*b).tdiv a)!=b)=jD:=by
 obtain⟨c,d⟩:=YT<|a*b;obtain⟨k,l⟩:=AdR<|a*b;generalize wrap64 (a*b)=x at*;obtain⟨f,g⟩:=Qm c d h0<|.inl hm;rw[Py f g];have he:=Int.mul_tdiv_add_tmod x a;have m:(x.tmod a).natAbs<a.natAbs:=by rw[Int.natAbs_tmod];exact Nat.mod_lt _ Oa
 grind
section
structure Cu (a:Int):Prop where
 lo: -9223372036854775808<=a
 hi:a<=9223372036854775807
variable{aS aO aZ aW:jG}
def JV (v:Int):Int×Int:=if -9223372036854775808<=v/\v<=9223372036854775807 then (v,0)else (0,1)
theorem Ew {v:Int}(a: -9223372036854775808<=v)(b:v<=9223372036854775807):JV v=(v,0):=H8 ⟨a,b⟩
theorem J6 {v:Int}(h:v< -9223372036854775808\/9223372036854775807<v):JV v=(0,1):=H7 Oa
def EZ (aS aO aZ aW:jG) (p:Int×Int):jF:= jQ #[V X p.1,Ny aS aO aZ aW p.2]
theorem Ec {v:Int}(h:p=(v,0)):jN (jQ #[V X v,.nilIface])=jN (EZ aS aO aZ aW p):=by subst h;rfl
theorem IQ (h:p=(0,1)):jN (jQ #[V X 0,jU 273<|jP<|Q aO])=jN (EZ aS aO aZ aW p):=by subst h;rfl
theorem Wb (h:p=(0,2)):jN (jQ #[V X 0,jU 273<|jP<|Q aZ])=jN (EZ aS aO aZ aW p):=by subst h;rfl
theorem AbO (h:p=(0,4)):jN (jQ #[V X 0,jU 273<|jP<|Q aS])=jN (EZ aS aO aZ aW p):=by subst h;rfl
theorem AgE (a b:Int)(w:jB)(hs:FV w aS aO aZ aW)(c:Cu a)(d:Cu b):
  Calls jZ 162 #[V X a,V X b] w λe w'=>e=jN (EZ aS aO aZ aW<|JV<|a+b)/\Ai w w':=by
 obtain⟨i,j⟩:=c;obtain⟨k,l⟩:=d;have hg:=hs.g1;by_cases h0: 0<b
 .by_cases f: 9223372036854775807-b<a
  .go_enter func162,ntmps162
   go_wp2
   go_quiet (fail)
   go_wp2
   go_ret2
   exact⟨IQ<|J6 Oa,below_drewN BRN _⟩
  .have g:a<=9223372036854775807-b:=Oa;have h: ¬ b<0:=Oa;go_enter func162,ntmps162
   go_wp2
   go_ret2
   exact⟨Ec<|Ew Oa Oa,BRN⟩
 .have m:b<=0:=Oa;by_cases h:b<0
  .by_cases f:a< -9223372036854775808-b
   .go_enter func162,ntmps162
    go_wp2
    go_quiet (fail)
    go_wp2
    go_ret2
    exact⟨IQ<|J6 Oa,below_drewN BRN _⟩
   .have g: -9223372036854775808-b<=a:=Oa;go_enter func162,ntmps162
    go_wp2
    go_ret2
    exact⟨Ec<|Ew Oa Oa,BRN⟩
  .have e:b=0:=Oa;subst e;go_enter func162,ntmps162
   go_wp2
   go_ret2
   exact⟨Ec (by rw[Ew]<;>first|omega|simp),BRN⟩
theorem Mp (a b:Int)(w:jB)(hs:FV w aS aO aZ aW)(c:Cu a)(d:Cu b):
  Calls jZ 163 #[V X a,V X b] w λe w'=>e=jN (EZ aS aO aZ aW<|JV<|a-b)/\Ai w w':=by
 obtain⟨i,j⟩:=c;obtain⟨k,l⟩:=d;have hg:=hs.g1;by_cases h0:b<0
 .by_cases f: 9223372036854775807+b<a
  .go_enter func163,ntmps163
   go_wp2
   go_quiet (fail)
   go_wp2
   go_ret2
   exact⟨IQ<|J6 Oa,below_drewN BRN _⟩
  .have g:a<=9223372036854775807+b:=Oa;have h: ¬ 0<b:=Oa;go_enter func163,ntmps163
   go_wp2
   go_ret2
   exact⟨Ec<|Ew Oa Oa,BRN⟩
 .have m: 0<=b:=Oa;by_cases h: 0<b
  .by_cases f:a< -9223372036854775808+b
   .go_enter func163,ntmps163
    go_wp2
    go_quiet (fail)
    go_wp2
    go_ret2
    exact⟨IQ<|J6 Oa,below_drewN BRN _⟩
   .have g: -9223372036854775808+b<=a:=Oa;go_enter func163,ntmps163
    go_wp2
    go_ret2
    exact⟨Ec<|Ew Oa Oa,BRN⟩
  .have e:b=0:=Oa;subst e;go_enter func163,ntmps163
   go_wp2
   go_ret2
   exact⟨Ec (by rw[Ew]<;>first|omega|simp),BRN⟩
theorem UK (a b:Int)(w:jB)(hs:FV w aS aO aZ aW)(i:Cu a)(j:Cu b):
  Calls jZ 164 #[V X a,V X b] w λe w'=>e=jN (EZ aS aO aZ aW<|JV<|a*b)/\Ai w w':=by
 have s:=i;have l:=j;obtain⟨m,n⟩:=i;obtain⟨o,q⟩:=j;have hg:=hs.g1;by_cases h0:a=0
 .subst h0;go_enter func164,ntmps164
  go_wp2
  go_ret2
  exact⟨Ec<|by rw[Int.zero_mul];rfl,BRN⟩
 .have e0:(a==0)=jE:=zA.2 h0;by_cases g:a= -1
  .subst g;go_enter func164,ntmps164
   go_wp2_with fail
   refine(Mp 0 b w hs ⟨Oa,Oa⟩ l).mono ?_;rintro e t ⟨rfl,hb3⟩;have e5:(0 :Int)-b= -1*b:=Oa;rw[e5,EZ];generalize c:JV (-1*b)=f;have d:=Ab c;clear c;go_wp2
   go_ret2
   exact⟨by rw[Aa d];rfl,hb3⟩
  .have e1:(a== -1)=jE:=zA.2 g;by_cases c: -9223372036854775808<=a*b/\a*b<=9223372036854775807
   .obtain⟨hv,k⟩:=AiH h0 o q c.1 c.2;have d:=Ab<|Ew c.1 c.2;have r:=Ab k;clear c k;go_enter func164,ntmps164
    go_wp2
    go_ret2
    exact⟨by rw[Aa r];exact Ec<|Aa d,BRN⟩
   .have h:a*b< -9223372036854775808\/9223372036854775807<a*b:=by generalize a*b=p at*;omega
    have hv:=AgD m n h0 g h;have d:=Ab<|J6 h;clear c h;go_enter func164,ntmps164
    go_wp2
    go_quiet (fail)
    go_wp2
    go_ret2
    exact⟨IQ<|Aa d,below_drewN BRN _⟩
def UL (a b:Int):Int×Int:=if b=0 then (0,2)else JV (a.tdiv b)
def SI (a b:Int):Int×Int:=if b=0 then (0,2)else JV (a.tmod b)
theorem YU (a b:Int)(w:jB)(hs:FV w aS aO aZ aW)(h:Cu a)(i:Cu b):
  Calls jZ 165 #[V X a,V X b] w λe w'=>e=jN (EZ aS aO aZ aW<|UL a b)/\Ai w w':=by
 obtain⟨j,k⟩:=h;obtain⟨l,m⟩:=i;have hg:=hs.g1;have n:=hs.g2;by_cases h0:b=0
 .subst h0;go_enter func165,ntmps165
  go_wp2
  go_quiet (fail)
  go_wp2
  go_ret2
  exact⟨Wb rfl,below_drewN BRN _⟩
 .have e0:(b==0)=jE:=zA.2 h0;by_cases hm:a= -9223372036854775808/\b= -1
  .obtain⟨rfl,rfl⟩:=hm;go_enter func165,ntmps165
   go_wp2
   go_quiet (fail)
   go_wp2
   go_ret2
   exact⟨IQ Ob,below_drewN BRN _⟩
  .have c:=Qm j k h0 Oa;have f:=Ab (show UL a b=(a.tdiv b,0) by rw[UL,H7 h0,Ew c.1 c.2]);have g:=Ab<|Py c.1 c.2;clear c;by_cases d:a= -9223372036854775808
   .have e1:(a== -9223372036854775808)=jD:=zD.2 d;have e2:(b== -1)=jE:=zA.2 λe=>hm ⟨d,e⟩;clear d hm;go_enter func165,ntmps165
    go_wp2
    go_ret2
    exact⟨by rw[Aa g];exact Ec<|Aa f,BRN⟩
   .have e1:(a== -9223372036854775808)=jE:=zA.2 d;clear d hm;go_enter func165,ntmps165
    go_wp2
    go_ret2
    exact⟨by rw[Aa g];exact Ec<|Aa f,BRN⟩
theorem YV {a:Int}(b: -9223372036854775808<=x)(c:x<=9223372036854775807): -9223372036854775808<=x.tmod a/\x.tmod a<=9223372036854775807:=by
 have d:(x.tmod a).natAbs<=x.natAbs:=by rw[Int.natAbs_tmod];exact Nat.mod_le _ _
 have hs: 0<=x->0<=x.tmod a:=λh=>Int.tmod_nonneg a h;have f:x<=0->x.tmod a<=0:=λh=>by
  have:=Int.tmod_nonneg a (Oa:0<=-x)
  simp_all
 omega
theorem SJ (a b:Int)(w:jB)(hs:FV w aS aO aZ aW)(g:Cu a)(h:Cu b):
  Calls jZ 166 #[V X a,V X b] w λe w'=>e=jN (EZ aS aO aZ aW<|SI a b)/\Ai w w':=by
 obtain⟨i,j⟩:=g;obtain⟨k,l⟩:=h;have m:=hs.g2;by_cases h0:b=0
 .subst h0;go_enter func166,ntmps166
  go_wp2
  go_quiet (fail)
  go_wp2
  go_ret2
  exact⟨Wb rfl,below_drewN BRN _⟩
 .have e0:(b==0)=jE:=zA.2 h0;by_cases d:b= -1
  .subst d;go_enter func166,ntmps166
   go_wp2
   go_ret2
   exact⟨Ec<|by rw[SI,H7 h0,Int.tmod_neg,Int.tmod_one];rfl,BRN⟩
  .have e1:(b== -1)=jE:=zA.2 d;have c:=YV (a:=b) i j;have f:=Ab (show SI a b=(a.tmod b,0) by rw[SI,H7 h0,Ew c.1 c.2]);go_enter func166,ntmps166
   go_wp2
   go_ret2
   exact⟨by first|(rw[Aa<|Ab<|Py c.1 c.2];exact Ec<|Aa f)|exact Ec<|Aa f,BRN⟩
def AV (op a b:Int):Int×Int:=
 if op=1 then JV (a+b)else if op=2 then JV (a-b)else if op=3 then JV (a*b)else if op=4 then UL a b else if op=5 then SI a b else (0,4)
theorem Lr (op a b:Int)(w:jB)(hs:FV w aS aO aZ aW)(d:Cu a)(f:Cu b):
  Calls jZ 150 #[V X op,V X a,V X b] w λe w'=>e=jN (EZ aS aO aZ aW<|AV op a b)/\Ai w w':=by
 have hg:=hs.g0;by_cases h:op=1
 .subst h;go_enter func150,ntmps150
  go_wp2_with fail
  refine(AgE a b w hs d f).mono ?_;rintro e g ⟨rfl,c⟩;rw[EZ];go_wp2
  go_ret2
  exact⟨rfl,c⟩
 by_cases i:op=2
 .subst i;go_enter func150,ntmps150
  go_wp2_with fail
  refine(Mp a b w hs d f).mono ?_;rintro e g ⟨rfl,c⟩;rw[EZ];go_wp2
  go_ret2
  exact⟨rfl,c⟩
 by_cases h3:op=3
 .subst h3;go_enter func150,ntmps150
  go_wp2_with fail
  refine(UK a b w hs d f).mono ?_;rintro e g ⟨rfl,c⟩;rw[EZ];go_wp2
  go_ret2
  exact⟨rfl,c⟩
 by_cases j:op=4
 .subst j;go_enter func150,ntmps150
  go_wp2_with fail
  refine(YU a b w hs d f).mono ?_;rintro e g ⟨rfl,c⟩;rw[EZ];go_wp2
  go_ret2
  exact⟨rfl,c⟩
 by_cases h5:op=5
 .subst h5;go_enter func150,ntmps150
  go_wp2_with fail
  refine(SJ a b w hs d f).mono ?_;rintro e g ⟨rfl,c⟩;rw[EZ];go_wp2
  go_ret2
  exact⟨rfl,c⟩
 have e1:(op==1)=jE:=zA.2 h;have e2:(op==2)=jE:=zA.2 i;have e3:(op==3)=jE:=zA.2 h3;have e4:(op==4)=jE:=zA.2 j;have e5:(op==5)=jE:=zA.2 h5;have k:=Ab (show AV op a b=(0,4) by rw[AV,H7 h,H7 i,H7 h3,H7 j,H7 h5]);go_enter func150,ntmps150
 go_wp2
 go_quiet (fail)
 go_wp2
 go_ret2
 exact⟨AbO<|Aa k,below_drewN BRN _⟩
end
end Go.Proofs.YtnjpihpohilnjaaGreatDoor
