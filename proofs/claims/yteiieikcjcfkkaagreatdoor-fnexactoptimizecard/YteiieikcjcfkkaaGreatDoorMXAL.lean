import Derived.Test.YteiieikcjcfkkaaGreatDoorMXAK
import Derived.Test.YteiieikcjcfkkaaGreatDoorVPK
import Derived.Deep.AppendLies
open Go.Proofs.Tryz
open Option renaming none->T,some->X
open Go.Value renaming int->U,slice->Y,string->Q,iface->jB,agg->jG,nilIface->jL
open Go.IntKind renaming i64->V
open Go renaming World->Z,Value->R,Addr->jD,Calls->jE,TypeId->jJ,maxLen->jM,Ending->jT,info_parts->jZ,wpList_append_lies->jj,wpList_append_own->jk
open Bool renaming true->jA,false->jC
open Go.Obj renaming cells->jF
open Go.Ending renaming returned->jH
open Go.RowKit renaming intOf->jI
open ByteArray renaming empty->jU
open Go.World.ownsRow renaming alloc->jV
open Go.Proofs.Tryz renaming prog->j4
namespace Go.Proofs.YteiieikcjcfkkaaGreatDoor
set_option maxRecDepth 100000
set_option maxHeartbeats 1600000
open Go.RowKit
set_option linter.unusedVariables false
variable {top:Int}{bs:List Bool}{O:List Int}{b:List R}{j n c:Nat}{a:Option jD}{t:jJ}{v:R}{w w':Z}
def DJ (Es:List Ex) (k:Int):R:=if k= -1 then jL else match Es[k.toNat]? with
 |some e=>e.val
 |none=> jL
def LH (Es:List Ex) (j:Nat) (s:St):List R:= [U V j,U V s.kind,Q s.name,DJ Es s.cond,DJ Es s.grant]
def Ut (Es:List Ex):Nat->List St->List R
 |_,[]=> []
 |i,s ::L=>LH Es i s++Ut Es (i+1) L
theorem Aho (Es:List Ex):∀(L:List St) (i:Nat),(Ut Es i L).length=L.length*5
 |[],i=>rfl
 |s ::L,i=>by rw[Ut,zC,Aho Es L (i+1)];simp[LH];omega
theorem XH (Es:List Ex)(s:St):∀(L:List St) (i:Nat),Ut Es i (L++[s])=Ut Es i L++LH Es (i+L.length) s
 |[],i=>by simp[Ut]
 |x ::L,i=>by
  rw[List.cons_append,Ut,Ut,XH Es s L (i+1),zT]
  congr 3
  simp;omega
theorem Ady (Es:List Ex):∀(L:List St) (i j:Nat) (h:j<L.length) (a:Nat),a<5->(Ut Es i L)[j*5+a]? =(LH Es (i+j) L[j])[a]?
 |x ::L,i,0,h,a,hr=>by
  rw[Ut,z0,zU,Z5 (by simp[LH];omega)];simp
 |x ::L,i,j+1,h,a,hr=>by
  rw[Ut,yL (by simp[LH];omega)];have e:(j+1)*5+a-(LH Es i x).length=j*5+a:=by simp[LH];omega
  rw[e,Ady Es L (i+1) j (by simpa using h) a hr];simp only[z8]
  congr 2
  omega
 |[],_,_,h,_,_=>absurd h (by simp)
theorem Ahp:(j4.info? 108).map (fun i=>(i.zero,i.size,i.bytes))=X (X (jG #[U V 0,U V 0,Q jU,jL,jL]),5,64):=by kernel_rfl
theorem G1 (Es:List Ex):DJ Es (-1)=jL:=rfl
theorem NG {Es:List Ex}{k:Int}(h0: 0<=k)(h:k<Es.length):DJ Es k=(Es[k.toNat]'(by omega)).val:=by
 rw[DJ,if_neg (by omega),zG (by omega)]
theorem J8 (w:Z)(a c d f g:R)(t:jJ)(b:Nat)(i:b=w.heap.size):∀j u,([a,c,d,f,g]:List R)[j]? =X u->(w.alloc (jF #[a,c,d,f,g] t)).cell? ((⟨b,0,T⟩:jD).add j)=X u:=fun j u h=>by
 subst i;have k:(⟨w.heap.size,0,T⟩:jD).add j=⟨w.heap.size,j,T⟩:=by by_cases e:j=0<;>simp[Addr.add,e]
 rw[k,(Ag.new w #[a,c,d,f,g] t).cell j,<-h];simp
theorem Abe {a:Nat}{e:jJ}{size n:Nat}(h:w.ownsRow a e size v n b)(p:jD)(u:R)(hp:∀q,v.ownBlock=X q->q≠p.block):(w.setCell p u).ownsRow a e size v n b:=
 Ak h (fun q hq=>heap_setCell_other w p q u (hp q hq))
theorem GZ (a b:Option jD)(n c m d:Nat)(N:List Nd)(L:List St)(w0 w:Z)(h:GY w0 a n c N)(av:Ah w0 w)(ag:Jl w b m d L)(P:Ex->Prop)(aw:Aar w0 N P)
  (ax:∀s∈L,(s.cond= -1\/(0<=s.cond/\s.cond<n))/\(s.grant= -1\/(0<=s.grant/\s.grant<n))):
  jE j4 26 #[jG #[Y a n c,Y b m d]] w fun ay w'=>(∃v Es,ay=jH v/\Es.length=n/\(∀j,(h:j<Es.length)->Cg N j Es[j])/\(∀e∈Es,P e)/\w'.ownsRow w.heap.size 108 5 v m (Ut Es 0 L))/\Ah w w':=by
 have hm:=ag.small;have aW:=h.small;have az:=Ab ag.len;have aH:=Ab ax;have aI:=Ag.new w #[Y a n c,Y b m d] 68;have ah:=Av w (jF #[Y a n c,Y b m d] 68);have aJ:=Ab (XG a n c N w0 _ h (av.trans (ah.mono av.size)) P aw);clear ax aw h;obtain⟨S,W,aa,ab,ac⟩:=jZ Ahp;go_enter func26,ntmps26
 go_wp2_with fail
 refine(Aa aJ).mono ?_;rintro ay G ⟨⟨v,Es,rfl,aK,ai⟩,aA⟩;subst aK;have O:=ah.trans (aA.mono ah.size);have aL:=aI.after aA NLN;have aX:G.cell? ⟨w.heap.size,1,T⟩=X (Y b m d):=aL.cell 1;obtain⟨aY,aZ,rfl,aB⟩:=ai.trs (by omega);have aM:=O.size;dsimp only;go_wp2_with fail
 go_loopw [4,14] (fun v i wr=>∃ (k:Nat),k<=m/\i=U V k/\wr.ownsRow G.heap.size 108 5 v k (Ut Es 0 (L.take k))/\Ah G wr) (fun _ i _=>m-(jI i).toNat)
 case atStart=>exact⟨0,by omega,rfl,World.ownsRow_nil _ _ _ _,BRN⟩
 case round=>
  obtain⟨k,a0,rfl,E,o⟩:=hrel;have a1:=o.size;by_cases aj:k<m
  ·have a2:(k:Int)<(m:Int):=by omega
   have ad:k<L.length:=by rw[Aa az];exact aj
   obtain⟨b1,a3,rfl,a4,aC,c1,c2,c3⟩:=(ag.below (O.trans (o.mono O.size)) NLN).cells k ad;obtain⟨hr1,hr2⟩:=Aa aH L[k] (zH ad);have l:=Ab (show Ut Es 0 (L.take (k+1))=Ut Es 0 (L.take k)++LH Es k L[k] by
    rw[zQ ad,XH,zr,zU,show min k L.length=k by omega])
   have F:=Ab aj;generalize L[k]=s at aC c1 c2 c3 hr1 hr2 l;generalize Ut Es 0 (L.take k)=A at E l;obtain⟨aN,aO,rfl,_⟩:=Ae E;have ak:=aB.below o NLN;clear ad aj aB;obtain⟨cd,al⟩:∃cd,cd=s.cond:=⟨_,rfl⟩
   obtain⟨H,ao⟩:∃H,H=s.grant:=⟨_,rfl⟩
   rw[<-al]at c2 hr1;rw[<-ao]at c3 hr2;have aD:=Ab (show LH Es k s=[U V k,U V s.kind,Q s.name,DJ Es cd,DJ Es H] by rw[al,ao];rfl);rw[Aa aD]at l;clear al ao aD;generalize s.kind=f at aC l;generalize s.name=nm at c1 l;rcases hr1 with rfl|hr1
   ·rcases hr2 with rfl|hr2
    ·have r:=(E.alloc (jF #[U V f,Q nm,U V (-1),U V (-1)] 53)).alloc (jF #[U V k,U V f,Q nm,jL,jL] 108);have t:=(o.alloc o.size (jF #[U V f,Q nm,U V (-1),U V (-1)] 53)).alloc (by simp;omega) (jF #[U V k,U V f,Q nm,jL,jL] 108);have I:=Ab (show [U V k,U V f,Q nm,DJ Es (-1),DJ Es (-1)]=[U V k,U V f,Q nm,jL,jL] by rw[G1]);rw[Aa I]at l;go_wp2_with (at_builtin;refine jk _ rfl _ _ 64 rfl G.heap.size 108 S (jG #[U V 0,U V 0,Q jU,jL,jL]) 5 64 underlying64 W aa ab ac rfl (by decide) _ _ _ rfl (jV r _) ⟨wr.heap.size+2,0,T⟩ 1 1 [U V k,U V f,Q nm,jL,jL] rfl rfl ?d1 ?d2 ?d3 ?d4 ?d5 ?_)
     case d1=>exact J8 _ _ _ _ _ _ _ _ (by simp)
     case d2=>intro u x;simp at x;rcases x with rfl|rfl|rfl|rfl<;>rfl
     case d3=>unfold jM;omega
     case d4=>omega
     case d5=>simp;omega
     intro ap aq J y _;have K:=(t.alloc t.size (jF #[U V k,U V f,Q nm,jL,jL] 108)).grown y (by simp;omega) (fun q hq=>(r.lt q hq).1);clear y;go_wp2_with fail
     go_roundw
     case rel=>exact⟨k+1,Aa F,by go_num,by rw[Aa l];exact J,K⟩
     case measure=>have:=Aa F;simp[jI];omega
    ·obtain⟨g,rfl⟩:∃g:Nat,H=(g:Int):=⟨H.toNat,by omega⟩
     have M:=Ab (NG (Es:=Es) (k:=(g:Int)) (by omega) (by omega));obtain⟨aE,aF,ae,aP,ar,aQ⟩:=ak.get (k:=g) (zG (by omega));simp only[zV]at M;obtain⟨z,B,au⟩:=(Es[g]'(by omega)).form;rw[au]at M ar;have a5:((g:Int)== -1)=jC:=zA.2 (by omega);have aR:((g:Int)!= -1)=jA:=zc.2 (by omega);have a6:(g:Int)<(Es.length:Int):=by omega
     subst ae;have r:=(E.alloc (jF #[U V f,Q nm,U V (-1),U V g] 53)).alloc (jF #[U V k,U V f,Q nm,jL,jB z B] 108);have t:=(o.alloc o.size (jF #[U V f,Q nm,U V (-1),U V g] 53)).alloc (by simp;omega) (jF #[U V k,U V f,Q nm,jL,jB z B] 108);have I:=Ab (show [U V k,U V f,Q nm,DJ Es (-1),DJ Es g]=[U V k,U V f,Q nm,jL,jB z B] by rw[Aa M,G1]);rw[Aa I]at l;go_wp2_with (at_builtin;refine jk _ rfl _ _ 64 rfl G.heap.size 108 S (jG #[U V 0,U V 0,Q jU,jL,jL]) 5 64 underlying64 W aa ab ac rfl (by decide) _ _ _ rfl (jV r _) ⟨wr.heap.size+2,0,T⟩ 1 1 [U V k,U V f,Q nm,jL,jB z B] rfl rfl ?d1 ?d2 ?d3 ?d4 ?d5 ?_)
     case d1=>exact J8 _ _ _ _ _ _ _ _ (by simp)
     case d2=>intro u x;simp at x;rcases x with rfl|rfl|rfl|rfl|rfl<;>rfl
     case d3=>unfold jM;omega
     case d4=>omega
     case d5=>simp;omega
     intro ap aq J y _;have K:=(t.alloc t.size (jF #[U V k,U V f,Q nm,jL,jB z B] 108)).grown y (by simp;omega) (fun q hq=>(r.lt q hq).1);clear y;go_wp2_with fail
     go_roundw
     case rel=>exact⟨k+1,Aa F,by go_num,by rw[Aa l];exact J,K⟩
     case measure=>have:=Aa F;simp[jI];omega
   ·obtain⟨p,rfl⟩:∃p:Nat,cd=(p:Int):=⟨cd.toNat,by omega⟩
    have af:=Ab (NG (Es:=Es) (k:=(p:Int)) (by omega) (by omega));obtain⟨aS,aT,aG,a7,aU,a8⟩:=ak.get (k:=p) (zG (by omega));simp only[zV]at af;obtain⟨C,D,aV⟩:=(Es[p]'(by omega)).form;rw[aV]at af aU;have a9:((p:Int)!= -1)=jA:=zc.2 (by omega);rcases hr2 with rfl|hr2
    ·subst aG;have r:=(E.alloc (jF #[U V f,Q nm,U V p,U V (-1)] 53)).alloc (jF #[U V k,U V f,Q nm,jB C D,jL] 108);have t:=(o.alloc o.size (jF #[U V f,Q nm,U V p,U V (-1)] 53)).alloc (by simp;omega) (jF #[U V k,U V f,Q nm,jB C D,jL] 108);have I:=Ab (show [U V k,U V f,Q nm,DJ Es p,DJ Es (-1)]=[U V k,U V f,Q nm,jB C D,jL] by rw[Aa af,G1]);rw[Aa I]at l;go_wp2_with (at_builtin;refine jk _ rfl _ _ 64 rfl G.heap.size 108 S (jG #[U V 0,U V 0,Q jU,jL,jL]) 5 64 underlying64 W aa ab ac rfl (by decide) _ _ _ rfl (jV r _) ⟨wr.heap.size+2,0,T⟩ 1 1 [U V k,U V f,Q nm,jB C D,jL] rfl rfl ?d1 ?d2 ?d3 ?d4 ?d5 ?_)
     case d1=>exact J8 _ _ _ _ _ _ _ _ (by simp)
     case d2=>intro u x;simp at x;rcases x with rfl|rfl|rfl|rfl|rfl<;>rfl
     case d3=>unfold jM;omega
     case d4=>omega
     case d5=>simp;omega
     intro ap aq J y _;have K:=(t.alloc t.size (jF #[U V k,U V f,Q nm,jB C D,jL] 108)).grown y (by simp;omega) (fun q hq=>(r.lt q hq).1);clear y;go_wp2_with fail
     go_roundw
     case rel=>exact⟨k+1,Aa F,by go_num,by rw[Aa l];exact J,K⟩
     case measure=>have:=Aa F;simp[jI];omega
    ·obtain⟨g,rfl⟩:∃g:Nat,H=(g:Int):=⟨H.toNat,by omega⟩
     have M:=Ab (NG (Es:=Es) (k:=(g:Int)) (by omega) (by omega));obtain⟨aE,aF,ae,aP,ar,aQ⟩:=ak.get (k:=g) (zG (by omega));simp only[zV]at M;obtain⟨z,B,au⟩:=(Es[g]'(by omega)).form;rw[au]at M ar;have aR:((g:Int)!= -1)=jA:=zc.2 (by omega);subst aG;obtain⟨rfl,rfl⟩:aS=aE/\aT=aF:=by simpa using ae
     clear ae;have r:=(E.alloc (PN f nm p g)).alloc (jF #[U V k,U V f,Q nm,jB C D,jB z B] 108);have t:=(o.alloc o.size (PN f nm p g)).alloc (by simp;omega) (jF #[U V k,U V f,Q nm,jB C D,jB z B] 108);have I:=Ab (show [U V k,U V f,Q nm,DJ Es p,DJ Es g]=[U V k,U V f,Q nm,jB C D,jB z B] by rw[Aa af,Aa M]);rw[Aa I]at l;go_wp2_with (at_builtin;refine jk _ rfl _ _ 64 rfl G.heap.size 108 S (jG #[U V 0,U V 0,Q jU,jL,jL]) 5 64 underlying64 W aa ab ac rfl (by decide) _ _ _ rfl (jV r _) ⟨wr.heap.size+2,0,T⟩ 1 1 [U V k,U V f,Q nm,jB C D,jB z B] rfl rfl ?d1 ?d2 ?d3 ?d4 ?d5 ?_)
     case d1=>exact J8 _ _ _ _ _ _ _ _ (by simp)
     case d2=>intro u x;simp at x;rcases x with rfl|rfl|rfl|rfl|rfl<;>rfl
     case d3=>unfold jM;omega
     case d4=>omega
     case d5=>simp;omega
     intro ap aq J y _;have K:=(t.alloc t.size (jF #[U V k,U V f,Q nm,jB C D,jB z B] 108)).grown y (by simp;omega) (fun q hq=>(r.lt q hq).1);clear y;go_wp2_with fail
     go_roundw
     case rel=>exact⟨k+1,Aa F,by go_num,by rw[Aa l];exact J,K⟩
     case measure=>have:=Aa F;simp[jI];omega
  ·have e:k=m:=by omega
   subst e;rw[show L.take k=L by rw[<-Aa az,Z2]]at E;obtain⟨aN,aO,rfl,_⟩:=Ae E;go_wp2_with fail
   go_ret
   exact⟨⟨_,Es,rfl,rfl,ai.tree,ai.fit,Ou E aM⟩,O.trans (o.mono O.size)⟩
def Ex.pos:Ex->Int
 |.int i _| .text i _| .bool i _| .set i ..| .name i _| .attr i _| .lett i _| .un i ..| .bin i ..| .ite i .. =>i
theorem Bm {P:Program}{f:FuncId}{fn:Func}(hf:P.funcs[f]? =X fn)(b:(fn.name== "runtime.NumGoroutine")=jC)(a:fn.body.isNone=jC)(args:Array R)(w:Z):(callFunc f args).run P w= .ok (.enter f args) w:=by
 have h1:fn.name≠ "runtime.NumGoroutine" :=by simpa using b
 have h3:fn.body≠T:=fun e=>by rw[e]at a;cases a
 simp[callFunc,hf,h1,h3]
def MtX (nm:String) (T:jJ) (v:R) (Q:Z->jT->Z->Prop):Prop:=∃F x fn,(∀w,(method 422 T v nm).run j4 w= .ok (F,x) w)/\(j4.funcs[F]? =X fn/\(fn.name== "runtime.NumGoroutine")=jC/\fn.body.isNone=jC)/\∀w,jE j4 F #[x] w (Q w)
def KdR (lo:Nat) (w:Z) (a:Option jD) (vs:List R):Prop:=vs=[]\/∃g,a=X ⟨g,0,T⟩/\lo<=g/\Ag w g vs.toArray 106
theorem KdR.keep {lo:Nat}(h:KdR lo w a b)(k:∀g cs,lo<=g->Ag w g cs 106->Ag w' g cs 106):KdR lo w' a b:=h.imp id fun ⟨g,e,l,c⟩=>⟨g,e,l,k g _ l c⟩
theorem KdR.at {lo:Nat}(h:KdR lo w a b){k:Nat}(c:k<b.length):∃g,a=X ⟨g,0,T⟩/\w.cell? ⟨g,k,T⟩=X b[k]:=by
 rcases h with h|⟨g,e,_,d⟩
 ·rw[h]at c;cases c
 ·refine⟨g,e,(d.cell k).trans ?_⟩;rw[List.getElem?_toArray];exact zG c
def KdA (vs:List R) (w:Z) (r:jT) (w':Z):Prop:=∃a,r=jH (Y a vs.length vs.length)/\KdR w.heap.size w' a vs/\Ah w w'
def Aj8 (i:Int) (w:Z) (r:jT) (w':Z):Prop:=r=jH (U V i)/\Ah w w'
abbrev KdX (T:jJ) (v:R) (vs:List R):Prop:=MtX "loop.example/s01308/impl.kids" T v (KdA vs)
abbrev PlX (T:jJ) (v:R) (i:Int):Prop:=MtX "loop.example/s01308/impl.place" T v (Aj8 i)
theorem UV {a:List R}{b:jT}(h:Agj w a a.length b w'):KdA a w b w':=by
 obtain⟨g,h1,h2,h3,h4⟩:=h;exact⟨_,h1,.inr ⟨g,rfl,h2,h3⟩,h4⟩
theorem AjI {T:jJ}{i:Int}(h:Mm T 229 230 v (U V i)):KdX T v []/\PlX T v i:=
 ⟨⟨_,_,_,h.1,⟨func229,by kernel_rfl,by kernel_rfl⟩,fun w=>(JW i w).mono fun a w' h=>⟨none,h.1,.inl rfl,by rw[h.2];exact BRN⟩⟩,⟨_,_,_,h.2,⟨func230,by kernel_rfl,by kernel_rfl⟩,fun w=>(Ga i w).mono fun a w' h=>⟨h.1,by rw[h.2];exact BRN⟩⟩⟩
theorem Ex.kids_lt (e:Ex):∀k∈e.kids,k.cnt<e.cnt:=by
 cases e<;>simp[Ex.kids,Ex.cnt]<;>omega
theorem Ex.kids_3 (e:Ex):e.kids.length<=3:=by cases e<;>simp[Ex.kids]
theorem Ex.mth (e:Ex):∃T v,e.val=jB T v/\KdX T v (e.kids.map Ex.val)/\PlX T v e.pos:=by
 cases e with
 |int|text|bool|set|attr|lett|name=>exact⟨_,_,rfl,AjI (Ajk (by decide) _ _)⟩
 |un i op k=>
  obtain⟨a,b,c⟩:=k.form;simp only[Ex.val,Ex.kids,List.map,c];exact⟨_,_,rfl,⟨_,_,_,(Te _).1.1,⟨func225,by kernel_rfl,by kernel_rfl⟩,fun w=>(KU i op a b w).mono fun g w' h=>UV h⟩,⟨_,_,_,(Te _).1.2,⟨func226,by kernel_rfl,by kernel_rfl⟩,Of i op a b⟩⟩
 |bin i op k l=>
  obtain⟨a,b,c⟩:=k.form;obtain⟨d,ul,f⟩:=l.form;simp only[Ex.val,Ex.kids,List.map,c,f];exact⟨_,_,rfl,⟨_,_,_,(Te _).2.1.1,⟨func227,by kernel_rfl,by kernel_rfl⟩,fun w=>(Jq i op a b d ul w).mono fun g w' h=>UV h⟩,⟨_,_,_,(Te _).2.1.2,⟨func228,by kernel_rfl,by kernel_rfl⟩,LP i op a b d ul⟩⟩
 |ite i k l m=>
  obtain⟨a,b,c⟩:=k.form;obtain⟨d,ul,f⟩:=l.form;obtain⟨j,n,o⟩:=m.form;simp only[Ex.val,Ex.kids,List.map,c,f,o];exact⟨_,_,rfl,⟨_,_,_,(Te _).2.2.1,⟨func231,by kernel_rfl,by kernel_rfl⟩,fun w=>(Jr i a b d ul j n w).mono fun g w' h=>UV h⟩,⟨_,_,_,(Te _).2.2.2,⟨func232,by kernel_rfl,by kernel_rfl⟩,LQ i a b d ul j n⟩⟩
set_option maxHeartbeats 3200000
theorem XJ (op:Int)(w:Z):jE j4 113 #[U V op] w fun a w'=>a=jH (.bool (decide (11<=op/\op<=16)))/\w'=w:=by
 by_cases h: 11<=op/\op<=16
 ·rcases(show op=11\/op=12\/op=13\/op=14\/op=15\/op=16 by omega)with rfl|rfl|rfl|rfl|rfl|rfl
  all_goals
   go_enter func113,ntmps113
   go_wp2_with fail
   go_ret
   exact⟨rfl,rfl⟩
 ·have b:=Ab (zJ h);have c:(op==11)=jC:=zA.2 (by omega);have d:(op==12)=jC:=zA.2 (by omega);have f:(op==13)=jC:=zA.2 (by omega);have g:(op==14)=jC:=zA.2 (by omega);have i:(op==15)=jC:=zA.2 (by omega);have j:(op==16)=jC:=zA.2 (by omega);clear h;go_enter func113,ntmps113
  go_wp2_with fail
  go_ret
  exact⟨by rw[Aa b];rfl,rfl⟩
def AJ (b:Bool) (w:Z) (r:jT) (w':Z):Prop:=r=jH (.bool b)/\Ah w w'
theorem Afp (T:jJ)(v:R)(K:List Ex)(c:Bool)(z:KdX T v (K.map Ex.val))(S:K.length<=3)
  (A:Hid (T≠166/\T≠168/\c=jA)\/(T= 166/\∃i op t u,v=jG #[U V i,U V op,jB t u]/\c= !decide (op=8))\/T= 168/\∃i op t u B C,v=jG #[U V i,U V op,jB t u,jB B C]/\c= !decide (11<=op/\op<=16))
  (F:∀k∈K,∀w,jE j4 63 #[k.val] w (AJ (Ao k) w))(w:Z):jE j4 63 #[jB T v] w (AJ (c&&K.all Ao) w):=by
 obtain⟨ah,ai,aj,z,n,d⟩:=z;have G:=Ab (Bm n.1 n.2.1 n.2.2);have d:=Ab d;have W:=Ab F;obtain⟨m,hm⟩:∃m,m=K.length:=⟨_,rfl⟩
 unfold KdA at d;rw[ze,<-hm]at d;have H:=Ab hm;have ak:m<=3:=by omega
 have hB:=fun o=>Av w o;have ts:=tas T v;clear hm n F S;rcases A with A|⟨rfl,i,op,t,u,rfl,rfl⟩|⟨rfl,i,op,t,u,B,C,rfl,rfl⟩
 case' inl=>
  obtain⟨h1,h2,rfl⟩:=Aa A;simp only[MT,if_neg h1,if_neg h2]at ts;have b:=Ji w
 case' inr.inl=>
  simp only[MT,Nat.reduceEqDiff,reduceIte]at ts;have b:=hB (jF #[U V i,U V op,jB t u] 166);by_cases h8:op=8
  ·subst h8;obtain⟨_,_,_,_,_,_,_,aa,ab,ac⟩:=ts;go_enter func63,ntmps63
   go_wp2_with fail
   go_ret
   exact⟨by simp,b⟩
  have al:(op==8)=jC:=zA.2 h8;rw[zJ h8];clear h8
 case' inr.inr=>
  simp only[MT,Nat.reduceEqDiff,reduceIte]at ts;have b:=hB (jF #[U V i,U V op,jB t u,jB B C] 168)
 all_goals
  obtain⟨_,_,_,_,_,_,_,aa,ab,ac⟩:=ts;go_enter func63,ntmps63
  go_wp2_with fail
 all_goals
  first
   |rw[Aa G,Oper.upon_enter]
   |refine(XJ op _).mono ?_
    rintro p w0 ⟨rfl,rfl⟩;dsimp only;cases hq:decide (11<=op/\op<=16)
    case true=>
     go_wp2_with fail
     go_ret
     exact⟨by rw[hq];rfl,b⟩
    go_wp2_with fail
    rw[Aa G,Oper.upon_enter]
  refine(Aa d _).mono ?_;rintro p ad ⟨a,rfl,ae,I⟩;have q:=b.trans (I.mono b.size);clear b I;dsimp only;go_wp2_with fail
  go_loopw [23] (fun j wr=>∃k:Nat,k<=m/\j=U V k/\Hid ((K.take k).all Ao=jA)/\Ah ad wr) (fun j _=>m-(jI j).toNat)
  case atStart=>exact⟨0,zD _,rfl,Ab rfl,BRN⟩
  case round=>
   obtain⟨k,z,rfl,r,s⟩:=hrel;by_cases y:k<m
   ·have ao:(k:Int)<(m:Int):=by omega
    have f:k<K.length:=by rw[<-Aa H];exact y
    obtain⟨g,rfl,D⟩:=(ae.keep fun g cs _ p=>p.after s NLN).at (k:=k) (by rw[ze];exact f);have E:=Ab (Aa W _ (zH f));have J:=zQ f;have L:=Ab (show(K.take (k+1)).all Ao=Ao K[k] by rw[J,List.all_append,Aa r];simp);have M:=Ab (show Ao K[k]=jC->K.all Ao=jC from fun h=>List.all_eq_false.2 ⟨_,zH f,by simp[h]⟩);have N:=Ab y;rw[List.getElem_map]at D;generalize K[k]=x at D E L M;obtain⟨ap,aq,af⟩:=x.form;rw[af]at D E;clear J y f r;go_wp2_with fail
    refine(Aa E _).mono ?_;rintro p ar ⟨rfl,ag⟩;have O:=s.trans (ag.mono s.size);dsimp only;cases P:Ao x
    ·have l:=Ab (Aa M P);go_wp2_with fail
     go_ret
     exact⟨by rw[Aa l,Bool.and_false];rfl,q.trans (O.mono q.size)⟩
    ·have l:=Ab ((Aa L).trans P);go_wp2_with fail
     go_roundw
     case rel=>exact⟨k+1,Aa N,by go_num,l,O⟩
     case measure=>have:=Aa N;simp[jI];omega
   ·have l:=Ab (show K.all Ao=jA by have:=Aa r;rw[zY (by rw[<-Aa H];omega)]at this;exact this);obtain rfl:k=m:=by omega
    clear y r;go_wp2_with fail
    go_ret
    exact⟨by rw[Aa l];first|rfl|(rw[hq];rfl),q.trans (s.mono q.size)⟩
theorem Dq (e:Ex)(w:Z):jE j4 63 #[e.val] w (AJ (Ao e) w):=by
 obtain⟨T,v,a,b,_⟩:=e.mth;have d:∀k∈e.kids,∀w,jE j4 63 #[k.val] w (AJ (Ao k) w):=fun k b=>by
  have:=e.kids_lt k b;exact Dq k
 have G:=fun c f=>Afp T v e.kids c b e.kids_3 f d w;rw[<-a]at G;cases e with
 |un i op k=>
  obtain⟨t,u,hv⟩:=k.form;rw[Ex.val,hv]at a;cases a;simpa[Ao,Ex.kids]using G _ (.inr (.inl ⟨rfl,i,op,t,u,rfl,rfl⟩))
 |bin i op k l=>
  obtain⟨t,u,hv⟩:=k.form;obtain⟨g,h,j⟩:=l.form;rw[Ex.val,hv,j]at a;cases a;simpa[Ao,Ex.kids]using G _ (.inr (.inr ⟨rfl,i,op,t,u,g,h,rfl,rfl⟩))
 |_=>
  cases a;simpa[Ao,Ex.kids,Bool.and_assoc]using G jA (.inl (Ab ⟨by decide,by decide,rfl⟩))
termination_by e.cnt
set_option maxHeartbeats 6400000
theorem Ub {f:Int->List Int->List Int}{M:Nat}(hf:∀k O,(f k O).length<=max O.length M+1)(top:Int):∀(ks O:List Int),(Dh f top ks O).length<=max O.length M+ks.length+1
 |[],O=>by rw[Dh,zC,yF,List.length_nil];omega
 |k ::ks,O=>by
  rw[Dh];split
  ·rw[zC,yF,List.length_cons];omega
  ·have h1:=Ub hf top ks (f k O);have h2:=hf k O;rw[List.length_cons];omega
theorem MZ {K:List (List Int)}(h3:∀ks∈K,ks.length<=3):∀(n:Nat) (top:Int) (O:List Int),(Bd K n top O).length<=max O.length (K.length+3*n)+1
 |0,top,O=>by rw[Bd,zC,yF];omega
 |n+1,top,O=>by
  rw[Bd];dsimp only;split
  ·rw[zC,yF];omega
  ·rename_i hc;have h1:=Ub (M:=K.length+3*n) (MZ h3 n) top (K.getD top.toNat []) O;have h2:(K.getD top.toNat []).length<=3:=by
    rw[yC];cases e:K[top.toNat]? with
    |none=>simp
    |some ks=>exact h3 ks (zp e)
   omega
def In (w:Z) (v:R) (w':Z) (v':R):Prop:=(∀k,k<w.heap.size->X k≠v.ownBlock->w'.heap[k]? =w.heap[k]?)/\(∀q,v'.ownBlock=X q->v.ownBlock=X q\/w.heap.size<=q)/\w.heap.size<=w'.heap.size
theorem In.refl (w:Z)(v:R):In w v w v:=⟨fun _ _ _=>rfl,fun q h=> .inl h,NLN⟩
theorem In.trans {w a b:Z}{v c d:R}(h:In w v a c)(k:In a c b d):In w v b d:=
 ⟨fun j f g=>(k.1 j (zE f h.2.2) (fun e=>by
  rcases h.2.1 j e.symm with e'|e'
  ·exact g e'.symm
  ·omega)).trans (h.1 j f g),fun q hq=>by
  rcases k.2.1 q hq with e|e
  ·exact h.2.1 q e
  ·exact .inr (zB h.2.2 e),zB h.2.2 k.2.2⟩
theorem Ec {o:Obj}{g:Nat}(hg:(w.alloc o).grownBy w' v.ownBlock)(a:v.ownBlock=X g\/g=w.heap.size+1):In w v w' (Y (X ⟨g,0,T⟩) n c):=
 ⟨fun k b d=>(hg.block k (by simp;omega) d).trans (Below.heap_alloc w o k b),fun q hq=>by
  have:g=q:=by simpa[Value.ownBlock]using hq
  subst this;rcases a with e|e
  ·exact .inl e
  ·right;omega,by have:=hg.size;simp at this;omega⟩
theorem Ag.keep {a:Value}{b:Nat}{cs:Array Value}(R:Ag w b cs t)(h:In w v w' a)(c:v.ownBlock≠X b):Ag w' b cs t:=⟨(h.1 b R.lt (fun e=>c e.symm)).trans R.out⟩
def Abj (B:Nat) (w:Z) (v:Value) (R:List Int) (e:jT) (w':Z):Prop:=∃v',e=jH v'/\w'.ownsRow B 3 1 v' R.length (Aq R)/\Below B w w'/\In w v w' v'
theorem ES {B:Nat}{x:Int}(h:w.ownsRow B 3 1 v (O.length+1) (Aq O++[U V x])):w.ownsRow B 3 1 v (O++[x]).length (Aq (O++[x])):=by
 rw[zC,yF,Aq,zR];exact h
theorem Rw {K:List (List Int)}{n:Nat}(h:top<0\/(K.length:Int)<=top\/K.length<O.length):∀fuel,Bd K fuel top O=O++[-1]
 |0=>rfl
 |n+1=>by rw[Bd];exact if_pos h
theorem MG (a:Option jD)(n c:Nat)(B:Nat)(top:Int)(O:List Int)(v:R)(w:Z)(A:n<=4000)(h:top<0\/(n:Int)<=top\/n<O.length)(C:O.length<=100000)(o:B<=w.heap.size)(j:w.ownsRow B 3 1 v O.length (Aq O)):
  jE j4 77 #[Y a n c,U V top,v] w fun e w'=>Abj B w v (O++[-1]) e w':=by
 obtain⟨i,hi,p,r,s⟩:=jZ Kr;obtain⟨D,E,rfl,_⟩:=Ae j;rcases(show top<0\/(0<=top/\(n:Int)<=top)\/(0<=top/\top<n/\n<O.length) by omega)with h1|⟨h0,h2⟩|⟨h0,h2,h3⟩
 ·have t:top<0:=h1;go_enter func77,ntmps77
  go_wp2_with (at_builtin;refine jj _ rfl _ _ 24 rfl B 3 i (U V 0) 1 8 underlying24 hi p r s rfl (by decide) _ _ _ rfl (jV j _) ⟨w.heap.size,0,T⟩ 1 1 [U V (-1)] rfl rfl ?a1 ?a2 (by decide) ?a3 ?a4 ?a5 _ rfl ?_)
  first|(case a1=>exact A5 _ _ _ _ (by simp))|skip
  case a2=>first|(intro u d;simp at d;subst d;rfl)|rfl
  case a3=>unfold jM;omega
  case a4=>omega
  case a5=>first|(simp;omega)|omega
  intro g cap x f b hat y;have k:=Ec (n:=O.length+1) (c:=cap) b hat;have l:=((Below.refl B w).alloc o (jF #[U V (-1)] 3)).grown b (by simp;omega) (fun q hq=>(j.lt q hq).1);have m:=ES f;clear b hat f;go_wp2_with fail
  go_ret
  exact⟨_,rfl,m,l,k⟩
 ·have t: ¬ top<0:=by omega
  have z:(n:Int)<=top:=h2;go_enter func77,ntmps77
  go_wp2_with (at_builtin;refine jj _ rfl _ _ 24 rfl B 3 i (U V 0) 1 8 underlying24 hi p r s rfl (by decide) _ _ _ rfl (jV j _) ⟨w.heap.size,0,T⟩ 1 1 [U V (-1)] rfl rfl ?b1 ?b2 (by decide) ?b3 ?b4 ?b5 _ rfl ?_)
  first|(case b1=>exact A5 _ _ _ _ (by simp))|skip
  case b2=>first|(intro u d;simp at d;subst d;rfl)|rfl
  case b3=>unfold jM;omega
  case b4=>omega
  case b5=>first|(simp;omega)|omega
  intro g cap x f b hat y;have k:=Ec (n:=O.length+1) (c:=cap) b hat;have l:=((Below.refl B w).alloc o (jF #[U V (-1)] 3)).grown b (by simp;omega) (fun q hq=>(j.lt q hq).1);have m:=ES f;clear b hat f;go_wp2_with fail
  go_ret
  exact⟨_,rfl,m,l,k⟩
 ·have t: ¬ top<0:=by omega
  have z: ¬ ((n:Int)<=top):=by omega
  have F:(n:Int)<(O.length:Int):=by omega
  go_enter func77,ntmps77
  go_wp2_with (at_builtin;refine jj _ rfl _ _ 24 rfl B 3 i (U V 0) 1 8 underlying24 hi p r s rfl (by decide) _ _ _ rfl (jV j _) ⟨w.heap.size,0,T⟩ 1 1 [U V (-1)] rfl rfl ?c1 ?c2 (by decide) ?c3 ?c4 ?c5 _ rfl ?_)
  first|(case c1=>exact A5 _ _ _ _ (by simp))|skip
  case c2=>first|(intro u d;simp at d;subst d;rfl)|rfl
  case c3=>unfold jM;omega
  case c4=>omega
  case c5=>first|(simp;omega)|omega
  intro g cap x f b hat y;have k:=Ec (n:=O.length+1) (c:=cap) b hat;have l:=((Below.refl B w).alloc o (jF #[U V (-1)] 3)).grown b (by simp;omega) (fun q hq=>(j.lt q hq).1);have m:=ES f;clear b hat f;go_wp2_with fail
  go_ret
  exact⟨_,rfl,m,l,k⟩
theorem ZU {f:Int->List Int->List Int}{ks:List Int}(a:j<ks.length)(O:List Int):Dh f top (ks.drop j) O=if top<=ks[j]then O++[-1]else Dh f top (ks.drop (j+1)) (f ks[j] O):=by
 rw[z5 a,Dh]
theorem F6 (a:Option jD)(n c:Nat)(N:List Nd)(w0:Z)(B:Nat)(G:GY w0 a n c N)(hB:w0.heap.size<=B)(ae:n<=4000)(h3:∀ks∈N.map Nd.kids,ks.length<=3):
  ∀(fuel:Nat) (top:Int) (O:List Int) (v:Value) (w:Z),fuel<=4000->(N.length<=fuel\/top<fuel)->O.length<=100000->Ah w0 w->B<=w.heap.size->w.ownsRow B 3 1 v O.length (Aq O)->
  jE j4 77 #[Y a n c,U V top,v] w fun e w'=>Abj B w v (Bd (N.map Nd.kids) fuel top O) e w':=by
 have H:=Ab G.len;have I:=Ab (show(N.map Nd.kids).length=n by rw[ze,G.len]);have af:=Ab h3;obtain⟨i,hi,ag,ah,ai⟩:=jZ Kr;intro fuel
 induction fuel with
 |zero=>
  intro top O v w _ hf J L D r;have aJ:=Aa H;rw[Rw (K:=N.map Nd.kids) (n:=n) (by rw[ze];omega) 0];exact MG a n c B top O v w ae (by omega) J D r
 |succ fuel aj=>
  intro top O v w aK hf J L D r;by_cases h:top<0\/(n:Int)<=top\/n<O.length
  ·rw[Rw (K:=N.map Nd.kids) (n:=n) (by rw[Aa I];exact h) (fuel+1)];exact MG a n c B top O v w ae h J D r
  ·obtain⟨t,rfl⟩:∃t:Nat,top=(t:Int):=⟨top.toNat,by omega⟩
   have ax:t<n:=by omega
   have aL:O.length<=n:=by omega
   have M:t<N.length:=by rw[Aa H];exact ax
   have aM: ¬ ((t:Int)<0):=by omega
   have aN: ¬ ((n:Int)<=(t:Int)):=by omega
   have aO:(t:Int)<(n:Int):=by omega
   have aP: ¬ ((n:Int)<(O.length:Int)):=by omega
   have aQ:t<=fuel:=by have:=Aa H;omega
   have ak:=Ab (show Bd (N.map Nd.kids) (fuel+1) (t:Int) O=Dh (Bd (N.map Nd.kids) fuel) (t:Int) (N[t].kids) O by
    rw[Bd];dsimp only;rw[if_neg (by rw[Aa I];exact h),zV,yC,zZ,zG M];rfl)
   have P:N[t].kids.length<=3:=Aa af _ (List.mem_map_of_mem (zH M));rw[Aa ak];clear ak h;obtain⟨b,ay,rfl,az,an,nn,cn,aR,m,aS,al,c1,c2,c3,c4,aA,E⟩:=G.cells t M;have c4:=(L.cell (p:=⟨b,ay+t*5+4,T⟩) az).trans c4;have S:=Ab (fun k O=>MZ (K:=N.map Nd.kids) (Aa af) fuel k O);rw[Aa I]at S;generalize N[t]=x at al c1 c2 c3 c4 aA E P|-;generalize Bd (N.map Nd.kids) fuel=F at aj S|-;have ao:=Ab E.len;have aT:m<=3:=by rw[<-E.len];exact P
   obtain⟨aB,aC,rfl,_⟩:=Ae r;have ap:=Ab (show Dh F (t:Int) (x.kids.drop 0) O=Dh F (t:Int) x.kids O by rw[List.drop_zero]);generalize Dh F (t:Int) x.kids O=R at ap|-;clear al c1 c2 c3 P;go_enter func77,ntmps77
   go_wp2_with fail
   go_loopw [2,33] (fun u i wr=>∃ (j:Nat) (d:List Int),j<=m/\i=U V j/\Hid (Dh F (t:Int) (x.kids.drop j) d=R)/\d.length<=n+3*fuel+j/\wr.ownsRow B 3 1 u d.length (Aq d)/\Below B w wr/\In w (Y aB O.length aC) wr u) (fun _ i _=>m-(jI i).toNat)
   case atStart=>exact⟨0,O,by omega,rfl,ap,by omega,r,BRN,In.refl _ _⟩
   case round=>
    obtain⟨j,d,aU,rfl,aq,aV,o,s,W⟩:=hrel;obtain⟨aW,aX,rfl,_⟩:=Ae o;have aa:=zB D s.size;have ar:=L.trans (s.mono hB);by_cases au:j<m
    ·have aY:(j:Int)<(m:Int):=by omega
     have av:j<x.kids.length:=by rw[Aa ao];exact au
     obtain⟨aZ,ok,rfl,a0,aD⟩:=(E.below ar NLN).cells j av;have z:=Ab (ZU (f:=F) (top:=(t:Int)) av d);rw[Aa aq]at z;have aw:=Ab au;generalize x.kids[j]=y at aD z;by_cases hy:(t:Int)<=y
     ·have A:=Ab (show R=d++[-1] by rw[Aa z,if_pos hy]);go_wp2_with (at_builtin;refine jj _ rfl _ _ 24 rfl B 3 i (U V 0) 1 8 underlying24 hi ag ah ai rfl (by decide) _ _ _ rfl (jV o _) ⟨wr.heap.size,0,T⟩ 1 1 [U V (-1)] rfl rfl ?d1 ?d2 (by decide) ?d3 ?d4 ?d5 _ rfl ?_)
      first|(case d1=>exact A5 _ _ _ _ (by simp))|skip
      case d2=>first|(intro u h;simp at h;subst h;rfl)|rfl
      case d3=>unfold jM;omega
      case d4=>omega
      case d5=>first|(simp;omega)|omega
      intro g cap aE C l hat aF;have ab:=Ec (n:=d.length+1) (c:=cap) l hat;have ac:=(s.alloc aa (jF #[U V (-1)] 3)).grown l (by simp;omega) (fun q hq=>(o.lt q hq).1);have ad:=ES C;clear l hat C;go_wp2_with fail
      go_ret
      exact⟨_,rfl,by rw[Aa A];exact ad,ac,W.trans ab⟩
     ·have A:=Ab (show Dh F (t:Int) (x.kids.drop (j+1)) (F y d)=R by rw[Aa z,if_neg hy]);have a1:=Aa S y d;clear z;go_wp2_with (go_at_call 77;refine(aj y d _ wr (by omega) (by omega) (by omega) ar aa o).mono ?_;rintro e a2 ⟨a3,rfl,aG,aH,aI⟩)
      go_roundw
      case rel=>exact⟨j+1,F y d,Aa aw,by go_num,A,by omega,aG,s.trans aH,W.trans aI⟩
      case measure=>have:=Aa aw;simp[jI];omega
    ·have e:j=m:=by omega
     subst e;have A:=Ab (show R=d++[(t:Int)] by
      rw[<-Aa aq,List.drop_of_length_le (by rw[Aa ao];exact NLN),Dh])
     go_wp2_with (at_builtin;refine jj _ rfl _ _ 24 rfl B 3 i (U V 0) 1 8 underlying24 hi ag ah ai rfl (by decide) _ _ _ rfl (jV o _) ⟨wr.heap.size,0,T⟩ 1 1 [U V (t:Int)] rfl rfl ?e1 ?e2 (by decide) ?e3 ?e4 ?e5 _ rfl ?_)
     first|(case e1=>exact A5 _ _ _ _ (by simp))|skip
     case e2=>first|(intro u h;simp at h;subst h;rfl)|rfl
     case e3=>unfold jM;omega
     case e4=>omega
     case e5=>first|(simp;omega)|omega
     intro g cap aE C l hat aF;have ab:=Ec (n:=d.length+1) (c:=cap) l hat;have ac:=(s.alloc aa (jF #[U V (t:Int)] 3)).grown l (by simp;omega) (fun q hq=>(o.lt q hq).1);have ad:=ES C;clear l hat C;go_wp2_with fail
     go_ret
     exact⟨_,rfl,by rw[Aa A];exact ad,ac,W.trans ab⟩
structure K5 where
 op:Int
 num:Int
 text:ByteArray
 an:Option jD
 nn:Nat
 cn:Nat
 ka:Option jD
 kn:Nat
 kc:Nat
abbrev CE (k:K5):Obj:= jF #[U V k.op,U V k.num,Q k.text,Y k.an k.nn k.cn,Y k.ka k.kn k.kc] 48
abbrev Gy:Obj:= jF #[U V 0,U V 0,Q ⟨#[]⟩,Y T 0 0,Y T 0 0] 48
def K5.cs (k:K5):List R:= [U V k.op,U V k.num,Q k.text,Y k.an k.nn k.cn,Y k.ka k.kn k.kc]
theorem Afr (b:List K5)(j:Nat)(h:j<b.length):∀a,a<5->(b.flatMap K5.cs)[j*5+a]? =(b[j].cs)[a]? :=by
 induction b generalizing j with
 |nil=>simp at h
 |cons k b d=>
  intro a f;have c:k.cs.length=5:=rfl;cases j with
  |zero=>
   rw[zi,Z5 (by rw[c];omega)];simp
  |succ j=>
   rw[zi,yL (by rw[c];omega),c,show(j+1)*5+a-5=j*5+a by omega,d j (by simpa using h) a f];simp
def BT (w:Z) (ka:Option jD) (vs:List K5):Prop:=∀j,(h:j<vs.length)->∃b off,ka=X ⟨b,off,T⟩/\b<w.heap.size/\∀r,r<5->w.cell? ⟨b,off+j*5+r,T⟩=(vs[j].cs)[r]?
theorem BT.below {B:Nat}{ka:Option jD}{a:List K5}(h:BT w ka a)(c:Below B w w')(hB:w.heap.size<=B):BT w' ka a:=fun j g=>by
 obtain⟨b,d,h1,h2,h3⟩:=h j g;exact⟨b,d,h1,zE h2 c.size,fun f i=>(c.cell (p:=⟨b,d+j*5+f,T⟩) (by show b<B;omega)).trans (h3 f i)⟩
set_option maxHeartbeats 3200000
def EG (op:Int) (bs:List Bool):Bool:=!decide (op=8\/(11<=op/\op<=16))&&bs.all id
theorem XK (h:j<bs.length)(a:(bs.take j).all id=jA)(b:bs[j]=jA):(bs.take (j+1)).all id=jA:=by
 rw[zQ h,List.all_append,a];simp[b]
theorem Afq (h:j<bs.length)(a:bs[j]=jC):bs.all id=jC:=by
 rw[List.all_eq_false];exact⟨bs[j],zH h,by simp[a]⟩
theorem CX (op num:Int)(text:ByteArray)(an:Option jD)(nn cn:Nat)(ka:Option jD)(m kc:Nat)(hm:m<=1048576)(c:List K5)(S:c.length=m)(bs:List Bool)(W:bs.length=m)(w:Z)(aa:BT w ka c)
  (ab:∀j,(h1:j<c.length)->(h2:j<bs.length)->∀L,Ah w L->jE j4 17 #[jG #[U V c[j].op,U V c[j].num,Q c[j].text,Y c[j].an c[j].nn c[j].cn,Y c[j].ka c[j].kn c[j].kc]] L (AJ bs[j] L)):
  jE j4 17 #[jG #[U V op,U V num,Q text,Y an nn cn,Y ka m kc]] w (AJ (EG op bs) w):=by
 have ac:=Ag.new w #[U V op,U V num,Q text,Y an nn cn,Y ka m kc] 48;have a:=Av w (BV op num text an nn cn ka m kc);have ad:=Ab ab;have ae:=Ab S;have J:=Ab W;have K:=aa.below a NLN;clear ab S W aa;by_cases s:op=8\/(11<=op/\op<=16)
 ·have o:=Ab (show EG op bs=jC by rw[EG,zL s];rfl);rcases s with h8|⟨h11,af⟩
  ·subst h8;go_enter func17,ntmps17
   go_wp2_with fail
   go_ret
   exact⟨by rw[Aa o];rfl,a⟩
  ·have ag:(op==8)=jC:=zA.2 (by omega);go_enter func17,ntmps17
   go_wp2_with fail
   go_ret
   exact⟨by rw[Aa o];rfl,a⟩
 ·have o:=Ab (show EG op bs=bs.all id by rw[EG,zJ s];rfl);have ag:(op==8)=jC:=zA.2 (by omega);by_cases h11: 11<=op
  ·have af: ¬ (op<=16):=by omega
   clear s;go_enter func17,ntmps17
   go_wp2_with fail
   generalize w.alloc (BV op num text an nn cn ka m kc)=M at ac a K|-;go_loopw [21] (fun i wr=>∃j:Nat,j<=m/\i=U V j/\Ah M wr/\Hid ((bs.take j).all id=jA)) (fun i _=>m-(jI i).toNat)
   case atStart=>exact⟨0,zD _,rfl,BRN,Ab rfl⟩
   case round=>
    obtain⟨j,ah,rfl,d,t⟩:=hrel;by_cases g:j<m
    ·have ai:(j:Int)<(m:Int):=by omega
     have p:j<c.length:=by rw[Aa ae];exact g
     have l:j<bs.length:=by rw[Aa J];exact g
     obtain⟨b,aj,rfl,ak,hc⟩:=(K.below d NLN) j p;have q:=hc 0 (by decide);have c1:=hc 1 (by decide);have c2:=hc 2 (by decide);have c3:=hc 3 (by decide);have c4:=hc 4 (by decide);simp only[K5.cs,zX,yG,z6]at q c1 c2 c3 c4;have n:=Ab (Aa ad j p l);have u:=Ab (show bs[j]=jA->(bs.take (j+1)).all id=jA from fun h=>XK l (Aa t) h);have v:=Ab (show bs[j]=jC->bs.all id=jC from fun h=>Afq l h);have x:=Ab g;generalize c[j]=k at q c1 c2 c3 c4 n;generalize bs[j]=N at n u v;obtain⟨y,z,A,B,C,D,E,F,G⟩:=k;dsimp only at q c1 c2 c3 c4 n;clear hc g p l;have H:=a.trans (d.mono a.size);have r:=Av wr (BV y z A B C D E F G);have O:=H.trans (r.mono H.size);obtain⟨al,d1,d2,d3,d4,_⟩:=AP (Ag.new wr #[U V y,U V z,Q A,Y B C D,Y E F G] 48);go_wp2_with fail
     refine(Aa n _ O).mono ?_;rintro ao ap ⟨rfl,P⟩;have I:=(d.trans (r.mono d.size)).trans (P.mono (zB d.size r.size));cases N with
     |false=>
      have f:=Ab (Aa v rfl);dsimp only;go_wp2_with fail
      go_ret
      exact⟨by rw[Aa o,Aa f];rfl,a.trans (I.mono a.size)⟩
     |true=>
      have f:=Ab (Aa u rfl);dsimp only;go_wp2_with fail
      go_roundw
      case rel=>exact⟨j+1,Aa x,by go_num,I,f⟩
      case measure=>have:=Aa x;simp[jI];omega
    ·have e:j=m:=by omega
     subst e;have f:=Ab (show bs.all id=jA by rw[<-Aa t,zY (by rw[Aa J];exact NLN)]);go_wp2_with fail
     go_ret
     exact⟨by rw[Aa o,Aa f];rfl,a.trans (d.mono a.size)⟩
  ·clear s;go_enter func17,ntmps17
   go_wp2_with fail
   generalize w.alloc (BV op num text an nn cn ka m kc)=M at ac a K|-;go_loopw [21] (fun i wr=>∃j:Nat,j<=m/\i=U V j/\Ah M wr/\Hid ((bs.take j).all id=jA)) (fun i _=>m-(jI i).toNat)
   case atStart=>exact⟨0,zD _,rfl,BRN,Ab rfl⟩
   case round=>
    obtain⟨j,ah,rfl,d,t⟩:=hrel;by_cases g:j<m
    ·have ai:(j:Int)<(m:Int):=by omega
     have p:j<c.length:=by rw[Aa ae];exact g
     have l:j<bs.length:=by rw[Aa J];exact g
     obtain⟨b,aj,rfl,ak,hc⟩:=(K.below d NLN) j p;have q:=hc 0 (by decide);have c1:=hc 1 (by decide);have c2:=hc 2 (by decide);have c3:=hc 3 (by decide);have c4:=hc 4 (by decide);simp only[K5.cs,zX,yG,z6]at q c1 c2 c3 c4;have n:=Ab (Aa ad j p l);have u:=Ab (show bs[j]=jA->(bs.take (j+1)).all id=jA from fun h=>XK l (Aa t) h);have v:=Ab (show bs[j]=jC->bs.all id=jC from fun h=>Afq l h);have x:=Ab g;generalize c[j]=k at q c1 c2 c3 c4 n;generalize bs[j]=N at n u v;obtain⟨y,z,A,B,C,D,E,F,G⟩:=k;dsimp only at q c1 c2 c3 c4 n;clear hc g p l;have H:=a.trans (d.mono a.size);have r:=Av wr (BV y z A B C D E F G);have O:=H.trans (r.mono H.size);obtain⟨al,d1,d2,d3,d4,_⟩:=AP (Ag.new wr #[U V y,U V z,Q A,Y B C D,Y E F G] 48);go_wp2_with fail
     refine(Aa n _ O).mono ?_;rintro ao ap ⟨rfl,P⟩;have I:=(d.trans (r.mono d.size)).trans (P.mono (zB d.size r.size));cases N with
     |false=>
      have f:=Ab (Aa v rfl);dsimp only;go_wp2_with fail
      go_ret
      exact⟨by rw[Aa o,Aa f];rfl,a.trans (I.mono a.size)⟩
     |true=>
      have f:=Ab (Aa u rfl);dsimp only;go_wp2_with fail
      go_roundw
      case rel=>exact⟨j+1,Aa x,by go_num,I,f⟩
      case measure=>have:=Aa x;simp[jI];omega
    ·have e:j=m:=by omega
     subst e;have f:=Ab (show bs.all id=jA by rw[<-Aa t,zY (by rw[Aa J];exact NLN)]);go_wp2_with fail
     go_ret
     exact⟨by rw[Aa o,Aa f];rfl,a.trans (d.mono a.size)⟩
theorem BS {a:Nat}{x:Option jD}{L:List Int}(h:w.ownsRow a 3 1 (Y x n c) n (Aq L))(b:n<=1048576):AK w x n c L:=by
 have d:L.length=n:=by have:=h.1;rw[Aq,ze]at this;omega
 refine⟨d,b,fun j f=>?_⟩;obtain⟨i,c',hv,hc⟩:=Ae h;cases hv;obtain⟨g,rfl,_,hg⟩:=hc (by omega);refine⟨g,0,rfl,(h.lt g rfl).2,?_⟩;rw[zU];exact hg j _ (by rw[Aq,zZ,zG f];rfl)
def JT (x:Nd):Bool:=
 if x.op=5 then jC
 else if x.op=6 then decide (0<=x.num/\x.num<6)&&decide (x.text.size=0)&&decide (x.names.length=0)
 else if x.op=7\/x.op=1 then decide (x.text.size=0)&&decide (x.names.length=0)
 else VR x
def AD (x:Nd):Bool:=decide ((x.kids.length:Int)=CI x.op)&&JT x
def AY (x:Nd):Bool:=
 decide ((x.kids.length:Int)=CI x.op)&&
 (if x.op=1 then decide (x.text.size=0)&&decide (x.names.length=0)
   else if x.op=2 then CJ x.text&&decide (x.num=0)&&decide (x.names.length=0)
   else if x.op=3 then decide (x.num=0\/x.num=1)&&decide (x.text.size=0)&&decide (x.names.length=0)
   else if x.op=4 then AC x.names&&decide (x.num=0)&&decide (x.text.size=0)
   else if x.op=5 then jC
   else if x.op=6 then decide (0<=x.num/\x.num<=5)&&decide (x.text.size=0)&&decide (x.names.length=0)
   else if x.op=7 then decide (0<=x.num/\x.num<600)&&decide (x.text.size=0)&&decide (x.names.length=0)
   else decide (x.num=0)&&decide (x.text.size=0)&&decide (x.names.length=0))
theorem Jj (x:Nd):AY x=jA↔AD x=jA/\(x.op=7->0<=x.num/\x.num<600):=by
 unfold AY AD JT VR;by_cases h1:x.op=1
 ·simp[h1]
 by_cases h2:x.op=2
 ·simp[h2]
 by_cases h3:x.op=3
 ·simp[h3]
 by_cases h4:x.op=4
 ·simp[h4]
 by_cases h5:x.op=5
 ·simp[h5]
 by_cases h6:x.op=6
 ·simp only[h6];simp;omega
 by_cases h7:x.op=7
 ·simp only[h7];simp;constructor
  ·rintro⟨a,⟨⟨b,c⟩,d⟩,e⟩;exact⟨⟨a,d,e⟩,b,c⟩
  ·rintro⟨⟨a,d,e⟩,b,c⟩;exact⟨a,⟨⟨b,c⟩,d⟩,e⟩
 ·simp[h1,h2,h3,h4,h5,h6,h7]
def Ei (N:List Nd) (L:List St):Bool:=match Cp (N.map Nd.kids) N.length [] 0 with
 |none=>jC
 |some S=>decide (Am S=L.flatMap Aj)
theorem CD {b:Nat}{a c:Value}(R:Ag w b #[a,c] t):w.cell? ⟨b,0,T⟩=X a/\w.cell? ⟨b,1,T⟩=X c:=⟨R.cell 0,R.cell 1⟩
theorem VV {K:List (List Int)} :∀{k:Nat} {S:List (Nat×Nat)},Cp K k [] 0=X S->S.length<=k/\k<=K.length\/k=0/\S=[]
 |0,S,h=>by right;rw[Cp]at h;cases h;exact⟨rfl,rfl⟩
 |k+1,S,h=>by
  left;rw[Im K k 1 [] 0]at h;cases h1:Cp K k [] 0 with
  |none=>rw[h1]at h;cases h
  |some b=>
   rw[h1]at h
   change Cp K 1 b (0+k)=X S at h
   rw[zU,Cp]at h;cases h2:K[k]? with
   |none=>rw[h2]at h;cases h
   |some ks=>
    rw[h2]at h;dsimp only at h;cases h3:DM b k ks with
    |none=>rw[h3]at h;cases h
    |some d=>
     rw[h3]at h
     change X d=X S at h
     cases h;have g:=(zd.1 h2).1;obtain⟨A,B,e1,_,_,e2⟩:=Rv h3;have f:=VV h1;rw[e2,zC,yF];rcases f with⟨c,a⟩|⟨c,a⟩
     ·rw[e1,zC]at c;omega
     ·rw[e1]at a;have:=List.append_eq_nil_iff.1 a;rw[this.1];simp;omega
end Go.Proofs.YteiieikcjcfkkaaGreatDoor
