import Derived.Test.YteiieikcjcfkkaaGreatDoorMXAM
import Derived.Test.YteiieikcjcfkkaaGreatDoorMXAL
import Derived.Test.YteiieikcjcfkkaaGreatDoorNUA
import Derived.Deep.RegionLaw
import Derived.Test.YteiieikcjcfkkaaGreatDoorMXAP
open Go.Proofs.Tryz
open Option renaming none->T,some->X
open Go.Value renaming int->U,slice->Y,string->Q,agg->jG,tuple->jO,ownBlock->ja
open Go.IntKind renaming i64->V
open Go renaming World->Z,Value->R,Addr->jD,Calls->jE,TypeId->jJ,bodyPost_ret->jN,results->jR,Ending->jT,heap_setCell_other->jc
open Bool renaming true->jA,false->jC
open Go.Obj renaming cells->jF
open Go.Ending renaming returned->jH
open ByteArray renaming empty->jU
open Go.Proofs.Tryz renaming prog->j4
namespace Go.Proofs.YteiieikcjcfkkaaGreatDoor
open Go.RowKit
set_option linter.unusedVariables false
variable {cs:Array R}{x y:Ex}{t:Int}{k l:K5}{ss:List ByteArray}{P r:List Int}{N:List Nd}{p b s:List R}{B c g7 c7:Nat}{o:Obj}{ka:Option jD}{nd pl u g i:R}{w a:Z}
def Tq (w:Z):Ex->K5->Prop
 |.un _ op c,k=>k.op=op/\k.num=0/\k.text=⟨#[]⟩/\k.nn=0/\k.kn=1/\∃k1,BT w k.ka [k1]/\Tq w c k1
 |.bin _ op l r,k=>k.op=op/\k.num=0/\k.text=⟨#[]⟩/\k.nn=0/\k.kn=2/\∃k1 k2,BT w k.ka [k1,k2]/\Tq w l k1/\Tq w r k2
 |.ite _ c t e,k=>k.op=27/\k.num=0/\k.text=⟨#[]⟩/\k.nn=0/\k.kn=3/\∃k1 k2 k3,BT w k.ka [k1,k2,k3]/\Tq w c k1/\Tq w t k2/\Tq w e k3
 |e,k=>k.op=(CV e).op/\k.num=(CV e).num/\k.text=(CV e).text/\k.kn=0/\Ap w k.an k.nn k.cn (CV e).names/\(CV e).names.length<=1048576/\ZS w k.an k.cn
theorem Tq.below {w w':Z}{B:Nat}(a:Below B w w')(hB:w.heap.size<=B):∀{e:Ex} {k:K5},Tq w e k->Tq w' e k
 |.un ..,k,h=>by
  obtain⟨h1,h2,h3,h4,h5,b,h6,h7⟩:=h;exact⟨h1,h2,h3,h4,h5,b,h6.below a hB,h7.below a hB⟩
 |.bin ..,k,h=>by
  obtain⟨h1,h2,h3,h4,h5,b,c,h6,h7,h8⟩:=h;exact⟨h1,h2,h3,h4,h5,b,c,h6.below a hB,h7.below a hB,h8.below a hB⟩
 |.ite ..,k,h=>by
  obtain⟨h1,h2,h3,h4,h5,b,c,d,h6,h7,h8,h9⟩:=h;exact⟨h1,h2,h3,h4,h5,b,c,d,h6.below a hB,h7.below a hB,h8.below a hB,h9.below a hB⟩
 |.int ..,k,h=>⟨h.1,h.2.1,h.2.2.1,h.2.2.2.1,h.2.2.2.2.1.below a hB,h.2.2.2.2.2.1,h.2.2.2.2.2.2.below a hB⟩
 |.text ..,k,h=>⟨h.1,h.2.1,h.2.2.1,h.2.2.2.1,h.2.2.2.2.1.below a hB,h.2.2.2.2.2.1,h.2.2.2.2.2.2.below a hB⟩
 |.bool ..,k,h=>⟨h.1,h.2.1,h.2.2.1,h.2.2.2.1,h.2.2.2.2.1.below a hB,h.2.2.2.2.2.1,h.2.2.2.2.2.2.below a hB⟩
 |.set ..,k,h=>⟨h.1,h.2.1,h.2.2.1,h.2.2.2.1,h.2.2.2.2.1.below a hB,h.2.2.2.2.2.1,h.2.2.2.2.2.2.below a hB⟩
 |.name ..,k,h=>⟨h.1,h.2.1,h.2.2.1,h.2.2.2.1,h.2.2.2.2.1.below a hB,h.2.2.2.2.2.1,h.2.2.2.2.2.2.below a hB⟩
 |.attr ..,k,h=>⟨h.1,h.2.1,h.2.2.1,h.2.2.2.1,h.2.2.2.2.1.below a hB,h.2.2.2.2.2.1,h.2.2.2.2.2.2.below a hB⟩
 |.lett ..,k,h=>⟨h.1,h.2.1,h.2.2.1,h.2.2.2.1,h.2.2.2.2.1.below a hB,h.2.2.2.2.2.1,h.2.2.2.2.2.2.below a hB⟩
def EZ:Ex->Int
 |.un _ op _=>op
 |.bin _ op _ _=>op
 |.ite .. =>27
 |e=>(CV e).op
theorem Tq.op {w:Z}{e:Ex}{k:K5}(h:Tq w e k):k.op=EZ e:=by cases e<;>exact h.1
def Acg:Ex->Int
 |.un .. =>0
 |.bin .. =>0
 |.ite .. =>0
 |e=>(CV e).num
theorem Tq.num {w:Z}{e:Ex}{k:K5}(h:Tq w e k):k.num=Acg e:=by cases e<;>exact h.2.1
def Ajw:Ex->List ByteArray
 |.set _ _ _ _ ss=>ss
 |_=> []
theorem Tq.nn {w:Z}{e:Ex}{k:K5}(h:Tq w e k):k.nn=(Ajw e).length:=by
 cases e with
 |un=>exact h.2.2.2.1
 |bin=>exact h.2.2.2.1
 |ite=>exact h.2.2.2.1
 |_=>exact h.2.2.2.2.1.len
def Be:Ex->Bool
 |.un _ op k=>decide (8<=op/\op<=10)&&Be k
 |.bin _ op l r=>decide (11<=op/\op<=26)&&(Be l&&Be r)
 |.ite _ c t e=>Be c&&(Be t&&Be e)
 |_=>jA
theorem Cl {ts:List Int} :∀(e:Ex) (t:Int),Al ts e=X t->Be e=jA
 |.un _ op k,t,h=>by
  rw[Al]at h;cases c:Al ts k with
  |none=>rw[c]at h;cases h
  |some a=>
   rw[c]at h;have:=DV h;simp only[Be,Cl k a c,Bool.and_true,zI];omega
 |.bin _ op x y,t,h=>by
  rw[Al]at h;cases hx:Al ts x with
  |none=>rw[hx]at h;cases h
  |some a=>
   cases hy:Al ts y with
   |none=>rw[hx,hy]at h;cases h
   |some b=>
    rw[hx,hy]at h;have:=CU h;simp only[Be,Cl x a hx,Cl y b hy,Bool.and_true,zI];omega
 |.ite _ x y z,t,h=>by
  rw[Al]at h;cases hx:Al ts x with
  |none=>rw[hx]at h;cases h
  |some a=>
   cases hy:Al ts y with
   |none=>rw[hx,hy]at h;cases h
   |some b=>
    cases f:Al ts z with
    |none=>rw[hx,hy,f]at h;cases h
    |some d=>simp[Be,Cl x a hx,Cl y b hy,Cl z d f]
 |.int ..,_,_=>rfl
 |.text ..,_,_=>rfl
 |.bool ..,_,_=>rfl
 |.set ..,_,_=>rfl
 |.name ..,_,_=>rfl
 |.attr ..,_,_=>rfl
 |.lett ..,_,_=>rfl
theorem Y5 {e:Ex}(h:Be e=jA):e.con=decide (1<=EZ e/\EZ e<=4):=by
 cases e with
 |un i op k=>
  simp only[Be,zF,zI]at h;exact(zJ (by show ¬ (1<=op/\op<=4);omega)).symm
 |bin i op l a=>
  simp only[Be,zF,zI]at h;exact(zJ (by show ¬ (1<=op/\op<=4);omega)).symm
 |_=>rfl
theorem Aif {n:Int}{e:Ex}(h:Be e=jA):No n e=(decide (EZ e=1)&&decide (Acg e=n)):=by
 cases e with
 |un i op k=>
  simp only[Be,zF,zI]at h;rw[zJ (show ¬ EZ (.un i op k)=1 by show ¬ op=1;omega)];rfl
 |bin i op l a=>
  simp only[Be,zF,zI]at h;rw[zJ (show ¬ EZ (.bin i op l a)=1 by show ¬ op=1;omega)];rfl
 |_=>rfl
theorem Aig {b:Bool}{e:Ex}(h:Be e=jA):isB b e=(decide (EZ e=3)&&decide (Acg e=if b then 1 else 0)):=by
 cases e with
 |un i op k=>
  simp only[Be,zF,zI]at h;rw[zJ (show ¬ EZ (.un i op k)=3 by show ¬ op=3;omega)];rfl
 |bin i op l a=>
  simp only[Be,zF,zI]at h;rw[zJ (show ¬ EZ (.bin i op l a)=3 by show ¬ op=3;omega)];rfl
 |bool i c=>cases b<;>cases c<;>rfl
 |_=>rfl
theorem Aih {e:Ex}(h:Be e=jA):GP e=(decide (EZ e=4)&&decide ((Ajw e).length=0)):=by
 cases e with
 |un i op k=>
  simp only[Be,zF,zI]at h;rw[zJ (show ¬ EZ (.un i op k)=4 by show ¬ op=4;omega)];rfl
 |bin i op l a=>
  simp only[Be,zF,zI]at h;rw[zJ (show ¬ EZ (.bin i op l a)=4 by show ¬ op=4;omega)];rfl
 |_=>rfl
set_option maxRecDepth 100000
def BoA (b:Bool) (w:Z) (r:jT) (w':Z):Prop:=r=jH (.bool b)/\Ah w w'
theorem Dn {e:Ex}(h:Tq w e k)(c:Be e=jA):jE j4 79 #[jG #[U V k.op,U V k.num,Q k.text,Y k.an k.nn k.cn,Y k.ka k.kn k.kc]] w (BoA e.con w):=by
 have h0:=Y5 c;rw[<-h.op]at h0;have b:=Av w (CE k);by_cases h1: 1<=k.op
 ·by_cases h4:k.op<=4
  ·have a:e.con=jA:=h0.trans (zL ⟨h1,h4⟩);rw[a];go_enter func79,ntmps79
   go_wp2_with fail
   go_ret
   exact⟨rfl,b⟩
  ·have a:e.con=jC:=h0.trans (zJ (fun e=>h4 e.2));rw[a];go_enter func79,ntmps79
   go_wp2_with fail
   go_ret
   exact⟨rfl,b⟩
 ·have a:e.con=jC:=h0.trans (zJ (fun e=>h1 e.1));rw[a];go_enter func79,ntmps79
  go_wp2_with fail
  go_ret
  exact⟨rfl,b⟩
theorem UN {e:Ex}(h:Tq w e k)(c:Be e=jA)(n:Int):jE j4 125 #[jG #[U V k.op,U V k.num,Q k.text,Y k.an k.nn k.cn,Y k.ka k.kn k.kc],U V n] w (BoA (No n e) w):=by
 have h0:=Aif (n:=n) c;rw[<-h.op,<-h.num]at h0;have b:=Av w (CE k);by_cases h1:k.op=1
 ·have d:(k.op==1)=jA:=zM.2 h1;by_cases h4:k.num=n
  ·have f:(k.num==n)=jA:=zM.2 (by omega);have a:No n e=jA:=h0.trans (by rw[zL h1,zL h4];rfl);clear h1 h4 h0;rw[a];go_enter func125,ntmps125
   go_wp2_with fail
   go_ret
   exact⟨rfl,b⟩
  ·have f:(k.num==n)=jC:=zA.2 (by omega);have a:No n e=jC:=h0.trans (by rw[zL h1,zJ h4];rfl);clear h1 h4 h0;rw[a];go_enter func125,ntmps125
   go_wp2_with fail
   go_ret
   exact⟨rfl,b⟩
 ·have d:(k.op==1)=jC:=zA.2 h1;have a:No n e=jC:=h0.trans (by rw[zJ h1];rfl);clear h1 h0;rw[a];go_enter func125,ntmps125
  go_wp2_with fail
  go_ret
  exact⟨rfl,b⟩
theorem Fj {e:Ex}(h:Tq w e k)(f:Be e=jA)(b:Bool)(z:Int)(d:z=if b then 1 else 0):jE j4 45 #[jG #[U V k.op,U V k.num,Q k.text,Y k.an k.nn k.cn,Y k.ka k.kn k.kc],U V z] w (BoA (isB b e) w):=by
 have h0:=Aig (b:=b) f;rw[<-h.op,<-h.num,<-d]at h0;clear d;have c:=Av w (CE k);by_cases h1:k.op=3
 ·have g:(k.op==3)=jA:=zM.2 h1;by_cases h4:k.num=z
  ·have i:(k.num==z)=jA:=zM.2 (by omega);have a:isB b e=jA:=h0.trans (by rw[zL h1,zL h4];rfl);clear h1 h4 h0;rw[a];go_enter func45,ntmps45
   go_wp2_with fail
   go_ret
   exact⟨rfl,c⟩
  ·have i:(k.num==z)=jC:=zA.2 (by omega);have a:isB b e=jC:=h0.trans (by rw[zL h1,zJ h4];rfl);clear h1 h4 h0;rw[a];go_enter func45,ntmps45
   go_wp2_with fail
   go_ret
   exact⟨rfl,c⟩
 ·have g:(k.op==3)=jC:=zA.2 h1;have a:isB b e=jC:=h0.trans (by rw[zJ h1];rfl);clear h1 h0;rw[a];go_enter func45,ntmps45
  go_wp2_with fail
  go_ret
  exact⟨rfl,c⟩
theorem Nt {e:Ex}(h:Tq w e k)(c:Be e=jA):jE j4 124 #[jG #[U V k.op,U V k.num,Q k.text,Y k.an k.nn k.cn,Y k.ka k.kn k.kc]] w (BoA (GP e) w):=by
 have h0:=Aih c;rw[<-h.op,<-h.nn]at h0;have b:=Av w (CE k);by_cases h1:k.op=4
 ·have d:(k.op==4)=jA:=zM.2 h1;by_cases h4:k.nn=0
  ·have f:((k.nn:Int)==0)=jA:=zM.2 (by omega);have a:GP e=jA:=h0.trans (by rw[zL h1,zL h4];rfl);clear h1 h4 h0;rw[a];go_enter func124,ntmps124
   go_wp2_with fail
   go_ret
   exact⟨rfl,b⟩
  ·have f:((k.nn:Int)==0)=jC:=zA.2 (by omega);have a:GP e=jC:=h0.trans (by rw[zL h1,zJ h4];rfl);clear h1 h4 h0;rw[a];go_enter func124,ntmps124
   go_wp2_with fail
   go_ret
   exact⟨rfl,b⟩
 ·have d:(k.op==4)=jC:=zA.2 h1;have a:GP e=jC:=h0.trans (by rw[zJ h1];rfl);clear h1 h0;rw[a];go_enter func124,ntmps124
  go_wp2_with fail
  go_ret
  exact⟨rfl,b⟩
set_option maxHeartbeats 800000
theorem CW (w:Z)(a:Option jD):BT w a []:=fun j h=>absurd h (by simp)
theorem Tq.leaf {e:Ex}(h:Tq w e k)(a:e.kids=[]):k.kn=0:=by
 cases e<;>first|exact h.2.2.2.1|cases a
theorem DU:∀(e:Ex) (k:K5) (w:Z),Tq w e k->Be e=jA->jE j4 17 #[jG #[U V k.op,U V k.num,Q k.text,Y k.an k.nn k.cn,Y k.ka k.kn k.kc]] w (AJ (Ao e) w)
 |.un i op c,k,w,h,ho=>by
  obtain⟨h1,h2,h3,h4,h5,b,h6,h7⟩:=h;simp only[Be,zF,zI]at ho;have e0:Ao (.un i op c)=EG k.op [Ao c]:=by
   rw[Ao,EG,h1,show decide (op=8\/(11<=op/\op<=16))=decide (op=8)from decide_eq_decide.2 (by omega)];simp
  rw[e0,h5];exact CX k.op k.num k.text k.an k.nn k.cn k.ka 1 k.kc (by decide) [b] rfl [Ao c] rfl w h6 (fun j a1 a2 d f=>by
   match j,a1 with
   |0,_=>exact DU c b d (h7.below f NLN) ho.2)
 |.bin i op l r,k,w,h,ho=>by
  obtain⟨h1,h2,h3,h4,h5,b,g,h6,h7,h8⟩:=h;simp only[Be,zF,zI]at ho;have e0:Ao (.bin i op l r)=EG k.op [Ao l,Ao r]:=by
   rw[Ao,EG,h1,show decide (op=8\/(11<=op/\op<=16))=decide (11<=op/\op<=16)from decide_eq_decide.2 (by omega)];simp
  rw[e0,h5];exact CX k.op k.num k.text k.an k.nn k.cn k.ka 2 k.kc (by decide) [b,g] rfl [Ao l,Ao r] rfl w h6 (fun j a1 a2 d f=>by
   match j,a1 with
   |0,_=>exact DU l b d (h7.below f NLN) ho.2.1
   |1,_=>exact DU r g d (h8.below f NLN) ho.2.2)
 |.ite i c t e,k,w,h,ho=>by
  obtain⟨h1,h2,h3,h4,h5,b,g,m,h6,h7,h8,h9⟩:=h;simp only[Be,zF]at ho;have e0:Ao (.ite i c t e)=EG k.op [Ao c,Ao t,Ao e]:=by
   rw[Ao,EG,h1];simp
  rw[e0,h5];exact CX k.op k.num k.text k.an k.nn k.cn k.ka 3 k.kc (by decide) [b,g,m] rfl [Ao c,Ao t,Ao e] rfl w h6 (fun j a1 a2 d f=>by
   match j,a1 with
   |0,_=>exact DU c b d (h7.below f NLN) ho.1
   |1,_=>exact DU t g d (h8.below f NLN) ho.2.1
   |2,_=>exact DU e m d (h9.below f NLN) ho.2.2)
 |.int i n,k,w,h,ho=>by
  have e0:Ao (.int i n)=EG k.op []:=by rw[h.op];rfl
  rw[e0,h.leaf rfl];exact CX k.op k.num k.text k.an k.nn k.cn k.ka 0 k.kc (by decide) [] rfl [] rfl w (CW w _) (fun j a1=>absurd a1 (by simp))
 |.text i n,k,w,h,ho=>by
  have e0:Ao (.text i n)=EG k.op []:=by rw[h.op];rfl
  rw[e0,h.leaf rfl];exact CX k.op k.num k.text k.an k.nn k.cn k.ka 0 k.kc (by decide) [] rfl [] rfl w (CW w _) (fun j a1=>absurd a1 (by simp))
 |.bool i n,k,w,h,ho=>by
  have e0:Ao (.bool i n)=EG k.op []:=by rw[h.op];rfl
  rw[e0,h.leaf rfl];exact CX k.op k.num k.text k.an k.nn k.cn k.ka 0 k.kc (by decide) [] rfl [] rfl w (CW w _) (fun j a1=>absurd a1 (by simp))
 |.set i a n c ss,k,w,h,ho=>by
  have e0:Ao (.set i a n c ss)=EG k.op []:=by rw[h.op];rfl
  rw[e0,h.leaf rfl];exact CX k.op k.num k.text k.an k.nn k.cn k.ka 0 k.kc (by decide) [] rfl [] rfl w (CW w _) (fun j a1=>absurd a1 (by simp))
 |.name i n,k,w,h,ho=>by
  have e0:Ao (.name i n)=EG k.op []:=by rw[h.op];rfl
  rw[e0,h.leaf rfl];exact CX k.op k.num k.text k.an k.nn k.cn k.ka 0 k.kc (by decide) [] rfl [] rfl w (CW w _) (fun j a1=>absurd a1 (by simp))
 |.attr i n,k,w,h,ho=>by
  have e0:Ao (.attr i n)=EG k.op []:=by rw[h.op];rfl
  rw[e0,h.leaf rfl];exact CX k.op k.num k.text k.an k.nn k.cn k.ka 0 k.kc (by decide) [] rfl [] rfl w (CW w _) (fun j a1=>absurd a1 (by simp))
 |.lett i n,k,w,h,ho=>by
  have e0:Ao (.lett i n)=EG k.op []:=by rw[h.op];rfl
  rw[e0,h.leaf rfl];exact CX k.op k.num k.text k.an k.nn k.cn k.ka 0 k.kc (by decide) [] rfl [] rfl w (CW w _) (fun j a1=>absurd a1 (by simp))
theorem AgO (hx:Be x=jA)(hy:Be y=jA):sameL x y=(decide (EZ x=EZ y)&&(decide (EZ x=6\/EZ x=7)&&decide (Acg x=Acg y))):=by
 have no:∀{z:Ex},Be z=jA->(EZ z=6↔∃i n,z= .attr i n)/\(EZ z=7↔∃i n,z= .lett i n):=fun {z} hz=>by
  cases z with
  |un i op k=>
   simp only[Be,zF,zI]at hz;exact⟨⟨fun e=>absurd (show op=6 from e) (by omega),fun ⟨_,_,e⟩=>by cases e⟩,⟨fun e=>absurd (show op=7 from e) (by omega),fun ⟨_,_,e⟩=>by cases e⟩⟩
  |bin i op l d=>
   simp only[Be,zF,zI]at hz;exact⟨⟨fun e=>absurd (show op=6 from e) (by omega),fun ⟨_,_,e⟩=>by cases e⟩,⟨fun e=>absurd (show op=7 from e) (by omega),fun ⟨_,_,e⟩=>by cases e⟩⟩
  |attr i n=>exact⟨⟨fun _=>⟨_,_,rfl⟩,fun _=>rfl⟩,⟨fun e=>absurd (show(6 :Int)=7 from e) (by decide),fun ⟨_,_,e⟩=>by cases e⟩⟩
  |lett i n=>exact⟨⟨fun e=>absurd (show(7 :Int)=6 from e) (by decide),fun ⟨_,_,e⟩=>by cases e⟩,⟨fun _=>⟨_,_,rfl⟩,fun _=>rfl⟩⟩
  |int i n=>exact⟨⟨fun e=>absurd (show(1 :Int)=6 from e) (by decide),fun ⟨_,_,e⟩=>by cases e⟩,⟨fun e=>absurd (show(1 :Int)=7 from e) (by decide),fun ⟨_,_,e⟩=>by cases e⟩⟩
  |text i n=>exact⟨⟨fun e=>absurd (show(2 :Int)=6 from e) (by decide),fun ⟨_,_,e⟩=>by cases e⟩,⟨fun e=>absurd (show(2 :Int)=7 from e) (by decide),fun ⟨_,_,e⟩=>by cases e⟩⟩
  |bool i n=>exact⟨⟨fun e=>absurd (show(3 :Int)=6 from e) (by decide),fun ⟨_,_,e⟩=>by cases e⟩,⟨fun e=>absurd (show(3 :Int)=7 from e) (by decide),fun ⟨_,_,e⟩=>by cases e⟩⟩
  |set i a n c ss=>exact⟨⟨fun e=>absurd (show(4 :Int)=6 from e) (by decide),fun ⟨_,_,e⟩=>by cases e⟩,⟨fun e=>absurd (show(4 :Int)=7 from e) (by decide),fun ⟨_,_,e⟩=>by cases e⟩⟩
  |name i n=>exact⟨⟨fun e=>absurd (show(5 :Int)=6 from e) (by decide),fun ⟨_,_,e⟩=>by cases e⟩,⟨fun e=>absurd (show(5 :Int)=7 from e) (by decide),fun ⟨_,_,e⟩=>by cases e⟩⟩
  |ite i c t e=>exact⟨⟨fun e=>absurd (show(27 :Int)=6 from e) (by decide),fun ⟨_,_,e⟩=>by cases e⟩,⟨fun e=>absurd (show(27 :Int)=7 from e) (by decide),fun ⟨_,_,e⟩=>by cases e⟩⟩
 by_cases he:EZ x=EZ y
 ·by_cases b:EZ x=6\/EZ x=7
  ·rw[zL he,zL b];rcases b with h|h
   ·obtain⟨i,n,rfl⟩:=(no hx).1.1 h;obtain⟨j,m,rfl⟩:=(no hy).1.1 (he ▸ h);show decide (m=n)=decide (n=m);exact decide_eq_decide.2 ⟨Eq.symm,Eq.symm⟩
   ·obtain⟨i,n,rfl⟩:=(no hx).2.1 h;obtain⟨j,m,rfl⟩:=(no hy).2.1 (he ▸ h);show decide (m=n)=decide (n=m);exact decide_eq_decide.2 ⟨Eq.symm,Eq.symm⟩
  ·rw[zJ b,Bool.false_and,Bool.and_false];cases x<;>first|rfl|exact absurd (.inl rfl) b|exact absurd (.inr rfl) b
 ·rw[zJ he,Bool.false_and];cases x<;>cases y<;>first|rfl|exact absurd rfl he
theorem QJ (h:Tq w x k)(f:Tq w y l)(hx:Be x=jA)(hy:Be y=jA):jE j4 123 #[jG #[U V k.op,U V k.num,Q k.text,Y k.an k.nn k.cn,Y k.ka k.kn k.kc],jG #[U V l.op,U V l.num,Q l.text,Y l.an l.nn l.cn,Y l.ka l.kn l.kc]] w (BoA (sameL x y) w):=by
 have h0:=AgO hx hy;rw[<-h.op,<-f.op,<-h.num,<-f.num]at h0;have d:=(Av w (CE k)).alloc (by simp) (CE l);have g:=(Ag.new w #[U V k.op,U V k.num,Q k.text,Y k.an k.nn k.cn,Y k.ka k.kn k.kc] 48).alloc (CE l);have o:=g.cell 0;have c1:=g.cell 1;generalize sameL x y=b at h0|-;clear h f hx hy g;by_cases he:k.op=l.op
 ·have j:(k.op==l.op)=jA:=zM.2 he;by_cases h6:k.op=6
  ·have m:(k.op==6)=jA:=zM.2 h6;by_cases a:k.num=l.num
   ·have i:(k.num==l.num)=jA:=zM.2 a;have c:b=jA:=h0.trans (by rw[zL he,zL (.inl h6),zL a];rfl);clear h0 he h6 a;subst c;go_enter func123,ntmps123
    go_wp2_with fail
    go_ret
    exact⟨rfl,d⟩
   ·have i:(k.num==l.num)=jC:=zA.2 a;have c:b=jC:=h0.trans (by rw[zL he,zL (.inl h6),zJ a];rfl);clear h0 he h6 a;subst c;go_enter func123,ntmps123
    go_wp2_with fail
    go_ret
    exact⟨rfl,d⟩
  ·have m:(k.op==6)=jC:=zA.2 h6;by_cases h7:k.op=7
   ·have n:(k.op==7)=jA:=zM.2 h7;by_cases a:k.num=l.num
    ·have i:(k.num==l.num)=jA:=zM.2 a;have c:b=jA:=h0.trans (by rw[zL he,zL (.inr h7),zL a];rfl);clear h0 he h6 h7 a;subst c;go_enter func123,ntmps123
     go_wp2_with fail
     go_ret
     exact⟨rfl,d⟩
    ·have i:(k.num==l.num)=jC:=zA.2 a;have c:b=jC:=h0.trans (by rw[zL he,zL (.inr h7),zJ a];rfl);clear h0 he h6 h7 a;subst c;go_enter func123,ntmps123
     go_wp2_with fail
     go_ret
     exact⟨rfl,d⟩
   ·have n:(k.op==7)=jC:=zA.2 h7;have c:b=jC:=h0.trans (by rw[zJ (show ¬ (k.op=6\/k.op=7)from fun e=>e.elim h6 h7),Bool.false_and,Bool.and_false]);clear h0 he h6 h7;subst c;go_enter func123,ntmps123
    go_wp2_with fail
    go_ret
    exact⟨rfl,d⟩
 ·have j:(k.op==l.op)=jC:=zA.2 he;have c:b=jC:=h0.trans (by rw[zJ he];rfl);clear h0 he;subst c;go_enter func123,ntmps123
  go_wp2_with fail
  go_ret
  exact⟨rfl,d⟩
set_option maxHeartbeats 25600000
def PrA (o:Option Ex) (w:Z) (r:jT) (w':Z):Prop:=
 (∃ (k:K5) (b:Bool),r=jH (jO #[jG #[U V k.op,U V k.num,Q k.text,Y k.an k.nn k.cn,Y k.ka k.kn k.kc],.bool b])/\b=o.isSome/\∀z,o=X z->Tq w' z k)/\Ah w w'
def PrW (x y:Ex) (k l:K5) (z:Ex) (m:K5):Prop:=(z=x/\m=k)\/(z=y/\m=l)\/(∃b,z= .bool 0 b/\m=⟨3,if b then 1 else 0,⟨#[]⟩,T,0,0,T,0,0⟩)\/(z= .set 0 T 0 0 []/\m=⟨4,0,⟨#[]⟩,T,0,0,T,0,0⟩)
theorem prX  :PrW x y k l x k:=Or.inl ⟨rfl,rfl⟩
theorem prY  :PrW x y k l y l:=Or.inr (Or.inl ⟨rfl,rfl⟩)
theorem prT (b:Bool):PrW x y k l (.bool 0 b) ⟨3,if b then 1 else 0,⟨#[]⟩,T,0,0,T,0,0⟩:=Or.inr (Or.inr (Or.inl ⟨b,rfl,rfl⟩))
theorem prE  :PrW x y k l (.set 0 T 0 0 []) ⟨4,0,⟨#[]⟩,T,0,0,T,0,0⟩:=Or.inr (Or.inr (Or.inr ⟨rfl,rfl⟩))
def PrB (x y:Ex) (k l:K5) (o:Option Ex) (w:Z) (r:jT) (w':Z):Prop:=
 (∃ (m:K5) (b:Bool),r=jH (jO #[jG #[U V m.op,U V m.num,Q m.text,Y m.an m.nn m.cn,Y m.ka m.kn m.kc],.bool b])/\b=o.isSome/\∀z,o=X z->PrW x y k l z m)/\Ah w w'
theorem BQ {fn:Func}{a u:Tmp}(h:fn.results= #[.cell a 48,.tmp u]){tmps:Array Value}{b:Nat}{c d f e:Value}(j:tmps.getD a undef= .pointer (X ⟨b,0,T⟩))(k:tmps.getD u undef=e)
  (R:Ag w b #[c,d,f,g,i] 48):(jR fn tmps).run j4 w= .ok (jO #[jG #[c,d,f,g,i],e]) w:=by
 rw[Array.getD_eq_getD_getElem?]at j k;have g0:w.cell? ⟨b,0,T⟩=X c:=R.cell 0;have g1:w.cell? ⟨b,1,T⟩=X d:=R.cell 1;have g2:w.cell? ⟨b,2,T⟩=X f:=R.cell 2;have g3:w.cell? ⟨b,3,T⟩=X g:=R.cell 3;have l:w.cell? ⟨b,4,T⟩=X i:=R.cell 4;simp[jR,h,j,k,go_sem,g0,g1,g2,g3,l]
theorem Aev (w:Z):Tq w (.set 0 T 0 0 []) ⟨4,0,⟨#[]⟩,T,0,0,T,0,0⟩:=
 ⟨rfl,rfl,rfl,rfl,⟨rfl,NLN,zD _,fun j h=>absurd h (by simp),fun j h=>absurd h (by simp)⟩,zD _,fun _=>rfl,fun a e=>by cases e⟩
theorem AaU (w:Z)(b:Bool):Tq w (.bool 0 b) ⟨3,if b then 1 else 0,⟨#[]⟩,T,0,0,T,0,0⟩:=
 ⟨rfl,by cases b<;>rfl,rfl,rfl,⟨rfl,NLN,zD _,fun j h=>absurd h (by simp),fun j h=>absurd h (by simp)⟩,zD _,fun _=>rfl,fun a e=>by cases e⟩
theorem QK (n:Int)(w:Z):jE j4 126 #[U V n] w fun b w'=>b=jH (jG #[U V 3,U V n,Q ⟨#[]⟩,Y T 0 0,Y T 0 0])/\Ah w w':=by
 have a:=Av w (jF #[U V 3,U V n,Q ⟨#[]⟩,Y T 0 0,Y T 0 0] 48);go_enter func126,ntmps126
 go_wp2_with fail
 first
 |(go_ret;exact⟨rfl,a⟩)
 |exact jN (v:= jG #[U V 3,U V n,Q ⟨#[]⟩,Y T 0 0,Y T 0 0]) (by simp[jR,results126,go_sem]) rfl ⟨rfl,a⟩
theorem Aij (h:sameL x y=jA):GP x=jC/\GP y=jC:=by
 cases x<;>cases y<;>first|exact⟨rfl,rfl⟩|cases h
theorem WR {P:Program}{ops:Array Oper}{o:Oper}{a:Act}{K:Act->Z->Prop}{d:Exit->Act->Z->Prop}{g:Prop}(i:Region.wanted o (yielded ops a.tmps)=jA)(f:FuncId)(fn:Func)(hf:P.funcs[f]? =X fn)(j:(fn.name== "runtime.NumGoroutine")=jC)(c:fn.body.isNone=jC)(x:Operand)(k:Array jJ)
  (l:o.op= .call { callee:= .value (.func f),args:=#[x],argTypes:=k })(b:Value)(hx:a.eval x=b)
  (R:Value->Z->Prop)(hc:jE P f #[b] w fun e w'=>∃v,e=jH v/\R v w')(h:∀v w',R v w'->K (a.put o.dst v) w'):
  if Region.wanted o (yielded ops a.tmps)=jA then Oper.wp P o a w K d else g:=by
 rw[if_pos i];unfold Oper.wp;have m:(execOp a.eval o).run P w= .ok (.enter f #[b]) w:=by
  subst hx;have h1:fn.name≠ "runtime.NumGoroutine" :=by simpa using j
  have h2:(callFunc f #[a.eval x]).run P w= .ok (.enter f #[a.eval x]) w:=by
   have h3:fn.body≠T:=fun e=>by rw[e]at c;cases c
   simp[callFunc,hf,h1,h3]
  simpa[execOp,l,resolve,invoke,Act.eval,Result.andThen,go_sem]using h2
 rw[m,Oper.upon_enter];refine hc.mono ?_;rintro e w' ⟨v,rfl,n⟩;exact h v w' n
theorem Ay {b:Nat}{a c d f g:Value}{t:jJ}(R:Ag w b #[a,c,d,f,g] t):w.cell? ⟨b,0,T⟩=X a/\w.cell? ⟨b,1,T⟩=X c/\w.cell? ⟨b,2,T⟩=X d/\w.cell? ⟨b,3,T⟩=X f/\w.cell? ⟨b,4,T⟩=X g/\∀j,w.frozen? ⟨b,j,T⟩=jC:=⟨R.cell 0,R.cell 1,R.cell 2,R.cell 3,R.cell 4,fun j=>R.frozen j⟩
def zW (W:Z) (b:Nat) (k:K5):Z:=((((W.setCell ⟨b,0,T⟩ (U V k.op)).setCell ⟨b,1,T⟩ (U V k.num)).setCell ⟨b,2,T⟩ (Q k.text)).setCell ⟨b,3,T⟩ (Y k.an k.nn k.cn)).setCell ⟨b,4,T⟩ (Y k.ka k.kn k.kc)
theorem QL {c:Z}{b:Nat}{d f g h:Value}(k:K5)(B:Ah w c)(R:Ag c b #[d,f,g,h,i] 48)(a:w.heap.size<=b):Ah w (zW c b k)/\Ag (zW c b k) b #[U V k.op,U V k.num,Q k.text,Y k.an k.nn k.cn,Y k.ka k.kn k.kc] 48:=
 ⟨((((B.setCell (p:=⟨b,0,T⟩) a _).setCell (p:=⟨b,1,T⟩) a _).setCell (p:=⟨b,2,T⟩) a _).setCell (p:=⟨b,3,T⟩) a _).setCell (p:=⟨b,4,T⟩) a _,((((R.set 0 _).set 1 _).set 2 _).set 3 _).set 4 _⟩
def Pz (w:Z) (k l:K5) (W:Z):Prop:=Ah w W/\Ag W w.heap.size #[U V k.op,U V k.num,Q k.text,Y k.an k.nn k.cn,Y k.ka k.kn k.kc] 48/\Ag W (w.heap.size+1) #[U V l.op,U V l.num,Q l.text,Y l.an l.nn l.cn,Y l.ka l.kn l.kc] 48/\Ag W (w.heap.size+1+1) #[U V 0,U V 0,Q ⟨#[]⟩,Y T 0 0,Y T 0 0] 48
theorem Pz.next {c:Z}(h:Pz w k l a)(b:Ah a c):Pz w k l c:=
 ⟨h.1.trans (b.mono h.1.size),h.2.1.after b NLN,h.2.2.1.after b NLN,h.2.2.2.after b NLN⟩
theorem Eu {b:Nat}{t:jJ}(R:Ag w b cs t):w.frozen? ⟨b,0,T⟩=jC/\w.frozen? ⟨b,1,T⟩=jC/\w.frozen? ⟨b,2,T⟩=jC/\w.frozen? ⟨b,3,T⟩=jC/\w.frozen? ⟨b,4,T⟩=jC:=⟨R.frozen 0,R.frozen 1,R.frozen 2,R.frozen 3,R.frozen 4⟩
theorem Pz.fin (m:K5)(h:Pz w k l a):Ah w (zW a (w.heap.size+1+1) m)/\Ag (zW a (w.heap.size+1+1) m) (w.heap.size+1+1) #[U V m.op,U V m.num,Q m.text,Y m.an m.nn m.cn,Y m.ka m.kn m.kc] 48:=QL m h.1 h.2.2.2 (by omega)
theorem QM (d:a=((w.alloc (CE k)).alloc (CE l)).alloc Gy):Pz w k l a:=by
 subst d;have f:=((Ag.new w #[U V k.op,U V k.num,Q k.text,Y k.an k.nn k.cn,Y k.ka k.kn k.kc] 48).alloc (CE l)).alloc Gy;have b:=(Ag.new (w.alloc (CE k)) #[U V l.op,U V l.num,Q l.text,Y l.an l.nn l.cn,Y l.ka l.kn l.kc] 48).alloc Gy;have c:=Ag.new ((w.alloc (CE k)).alloc (CE l)) #[U V 0,U V 0,Q ⟨#[]⟩,Y T 0 0,Y T 0 0] 48;simp only[World.size_alloc]at b c;exact⟨((Av w _).alloc (by simp) _).alloc (by simp;omega) _,f,b,c⟩
theorem Aik (op:Int)(B:op=11\/op=13\/op=15\/op=16\/op=17\/op=18\/op=19\/op=20\/op=21\/op=22\/op=24\/op=25\/op=26)(s:Tq w x k)(t:Tq w y l)(g:Be x=jA)(h:Be y=jA):jE j4 83 #[U V op,jG #[U V k.op,U V k.num,Q k.text,Y k.an k.nn k.cn,Y k.ka k.kn k.kc],jG #[U V l.op,U V l.num,Q l.text,Y l.an l.nn l.cn,Y l.ka l.kn l.kc]] w (PrB x y k l (CS op x y) w):=by
 obtain⟨m,p⟩:∃m,m=((w.alloc (CE k)).alloc (CE l)).alloc Gy:=⟨_,rfl⟩
 have P:=QM p;have u:=Ab p;clear p;obtain⟨o,q⟩:∃o,o=CS op x y:=⟨_,rfl⟩
 rw[<-q];have C:=Ab q;clear q;rcases B with rfl|rfl|rfl|rfl|rfl|rfl|rfl|rfl|rfl|rfl|rfl|rfl|rfl
 all_goals
  go_enter func83,ntmps83
  go_wp2_with fail
  rw[<-Aa u];clear u;refine(QJ (s.below P.1 NLN) (t.below P.1 NLN) g h).mono ?_;rintro c D ⟨rfl,v⟩;replace P:=P.next v;clear v;generalize D=m at P|-;dsimp only;generalize hv:sameL x y=d;cases d
  case' true=>have r:=Ab (Aij hv)
  all_goals
   first
    |have n:=Ab (And.intro hv (Aa r))
    |have n:=Ab hv
   clear hv
   repeat'
    first
     |obtain⟨E,F,x2,x3,G,-⟩:=Ay P.2.1
      obtain⟨H,I,J,K,L,-⟩:=Ay P.2.2.1;obtain⟨M,N,O,S,W⟩:=Eu P.2.2.2;obtain⟨aa,ab,ac,ad,ae,-⟩:=Ay P.2.2.2;go_wp2_with fail
      have i:=s.below P.1 NLN;have j:=t.below P.1 NLN
      first
       |with_reducible refine(UN i g _).mono ?_
        rintro c f ⟨rfl,b⟩;generalize hv:No _ x=d
       |with_reducible refine(Nt i g).mono ?_
        rintro c f ⟨rfl,b⟩;generalize hv:GP x=d
       |with_reducible refine(Fj i g jC 0 rfl).mono ?_
        rintro c f ⟨rfl,b⟩;generalize hv:isB jC x=d
       |with_reducible refine(Fj i g jA 1 rfl).mono ?_
        rintro c f ⟨rfl,b⟩;generalize hv:isB jA x=d
       |with_reducible refine(DU x _ _ i g).mono ?_
        rintro c f ⟨rfl,b⟩;generalize hv:Ao x=d
       |with_reducible refine(UN j h _).mono ?_
        rintro c f ⟨rfl,b⟩;generalize hv:No _ y=d
       |with_reducible refine(Nt j h).mono ?_
        rintro c f ⟨rfl,b⟩;generalize hv:GP y=d
       |with_reducible refine(Fj j h jC 0 rfl).mono ?_
        rintro c f ⟨rfl,b⟩;generalize hv:isB jC y=d
       |with_reducible refine(Fj j h jA 1 rfl).mono ?_
        rintro c f ⟨rfl,b⟩;generalize hv:isB jA y=d
       |with_reducible refine(DU y _ _ j h).mono ?_
        rintro c f ⟨rfl,b⟩;generalize hv:Ao y=d
       |with_reducible refine(QK 1 _).mono ?_
        rintro c f ⟨rfl,b⟩;have af:True:=trivial
       |with_reducible refine(QK 0 _).mono ?_
        rintro c f ⟨rfl,b⟩;have ag:True:=trivial
       |have A:=Aa C
        simp[CS,JC,Gd,JD,GF,Qo,JE,Em,ID,Aa n]at A;subst A
        first
         |with_reducible show bodyPost _ _ (PrB x y k l (X y) w) _ _ _
          exact jN (BQ results83 rfl rfl (P.fin l).2) rfl ⟨⟨l,jA,rfl,rfl,fun z a=>by cases a;exact prY⟩,(P.fin l).1⟩
         |with_reducible show bodyPost _ _ (PrB x y k l (X x) w) _ _ _
          exact jN (BQ results83 rfl rfl (P.fin k).2) rfl ⟨⟨k,jA,rfl,rfl,fun z a=>by cases a;exact prX⟩,(P.fin k).1⟩
         |with_reducible show bodyPost _ _ (PrB x y k l (X (.bool 0 jA)) w) _ _ _
          exact jN (BQ results83 rfl rfl (P.fin ⟨3,1,⟨#[]⟩,T,0,0,T,0,0⟩).2) rfl ⟨⟨⟨3,1,⟨#[]⟩,T,0,0,T,0,0⟩,jA,rfl,rfl,fun z a=>by cases a;exact prT jA⟩,(P.fin ⟨3,1,⟨#[]⟩,T,0,0,T,0,0⟩).1⟩
         |with_reducible show bodyPost _ _ (PrB x y k l (X (.bool 0 jC)) w) _ _ _
          exact jN (BQ results83 rfl rfl (P.fin ⟨3,0,⟨#[]⟩,T,0,0,T,0,0⟩).2) rfl ⟨⟨⟨3,0,⟨#[]⟩,T,0,0,T,0,0⟩,jA,rfl,rfl,fun z a=>by cases a;exact prT jC⟩,(P.fin ⟨3,0,⟨#[]⟩,T,0,0,T,0,0⟩).1⟩
         |with_reducible show bodyPost _ _ (PrB x y k l (X (.set 0 T 0 0 [])) w) _ _ _
          exact jN (BQ results83 rfl rfl (P.fin ⟨4,0,⟨#[]⟩,T,0,0,T,0,0⟩).2) rfl ⟨⟨⟨4,0,⟨#[]⟩,T,0,0,T,0,0⟩,jA,rfl,rfl,fun z a=>by cases a;exact prE⟩,(P.fin ⟨4,0,⟨#[]⟩,T,0,0,T,0,0⟩).1⟩
         |have:=af;with_reducible show bodyPost _ _ (PrB x y k l (T) w) _ _ _
          exact jN (BQ results83 rfl rfl (P.fin ⟨3,1,⟨#[]⟩,T,0,0,T,0,0⟩).2) rfl ⟨⟨⟨3,1,⟨#[]⟩,T,0,0,T,0,0⟩,jC,rfl,rfl,fun z a=>by cases a⟩,(P.fin ⟨3,1,⟨#[]⟩,T,0,0,T,0,0⟩).1⟩
         |have:=ag;with_reducible show bodyPost _ _ (PrB x y k l (T) w) _ _ _
          exact jN (BQ results83 rfl rfl (P.fin ⟨3,0,⟨#[]⟩,T,0,0,T,0,0⟩).2) rfl ⟨⟨⟨3,0,⟨#[]⟩,T,0,0,T,0,0⟩,jC,rfl,rfl,fun z a=>by cases a⟩,(P.fin ⟨3,0,⟨#[]⟩,T,0,0,T,0,0⟩).1⟩
         |with_reducible show bodyPost _ _ (PrB x y k l (T) w) _ _ _
          exact jN (BQ results83 rfl rfl (P.fin ⟨0,0,⟨#[]⟩,T,0,0,T,0,0⟩).2) rfl ⟨⟨⟨0,0,⟨#[]⟩,T,0,0,T,0,0⟩,jC,rfl,rfl,fun z a=>by cases a⟩,(P.fin ⟨0,0,⟨#[]⟩,T,0,0,T,0,0⟩).1⟩
      all_goals
       clear i j E F x2 x3 G H I J K L aa ab ac ad ae M N O S W;replace P:=P.next b;clear b;generalize f=m at P|-;dsimp only
       first
        |cases d
         all_goals
          first
           |exact absurd ((Aa r).1.symm.trans hv) Bool.false_ne_true
           |exact absurd ((Aa r).2.symm.trans hv) Bool.false_ne_true
           |replace n:=Ab (And.intro hv (Aa n))
            clear hv
        |skip
     |fail
theorem Aew (op:Int)(n:Int)(f:(op=12/\n=0)\/(op=14/\n=1))(s:Tq w x k)(g:Tq w y l)(t:Be x=jA)(i:Be y=jA):jE j4 83 #[U V op,jG #[U V k.op,U V k.num,Q k.text,Y k.an k.nn k.cn,Y k.ka k.kn k.kc],jG #[U V l.op,U V l.num,Q l.text,Y l.an l.nn l.cn,Y l.ka l.kn l.kc]] w (PrB x y k l (CS op x y) w):=by
 obtain⟨b,d⟩:∃b,b=((w.alloc (CE k)).alloc (CE l)).alloc Gy:=⟨_,rfl⟩
 have P:=QM d;have j:=Ab d;clear d;have m:=Ab (show CS op x y=if No n y then X x else T by rcases f with⟨rfl,rfl⟩|⟨rfl,rfl⟩<;>rfl);have o:=Ab (fun (u:Z) (b1:Ah w u)=>UN (g.below b1 NLN) i n);generalize No n y=c at m o;rcases f with⟨rfl,rfl⟩|⟨rfl,rfl⟩
 all_goals
  go_enter func83,ntmps83
  go_wp2_with fail
  rw[<-Aa j];clear j;refine(QJ (s.below P.1 NLN) (g.below P.1 NLN) t i).mono ?_;rintro A B ⟨rfl,p⟩;replace P:=P.next p;clear p;generalize B=b at P|-;dsimp only;generalize sameL x y=ac;obtain⟨C,D,x2,x3,E,-⟩:=Ay P.2.1;obtain⟨ad,ae,af,ag,ah,-⟩:=Ay P.2.2.1;obtain⟨F,G,H,I,J⟩:=Eu P.2.2.2;obtain⟨K,L,M,N,O,-⟩:=Ay P.2.2.2;have S:(Tryz.f125.name== "runtime.NumGoroutine")=jC:=by kernel_rfl
  have W: Tryz.f125.body.isNone=jC:=by kernel_rfl
  have aa:=Ab ((Aa o _ P.1.drew).mono (R':=fun e w'=>∃v,e=jH v/\(v= .bool c/\Ah b w')) (fun A w' h=>⟨_,h.1,rfl,⟨h.2.os,h.2.tape,h.2.output,h.2.size,h.2.block⟩⟩));go_wp2_with fail
  go_region_law (refine AE rfl 125 _ func125 S W _ _ _ rfl (jG #[U V l.op,U V l.num,Q l.text,Y l.an l.nn l.cn,Y l.ka l.kn l.kc]) _ rfl rfl _ (Aa aa) ?_;rintro ai aj ⟨rfl,q⟩;have a:=P.next q;obtain⟨C,D,x2,x3,E,-⟩:=Ay a.2.1;obtain⟨F,G,H,I,J⟩:=Eu a.2.2.2;obtain⟨K,L,M,N,O,-⟩:=Ay a.2.2.2)
  all_goals
   have r:=Ab (a.fin k);clear a P q;go_wp2_with fail
   exact jN (BQ results83 rfl rfl (Aa r).2) rfl (by rw[Aa m];exact⟨⟨k,c,rfl,by cases c<;>rfl,fun z ab=>by cases c<;>cases ab;exact prX⟩,(Aa r).1⟩)
theorem AgP (op:Int)(af:op=23)(N:Tq w x k)(O:Tq w y l)(S:Be x=jA)(W:Be y=jA):jE j4 83 #[U V op,jG #[U V k.op,U V k.num,Q k.text,Y k.an k.nn k.cn,Y k.ka k.kn k.kc],jG #[U V l.op,U V l.num,Q l.text,Y l.an l.nn l.cn,Y l.ka l.kn l.kc]] w (PrB x y k l (CS op x y) w):=by
 obtain⟨d,i⟩:∃d,d=((w.alloc (CE k)).alloc (CE l)).alloc Gy:=⟨_,rfl⟩
 have P:=QM i;have aa:=Ab i;clear i;subst af;go_enter func83,ntmps83
 go_wp2_with fail
 rw[<-Aa aa];clear aa;refine(QJ (N.below P.1 NLN) (O.below P.1 NLN) S W).mono ?_;rintro ax ag ⟨rfl,ab⟩;replace P:=P.next ab;clear ab;generalize ag=d at P|-;dsimp only;generalize sameL x y=ay;obtain⟨j,m,x2,x3,n,-⟩:=Ay P.2.1;obtain⟨o,p,q,r,s,-⟩:=Ay P.2.2.1;obtain⟨t,u,v,A,B⟩:=Eu P.2.2.2;obtain⟨C,D,E,F,G,-⟩:=Ay P.2.2.2;have ac:=Ab (fun (H:Z) (b1:Ah w H)=>Nt (O.below b1 NLN) W);have ad:=Ab (fun (H:Z) (b1:Ah w H)=>DU x _ _ (N.below b1 NLN) S);have g:=Ab (show CS 23 x y=if GP y&&Ao x then X (.bool 0 jC)else T from rfl);generalize GP y=ah at ac g;generalize Ao x=I at ad g;have J:=P.next (Ji d).drew;clear P;go_wp2_with fail
 cases ah
 all_goals
  have ai:(Tryz.f126.name== "runtime.NumGoroutine")=jC:=by kernel_rfl
  have aj: Tryz.f126.body.isNone=jC:=by kernel_rfl
  have ak:(Tryz.f124.name== "runtime.NumGoroutine")=jC:=by kernel_rfl
  have al: Tryz.f124.body.isNone=jC:=by kernel_rfl
  have ao:(Tryz.f17.name== "runtime.NumGoroutine")=jC:=by kernel_rfl
  have ap: Tryz.f17.body.isNone=jC:=by kernel_rfl
  have aq:=Ab (Gz (QK 0 d.drew) (fun e w' h=>⟨_,h.1⟩));go_region_law (first
   |(refine QN rfl 126 _ func126 ai aj _ _ rfl (U V 0) rfl _ (Aa aq) ?_;rintro az ar ⟨h8,K⟩;obtain rfl:=Bg h8;have b:=J.next K;obtain⟨j,m,x2,x3,n,-⟩:=Ay b.2.1;obtain⟨o,p,q,r,s,-⟩:=Ay b.2.2.1;obtain⟨t,u,v,A,B⟩:=Eu b.2.2.2;obtain⟨C,D,E,F,G,-⟩:=Ay b.2.2.2;have au:=Ab (Gz (Aa ac ar b.1) (fun e w' h=>⟨_,h.1⟩)))
   |(refine QN rfl 124 _ func124 ak al _ _ rfl (jG #[U V l.op,U V l.num,Q l.text,Y l.an l.nn l.cn,Y l.ka l.kn l.kc]) rfl _ (Aa au) ?_;rintro aA av ⟨h9,L⟩;obtain rfl:=Bg h9;have a:=b.next L;obtain⟨j,m,x2,x3,n,-⟩:=Ay a.2.1;obtain⟨o,p,q,r,s,-⟩:=Ay a.2.2.1;obtain⟨t,u,v,A,B⟩:=Eu a.2.2.2;obtain⟨C,D,E,F,G,-⟩:=Ay a.2.2.2;have aw:=Ab (Gz (Aa ad av a.1) (fun e w' h=>⟨_,h.1⟩)))
   |(refine WR (by simp[Region.wanted,yielded]) 17 _ func17 ao ap _ _ rfl (jG #[U V k.op,U V k.num,Q k.text,Y k.an k.nn k.cn,Y k.ka k.kn k.kc]) rfl _ (Aa aw) ?_;rintro aB aC ⟨h10,ae⟩;obtain rfl:=Bg h10;have c:=a.next ae;obtain⟨j,m,x2,x3,n,-⟩:=Ay c.2.1;obtain⟨o,p,q,r,s,-⟩:=Ay c.2.2.1;obtain⟨t,u,v,A,B⟩:=Eu c.2.2.2;obtain⟨C,D,E,F,G,-⟩:=Ay c.2.2.2)
   |fail)
  all_goals
   first
    |have f:=Ab (c.fin ⟨3,0,⟨#[]⟩,T,0,0,T,0,0⟩)
     clear b K a L c ae J;go_wp2_with fail
     exact jN (BQ results83 rfl rfl (Aa f).2) rfl (by rw[Aa g];exact⟨⟨⟨3,0,⟨#[]⟩,T,0,0,T,0,0⟩,I,rfl,by cases I<;>rfl,fun z M=>by cases I<;>cases M;exact prT jC⟩,(Aa f).1⟩)
    |have f:=Ab (a.fin ⟨3,0,⟨#[]⟩,T,0,0,T,0,0⟩)
     clear b K a L J;go_wp2_with fail
     exact jN (BQ results83 rfl rfl (Aa f).2) rfl (by rw[Aa g];exact⟨⟨⟨3,0,⟨#[]⟩,T,0,0,T,0,0⟩,jC,rfl,rfl,fun z M=>by cases M⟩,(Aa f).1⟩)
theorem Ail (op:Int)(f: 11<=op/\op<=26)(a:Tq w x k)(b:Tq w y l)(c:Be x=jA)(d:Be y=jA):jE j4 83 #[U V op,jG #[U V k.op,U V k.num,Q k.text,Y k.an k.nn k.cn,Y k.ka k.kn k.kc],jG #[U V l.op,U V l.num,Q l.text,Y l.an l.nn l.cn,Y l.ka l.kn l.kc]] w (PrB x y k l (CS op x y) w):=by
 by_cases h1:op=12\/op=14
 ·rcases h1 with h|h
  ·exact Aew op 0 (.inl ⟨h,rfl⟩) a b c d
  ·exact Aew op 1 (.inr ⟨h,rfl⟩) a b c d
 ·by_cases h2:op=23
  ·exact AgP op h2 a b c d
  ·exact Aik op (by omega) a b c d
set_option maxHeartbeats 1600000
theorem Nu {e:Ex}{v:Vv}(h:e.cv=X v):e.con=jA:=by rw[Ex.con,h];rfl
theorem Nv (R:Rq)(ls:List Vv){e:Ex}{v:Vv}(h:e.cv=X v):DI R ls e= .ok v:=by
 cases e<;>simp only[Ex.cv]at h<;>first|(cases h;rfl)|cases h
theorem AgQ (i op:Int){a:Ex}{v:Vv}(h:a.cv=X v):Ar (.un i op a)=match GV op v with| .ok u=>X u.ex| .err _=>T:=by
 unfold Ar;rw[if_neg (by simp[Ex.kids]),if_pos (by simp[Ex.kids,Nu h]),DI,Nv _ _ h];dsimp only;cases GV op v<;>rfl
theorem WS (i op:Int){a b:Ex}{v u:Vv}(h:a.cv=X v)(f:b.cv=X u):Ar (.bin i op a b)=if Jf op v then X v.ex else if op=25\/op=26 then X u.ex else match Ch op v u with| .ok u=>X u.ex| .err _=>T:=by
 unfold Ar;rw[if_neg (by simp[Ex.kids]),if_pos (by simp[Ex.kids,Nu h,Nu f]),DI,Nv _ _ h,Nv _ _ f];dsimp only;by_cases c:Jf op v=jA
 ·rw[if_pos c,if_pos c]
 ·rw[if_neg c,if_neg c];by_cases d:op=25\/op=26
  ·rw[if_pos d,if_pos d]
  ·rw[if_neg d,if_neg d];cases Ch op v u<;>rfl
theorem Aex (i:Int){c a b:Ex}{x:Bool}{v u:Vv}(hc:c.cv=X (.bool x))(h:a.cv=X v)(d:b.cv=X u):Ar (.ite i c a b)=X (if x then v.ex else u.ex):=by
 unfold Ar;rw[if_neg (by simp[Ex.kids]),if_pos (by simp[Ex.kids,Nu hc,Nu h,Nu d]),DI,Nv _ _ hc,Nv _ _ h,Nv _ _ d];cases x<;>rfl
theorem On {e:Ex}{v:Vv}(hv:e.cv=X v)(h:Tq w e k):Tq w v.ex k:=by
 cases e<;>simp only[Ex.cv]at hv<;>first|(cases hv;exact h)|cases hv
theorem Bh {a:List K5}(h:BT w ka a)(h0: 0<a.length):∃g o,ka=X ⟨g,o,T⟩/\g<w.heap.size/\∀j,(b:j<a.length)->w.cell? ⟨g,o+j*5,T⟩=X (U V a[j].op)/\w.cell? ⟨g,o+j*5+1,T⟩=X (U V a[j].num)/\w.cell? ⟨g,o+j*5+2,T⟩=X (Q a[j].text)/\w.cell? ⟨g,o+j*5+3,T⟩=X (Y a[j].an a[j].nn a[j].cn)/\w.cell? ⟨g,o+j*5+4,T⟩=X (Y a[j].ka a[j].kn a[j].kc):=by
 obtain⟨g,o,rfl,hg,_⟩:=h 0 h0;refine⟨g,o,rfl,hg,fun j b=>?_⟩;obtain⟨c,o',e,_,hc⟩:=h j b;cases e;exact⟨hc 0 (by decide),hc 1 (by decide),hc 2 (by decide),hc 3 (by decide),hc 4 (by decide)⟩
def zK:K5:=⟨0,0,⟨#[]⟩,T,0,0,T,0,0⟩
theorem Ach (op:Int)(C:op=25\/op=26)(i:Int){a b:Ex}{x y:Bool}{k0 c:K5}{kc:Nat}(h0:Tq w a k0)(h1:Tq w b c)(n:a.cv=X (.bool x))(q:b.cv=X (.bool y))(A:BT w ka [k0,c]):
  jE j4 80 #[U V op,Y ka 2 kc] w (PrA (Ar (.bin i op a b)) w):=by
 obtain⟨g,o,rfl,hg,hc⟩:=Bh A (by simp);have D:=Av w Gy;have r:=On n h0;have B:=On q h1;have n0:k0.num=if x then 1 else 0:=r.num;obtain⟨s,a1,a2,a3,a4⟩:=hc 0 (by simp);obtain⟨t,b1,b2,b3,b4⟩:=hc 1 (by simp);simp only[zt,z8,z0,Nat.one_mul,zX]at s a1 a2 a3 a4 t b1 b2 b3 b4;have d:∀{p:Nat} {u:R},w.cell? ⟨g,p,T⟩=X u->(w.alloc Gy).cell? ⟨g,p,T⟩=X u:=fun {p u} h=>(D.cell (p:=⟨g,p,T⟩) hg).trans h;replace s:=d s;replace a1:=d a1;replace a2:=d a2;replace a3:=d a3;replace a4:=d a4;replace t:=d t;replace b1:=d b1;replace b2:=d b2;replace b3:=d b3;replace b4:=d b4;have k:=Ab (WS i op n q);have l:=Ab (Av w (CE k0));have m:=Ab (Av w (CE c));clear d hc A h0 h1 n q;rcases C with rfl|rfl
 ·cases x with
  |false=>
   have f:=Ab (show Ar (.bin i 25 a b)=X (Vv.ex (.bool jC)) by rw[Aa k];rfl);have v:(k0.num==0)=jA:=by rw[n0];rfl
   clear n0;go_enter func80,ntmps80
   go_wp2_with fail
   exact jN (BQ results80 rfl rfl (Ag.new w #[U V k0.op,U V k0.num,Q k0.text,Y k0.an k0.nn k0.cn,Y k0.ka k0.kn k0.kc] 48)) rfl (by rw[Aa f];exact⟨⟨k0,jA,rfl,rfl,fun z j=>by cases j;exact r.below (Aa l) NLN⟩,Aa l⟩)
  |true=>
   have f:=Ab (show Ar (.bin i 25 a b)=X (Vv.ex (.bool y)) by rw[Aa k];rfl);have v:(k0.num==0)=jC:=by rw[n0];rfl
   clear n0;go_enter func80,ntmps80
   go_wp2_with fail
   exact jN (BQ results80 rfl rfl (Ag.new w #[U V c.op,U V c.num,Q c.text,Y c.an c.nn c.cn,Y c.ka c.kn c.kc] 48)) rfl (by rw[Aa f];exact⟨⟨c,jA,rfl,rfl,fun z j=>by cases j;exact B.below (Aa m) NLN⟩,Aa m⟩)
 ·cases x with
  |false=>
   have f:=Ab (show Ar (.bin i 26 a b)=X (Vv.ex (.bool y)) by rw[Aa k];rfl);have v:(k0.num==1)=jC:=by rw[n0];rfl
   clear n0;go_enter func80,ntmps80
   go_wp2_with fail
   exact jN (BQ results80 rfl rfl (Ag.new w #[U V c.op,U V c.num,Q c.text,Y c.an c.nn c.cn,Y c.ka c.kn c.kc] 48)) rfl (by rw[Aa f];exact⟨⟨c,jA,rfl,rfl,fun z j=>by cases j;exact B.below (Aa m) NLN⟩,Aa m⟩)
  |true=>
   have f:=Ab (show Ar (.bin i 26 a b)=X (Vv.ex (.bool jA)) by rw[Aa k];rfl);have v:(k0.num==1)=jA:=by rw[n0];rfl
   clear n0;go_enter func80,ntmps80
   go_wp2_with fail
   exact jN (BQ results80 rfl rfl (Ag.new w #[U V k0.op,U V k0.num,Q k0.text,Y k0.an k0.nn k0.cn,Y k0.ka k0.kn k0.kc] 48)) rfl (by rw[Aa f];exact⟨⟨k0,jA,rfl,rfl,fun z j=>by cases j;exact r.below (Aa l) NLN⟩,Aa l⟩)
theorem WT (i:Int){c a b:Ex}{x:Bool}{v u:Vv}{k0 f j:K5}{kc:Nat}(h0:Tq w c k0)(h1:Tq w a f)(h2:Tq w b j)(k:c.cv=X (.bool x))(l:a.cv=X v)(m:b.cv=X u)(t:BT w ka [k0,f,j]):
  jE j4 80 #[U V 27,Y ka 3 kc] w (PrA (Ar (.ite i c a b)) w):=by
 obtain⟨g,o,rfl,hg,hc⟩:=Bh t (by simp);have D:=Av w Gy;have y:=On k h0;have E:=On l h1;have F:=On m h2;have n0:k0.num=if x then 1 else 0:=y.num;obtain⟨n,a1,a2,a3,a4⟩:=hc 0 (by simp);obtain⟨q,b1,b2,b3,b4⟩:=hc 1 (by simp);obtain⟨r,d1,d2,d3,d4⟩:=hc 2 (by simp);simp only[zt,z8,z0,Nat.one_mul,zX,Nat.reduceMul]at n a1 a2 a3 a4 q b1 b2 b3 b4 r d1 d2 d3 d4;have d:∀{p:Nat} {u:R},w.cell? ⟨g,p,T⟩=X u->(w.alloc Gy).cell? ⟨g,p,T⟩=X u:=fun {p u} h=>(D.cell (p:=⟨g,p,T⟩) hg).trans h;replace n:=d n;replace a1:=d a1;replace a2:=d a2;replace a3:=d a3;replace a4:=d a4;replace q:=d q;replace b1:=d b1;replace b2:=d b2;replace b3:=d b3;replace b4:=d b4;replace r:=d r;replace d1:=d d1;replace d2:=d d2;replace d3:=d d3;replace d4:=d d4;have A:=Ab (Aex i k l m);have B:=Ab (Av w (CE f));have C:=Ab (Av w (CE j));clear d hc t h0 h1 h2 l m k y;rw[n0]at a1;cases x with
 |false=>
  go_enter func80,ntmps80
  go_wp2_with fail
  exact jN (BQ results80 rfl rfl (Ag.new w #[U V j.op,U V j.num,Q j.text,Y j.an j.nn j.cn,Y j.ka j.kn j.kc] 48)) rfl (by rw[Aa A];exact⟨⟨j,jA,rfl,rfl,fun z s=>by cases s;exact F.below (Aa C) NLN⟩,Aa C⟩)
 |true=>
  go_enter func80,ntmps80
  go_wp2_with fail
  exact jN (BQ results80 rfl rfl (Ag.new w #[U V f.op,U V f.num,Q f.text,Y f.an f.nn f.cn,Y f.ka f.kn f.kc] 48)) rfl (by rw[Aa A];exact⟨⟨f,jA,rfl,rfl,fun z s=>by cases s;exact E.below (Aa B) NLN⟩,Aa B⟩)
def evX:Ev->Option Ex
 |.ok v=>X v.ex
 |.err _=>T
def vC (k:K5):List R:= [U V 0,U V k.num,Q k.text,Y k.an k.nn k.cn]
theorem Aim:(j4.info? 139).map (fun i=>(i.zero,i.size,i.bytes))=X (X (jG #[U V 0,U V 0,Q jU,Y T 0 0]),4,56):=by kernel_rfl
theorem Ew (k:K5)(w:Z):jE j4 82 #[jG #[U V k.op,U V k.num,Q k.text,Y k.an k.nn k.cn,Y k.ka k.kn k.kc]] w fun b w'=>b=jH (jG #[U V 0,U V k.num,Q k.text,Y k.an k.nn k.cn])/\Ah w w':=by
 have a:=(Av w (CE k)).alloc (by simp) (jF #[U V 0,U V k.num,Q k.text,Y k.an k.nn k.cn] 139);go_enter func82,ntmps82
 go_wp2_with fail
 first
 |(go_ret;exact⟨rfl,a⟩)
 |exact jN (v:= jG #[U V 0,U V k.num,Q k.text,Y k.an k.nn k.cn]) (by simp[jR,results82,go_sem]) rfl ⟨rfl,a⟩
theorem Y6 {a:Option jD}{n:Nat}(h:Ap w a n c ss)(f:ZS w a c){F:Nat}{t:jJ}(R:Ag w F cs t)(g:t≠9)(j:Nat)(u:Value):Ap (w.setCell ⟨F,j,T⟩ u) a n c ss:=
 ⟨h.len,h.cap,h.small,h.sizes,fun i hi=>by
  obtain⟨b,k,d,l,hc⟩:=h.cells i hi;obtain⟨p,m⟩:=f.2 _ d;refine⟨b,k,d,by simpa using l,?_⟩;rw[World.cell?_setCell_other _ _ _ _ (fun q=>g (by
   have o:F=b:=congrArg Addr.block q;subst o;have e:=R.out.symm.trans m.out;simp only[Option.some.injEq,Obj.cells.injEq]at e;exact e.2.1))]
  exact hc⟩
theorem Id {v:Vv}{m:K5}(f:Ah w a)(R:Ag a w.heap.size #[U V 0,U V 0,Q ⟨#[]⟩,Y T 0 0,Y T 0 0] 48)(g:Tq a v.ex m):
  Ah w (zW (a.alloc (CE m)) w.heap.size m)/\Ag (zW (a.alloc (CE m)) w.heap.size m) w.heap.size #[U V m.op,U V m.num,Q m.text,Y m.an m.nn m.cn,Y m.ka m.kn m.kc] 48/\Tq (zW (a.alloc (CE m)) w.heap.size m) v.ex m:=by
 have h2:=g.below (Av a (CE m)) NLN;have b:=R.alloc (CE m);have z:=QL m (f.alloc f.size (CE m)) b NLN;refine⟨z.1,z.2,?_⟩;have c:∀(j:Nat) (u:Value) (d:Z) (cs:Array Value),Ag d w.heap.size cs 48->Tq d v.ex m->Tq (d.setCell ⟨w.heap.size,j,T⟩ u) v.ex m:=fun j u d cs i h=>by
  cases v<;>exact⟨h.1,h.2.1,h.2.2.1,h.2.2.2.1,Y6 h.2.2.2.2.1 h.2.2.2.2.2.2 i (by decide) j u,h.2.2.2.2.2.1,h.2.2.2.2.2.2.setCell _ _ _⟩
 have k0:=c 0 (U V m.op) _ _ b h2;have k:=c 1 (U V m.num) _ _ (b.set 0 _) k0;have l:=c 2 (Q m.text) _ _ ((b.set 0 _).set 1 _) k;have n:=c 3 (Y m.an m.nn m.cn) _ _ (((b.set 0 _).set 1 _).set 2 _) l;exact c 4 (Y m.ka m.kn m.kc) _ _ ((((b.set 0 _).set 1 _).set 2 _).set 3 _) n
theorem Y7 (w:Z)(n:Int):Tq w (Vv.ex (.int n)) ⟨1,n,⟨#[]⟩,T,0,0,T,0,0⟩:=
 ⟨rfl,rfl,rfl,rfl,⟨rfl,NLN,zD _,fun j h=>absurd h (by simp),fun j h=>absurd h (by simp)⟩,zD _,fun _=>rfl,fun a e=>by cases e⟩
theorem Ain {text:ByteArray}{a:Option jD}{n:Nat}(h:MVs w t text a n c (.set ss)):Tq w (Vv.ex (.set ss)) ⟨4,0,⟨#[]⟩,a,n,c,T,0,0⟩:=
 ⟨rfl,rfl,rfl,rfl,h.2.2.1,h.2.2.2.1,h.2.2.2.2⟩
theorem QO (op:Int)(a9: 8<=op/\op<=24)(s:List K5)(m:Nat)(hm:s.length=m)(h1: 1<=m)(h2:m<=2){kc:Nat}(ak:BT w ka s)(o:Ev)(al:∀v,o= .ok v->v.ty=if op=8\/op=10\/(11<=op/\op<=15)then 2 else if 16<=op/\op<=18 then 4 else 1)
  (ao:∀x g cap,Ah w x->x.ownsRow w.heap.size 139 4 (Y (X ⟨g,0,T⟩) m cap) m (s.flatMap vC)->jE j4 122 #[U V op,Y (X ⟨g,0,T⟩) m cap] x (VI o x)):
  jE j4 80 #[U V op,Y ka m kc] w (PrA (evX o) w):=by
 obtain⟨g,N,rfl,hg,hc⟩:=Bh ak (by omega);have aa:=Av w Gy;have ab:=Ag.new w #[U V 0,U V 0,Q ⟨#[]⟩,Y T 0 0,Y T 0 0] 48;have ba:(op==25)=jC:=zA.2 (by omega);have bb:(op==26)=jC:=zA.2 (by omega);have bc:(op==27)=jC:=zA.2 (by omega);go_enter func80,ntmps80
 go_wp2_with fail
 have ap:w.heap.size<(w.alloc Gy).heap.size:=by simp
 generalize w.alloc Gy=O at aa ab ap|-;obtain⟨aM,aN,aO,aP,aQ⟩:=info_parts Aim;have aR:=Ab hc;have aq:=Ab ao;have ar:=Ab al;clear hc ao ak al;have au:=Ab hm;clear hm;go_loopw [6,50] (fun v i wr=>∃j:Nat,j<=m/\i=U V j/\wr.ownsRow O.heap.size 139 4 v j ((s.take j).flatMap vC)/\Ah O wr) (fun _ i _=>m-(intOf i).toNat)
 case atStart=>exact⟨0,zD _,rfl,World.ownsRow_nil _ _ _ _,BRN⟩
 case round=>
  obtain⟨j,bd,rfl,B,C⟩:=hrel;have t:=aa.trans (C.mono aa.size);have aS:=C.size;obtain⟨av,aw,rfl,-⟩:=Ae B;by_cases ac:j<m
  ·have bf:(j:Int)<(m:Int):=by omega
   have ad:j<s.length:=by rw[Aa au];exact ac
   obtain⟨ae,a1,a2,a3,a4⟩:=Aa aR j ad;have ax:=Ab (show(s.take (j+1)).flatMap vC=(s.take j).flatMap vC++vC s[j] by rw[zQ ad,yE];simp);generalize s[j]=k at ae a1 a2 a3 a4 ax;replace ae:=(t.cell (p:=⟨g,N+j*5,T⟩) hg).trans ae;replace a1:=(t.cell (p:=⟨g,N+j*5+1,T⟩) hg).trans a1;replace a2:=(t.cell (p:=⟨g,N+j*5+2,T⟩) hg).trans a2;replace a3:=(t.cell (p:=⟨g,N+j*5+3,T⟩) hg).trans a3;replace a4:=(t.cell (p:=⟨g,N+j*5+4,T⟩) hg).trans a4;have ay:=Ab ac;clear ac ad;go_wp2_with fail
   refine(Ew k _).mono ?_;rintro aT az ⟨rfl,af⟩;have ag:=(C.alloc aS (CE k)).trans (af.mono (by simp;omega));have ah:=An (World.ownsRow.alloc B (CE k)) af NLN;have aA:=World.ownsRow.alloc ah (jF #[U V 0,U V k.num,Q k.text,Y k.an k.nn k.cn] 139);have aB:=World.news_of_block (heap_alloc_new az (jF #[U V 0,U V k.num,Q k.text,Y k.an k.nn k.cn] 139));have aU:=ag.size;clear B C af;dsimp only;go_wp2_with (at_builtin;refine wpList_append_lies _ rfl _ _ 185 rfl O.heap.size 139 aM (jG #[U V 0,U V 0,Q jU,Y T 0 0]) 4 56 underlying185 aN aO aP aQ rfl (by decide) (Y av j aw) j _ rfl aA ⟨az.heap.size,0,T⟩ 1 1 (vC k) rfl rfl aB (by intro u aC;simp[vC]at aC;rcases aC with rfl|rfl|rfl|rfl<;>rfl) (by decide) (by unfold maxLen;omega) (by omega) (by simp;omega) _ rfl ?_)
   intro g7 c7 aV aD aE hat aW;have aX:=(ag.alloc aU (jF #[U V 0,U V k.num,Q k.text,Y k.an k.nn k.cn] 139)).grown aE (by simp;omega) (fun q hq=>(ah.lt q hq).1);have aY:=Ab (show aV.ownsRow O.heap.size 139 4 (Y (X ⟨g7,0,T⟩) (j+1) c7) (j+1) ((s.take (j+1)).flatMap vC) by rw[Aa ax];exact aD);clear aD aE hat aW aA aB ah ag;go_wp2_with fail
   go_roundw
   case rel=>exact⟨j+1,Aa ay,by go_num,Aa aY,aX⟩
   case measure=>have:=Aa ay;simp[intOf];omega
  ·have e:j=m:=by omega
   have bg: ¬ ((j:Int)<(m:Int)):=by omega
   obtain⟨P,aZ⟩:∃P,av=X ⟨P,0,T⟩:=by
    rcases B.2 with⟨hv,h0⟩|⟨P,cap,bh,hv,_⟩
    ·omega
    ·simp only[Value.slice.injEq]at hv;exact⟨P,hv.1⟩
   subst aZ;subst e;have ai:=LC B (show w.heap.size<=O.heap.size by omega);rw[zY (by rw[Aa au];exact NLN)]at ai;have aF:=Ab (Aa aq wr P aw t ai);have aG:=ab.below C ap;clear B ai aq;go_wp2_with fail
   refine(Aa aF).mono ?_;rintro aT a0 ⟨⟨S,num,text,l,n,r,rfl,aH⟩,aj⟩;have D:=t.trans (aj.mono t.size);have E:=aG.after aj NLN;clear t C aj aG aF ab aa;dsimp only;cases o with
   |err c=>
    obtain⟨rfl,aI⟩:=aH;have bi:(S !=0)=jA:=zc.2 aI;have a:=Ab (QL zK (D.alloc D.size (jF #[U V S,U V num,Q text,Y l n r] 139)) (E.alloc (jF #[U V S,U V num,Q text,Y l n r] 139)) NLN);obtain⟨F,G,r2,r3,H,-⟩:=Ay (E.alloc (jF #[U V S,U V num,Q text,Y l n r] 139));obtain⟨I,J,K,L,M⟩:=Eu (E.alloc (jF #[U V S,U V num,Q text,Y l n r] 139));clear D E aI;go_wp2_with fail
    exact jN (BQ results80 rfl rfl (Aa a).2) rfl ⟨⟨zK,jC,rfl,rfl,fun z f=>by cases f⟩,(Aa a).1⟩
   |ok v=>
    obtain⟨rfl,hv⟩:=aH;have y:=Aa ar v rfl;have W:=Ab hv;have A:=Ab (hv.below (Av a0 (jF #[U V 0,U V num,Q text,Y l n r] 139)) NLN);have h:=D.alloc D.size (jF #[U V 0,U V num,Q text,Y l n r] 139);have d:=E.alloc (jF #[U V 0,U V num,Q text,Y l n r] 139);clear hv ar D E;by_cases c1:op=8\/op=10\/(11<=op/\op<=15)
    ·rw[if_pos c1]at y;obtain⟨nn,rfl⟩:=Vv.int_of y;obtain⟨⟨bj,-⟩,rfl,rfl,rfl,rfl⟩:=Aa W;subst num;clear W;rcases c1 with rfl|rfl|⟨l1,aJ⟩
     ·skip;have a:=Ab (Id (m:=⟨1,nn,⟨#[]⟩,T,0,0,T,0,0⟩) h d (Y7 _ nn));obtain⟨F,G,r2,r3,H,-⟩:=Ay (d.alloc (jF #[U V 1,U V nn,Q ⟨#[]⟩,Y T 0 0,Y T 0 0] 48));obtain⟨I,J,K,L,M⟩:=Eu (d.alloc (jF #[U V 1,U V nn,Q ⟨#[]⟩,Y T 0 0,Y T 0 0] 48));clear h d A;go_wp2_with fail
      exact jN (BQ results80 rfl rfl (Aa a).2.1) rfl ⟨⟨⟨1,nn,⟨#[]⟩,T,0,0,T,0,0⟩,jA,rfl,rfl,fun z f=>by cases f;exact(Aa a).2.2⟩,(Aa a).1⟩
     ·skip;have a:=Ab (Id (m:=⟨1,nn,⟨#[]⟩,T,0,0,T,0,0⟩) h d (Y7 _ nn));obtain⟨F,G,r2,r3,H,-⟩:=Ay (d.alloc (jF #[U V 1,U V nn,Q ⟨#[]⟩,Y T 0 0,Y T 0 0] 48));obtain⟨I,J,K,L,M⟩:=Eu (d.alloc (jF #[U V 1,U V nn,Q ⟨#[]⟩,Y T 0 0,Y T 0 0] 48));clear h d A;go_wp2_with fail
      exact jN (BQ results80 rfl rfl (Aa a).2.1) rfl ⟨⟨⟨1,nn,⟨#[]⟩,T,0,0,T,0,0⟩,jA,rfl,rfl,fun z f=>by cases f;exact(Aa a).2.2⟩,(Aa a).1⟩
     ·have a5:(op==8)=jC:=zA.2 (by omega);have a6:(op==10)=jC:=zA.2 (by omega);have a:=Ab (Id (m:=⟨1,nn,⟨#[]⟩,T,0,0,T,0,0⟩) h d (Y7 _ nn));obtain⟨F,G,r2,r3,H,-⟩:=Ay (d.alloc (jF #[U V 1,U V nn,Q ⟨#[]⟩,Y T 0 0,Y T 0 0] 48));obtain⟨I,J,K,L,M⟩:=Eu (d.alloc (jF #[U V 1,U V nn,Q ⟨#[]⟩,Y T 0 0,Y T 0 0] 48));clear h d A;go_wp2_with fail
      exact jN (BQ results80 rfl rfl (Aa a).2.1) rfl ⟨⟨⟨1,nn,⟨#[]⟩,T,0,0,T,0,0⟩,jA,rfl,rfl,fun z f=>by cases f;exact(Aa a).2.2⟩,(Aa a).1⟩
    ·rw[if_neg c1]at y;have a5:(op==8)=jC:=zA.2 (by omega);have a6:(op==10)=jC:=zA.2 (by omega);by_cases c2: 16<=op/\op<=18
     ·rw[if_pos c2]at y;obtain⟨ss,rfl⟩:=Vv.set_of y;obtain⟨rfl,rfl,-⟩:=Aa W;have l1: 11<=op:=by omega
      have aJ: ¬ op<=15:=by omega
      obtain⟨a7,a8⟩:=c2;have a:=Ab (Id (m:=⟨4,0,⟨#[]⟩,l,n,r,T,0,0⟩) h d (Ain (Aa A)));obtain⟨F,G,r2,r3,H,-⟩:=Ay (d.alloc (jF #[U V 4,U V 0,Q ⟨#[]⟩,Y l n r,Y T 0 0] 48));obtain⟨I,J,K,L,M⟩:=Eu (d.alloc (jF #[U V 4,U V 0,Q ⟨#[]⟩,Y l n r,Y T 0 0] 48));clear h d A;go_wp2_with fail
      exact jN (BQ results80 rfl rfl (Aa a).2.1) rfl ⟨⟨⟨4,0,⟨#[]⟩,l,n,r,T,0,0⟩,jA,rfl,rfl,fun z f=>by cases f;exact(Aa a).2.2⟩,(Aa a).1⟩
     ·rw[if_neg c2]at y;obtain⟨b,rfl⟩:=Vv.bool_of y;obtain⟨aK,rfl,rfl,rfl,rfl⟩:=Aa W;have aL:=Ab (show ∀x,Tq x (Vv.ex (.bool b)) ⟨3,num,⟨#[]⟩,T,0,0,T,0,0⟩from fun x=>by rw[aK];exact AaU x b);clear W aK;rcases Int.lt_or_le op 11 with l1|l1
      ·have e:op=9:=by omega
       subst e;have a:=Ab (Id (v:= .bool b) (m:=⟨3,num,⟨#[]⟩,T,0,0,T,0,0⟩) h d (Aa aL _));obtain⟨F,G,r2,r3,H,-⟩:=Ay (d.alloc (jF #[U V 3,U V num,Q ⟨#[]⟩,Y T 0 0,Y T 0 0] 48));obtain⟨I,J,K,L,M⟩:=Eu (d.alloc (jF #[U V 3,U V num,Q ⟨#[]⟩,Y T 0 0,Y T 0 0] 48));clear h d A;go_wp2_with fail
       exact jN (BQ results80 rfl rfl (Aa a).2.1) rfl ⟨⟨⟨3,num,⟨#[]⟩,T,0,0,T,0,0⟩,jA,rfl,rfl,fun z f=>by cases f;exact(Aa a).2.2⟩,(Aa a).1⟩
      ·have aJ: ¬ op<=15:=by omega
       have a7: 16<=op:=by omega
       have a8: ¬ op<=18:=by omega
       have a:=Ab (Id (v:= .bool b) (m:=⟨3,num,⟨#[]⟩,T,0,0,T,0,0⟩) h d (Aa aL _));obtain⟨F,G,r2,r3,H,-⟩:=Ay (d.alloc (jF #[U V 3,U V num,Q ⟨#[]⟩,Y T 0 0,Y T 0 0] 48));obtain⟨I,J,K,L,M⟩:=Eu (d.alloc (jF #[U V 3,U V num,Q ⟨#[]⟩,Y T 0 0,Y T 0 0] 48));clear h d A;go_wp2_with fail
       exact jN (BQ results80 rfl rfl (Aa a).2.1) rfl ⟨⟨⟨3,num,⟨#[]⟩,T,0,0,T,0,0⟩,jA,rfl,rfl,fun z f=>by cases f;exact(Aa a).2.2⟩,(Aa a).1⟩
theorem Y8 {v:Vv}(h:Tq w v.ex k)(hi:∀n,v= .int n->Di n):MVx w k.num k.text k.an k.nn k.cn v:=by
 cases v with
 |bool b=>exact⟨⟨h.2.1.trans (by cases b<;>rfl),h.2.2.1⟩,h.2.2.2.2.1,h.2.2.2.2.2⟩
 |int n=>exact⟨⟨⟨h.2.1,hi n rfl⟩,h.2.2.1⟩,h.2.2.2.2.1,h.2.2.2.2.2⟩
 |text s=>exact⟨⟨h.2.1,h.2.2.1⟩,h.2.2.2.2.1,h.2.2.2.2.2⟩
 |set ss=>exact⟨⟨h.2.1,h.2.2.1⟩,h.2.2.2.2.1,h.2.2.2.2.2⟩
theorem AgR (i op:Int){a:Ex}{v:Vv}{kc:Nat}(b:nz (Ba op [v.ty])=X t)(h0:Tq w a k)(c:a.cv=X v)(hi:∀n,v= .int n->Di n)(d:BT w ka [k]):
  jE j4 80 #[U V op,Y ka 1 kc] w (PrA (Ar (.un i op a)) w):=by
 have e:Ar (.un i op a)=evX (GV op v):=by rw[AgQ i op c];cases GV op v<;>rfl
 rw[e];have f:=DV b;refine QO op (by omega) [k] 1 rfl NLN (by decide) d _ (fun u h=>?_) (fun j g cap B O=>?_)
 ·rw[Aal b u h];rcases f with⟨rfl,_,rfl⟩|⟨rfl,_,rfl⟩|⟨rfl,_,rfl⟩<;>simp
 ·exact WU op v t b k.num k.text k.an k.nn k.cn g 0 cap j ((Y8 (On c h0) hi).below B NLN) (O.cellAt 0 (by decide)) (O.cellAt 1 (by decide)) (O.cellAt 2 (by decide)) (O.cellAt 3 (by decide)) (O.lt g rfl).2
theorem AgS (i op:Int){a b:Ex}{v u:Vv}{k0 c:K5}{kc:Nat}(d:nz (Ba op [v.ty,u.ty])=X t)(h0:Tq w a k0)(h1:Tq w b c)(f:a.cv=X v)(h:b.cv=X u)(hi:∀n,v= .int n->Di n)(l:∀n,u= .int n->Di n)(j:BT w ka [k0,c]):
  jE j4 80 #[U V op,Y ka 2 kc] w (PrA (Ar (.bin i op a b)) w):=by
 have r:=CU d;by_cases hc:op=25\/op=26
 ·have k:v.ty=1/\u.ty=1:=by omega
  obtain⟨x,rfl⟩:=Vv.bool_of k.1;obtain⟨y,rfl⟩:=Vv.bool_of k.2;exact Ach op hc i h0 h1 f h j
 ·have m:Jf op v=jC:=by
   cases v with
   |bool x=>cases x<;>simp[Jf]<;>(intro q;omega)
   |_=>rfl
  have e:Ar (.bin i op a b)=evX (Ch op v u):=by
   rw[WS i op f h,if_neg (by rw[m];decide),if_neg hc];cases Ch op v u<;>rfl
  rw[e];refine QO op (by omega) [k0,c] 2 rfl (by decide) NLN j _ (fun z o=>?_) (fun p g cap B O=>?_)
  ·rw[Vt d (by omega) z o];split
   ·omega
   ·split<;>omega
  ·exact WV op v u t d (by omega) k0.num k0.text k0.an k0.nn k0.cn c.num c.text c.an c.nn c.cn g 0 cap p ((Y8 (On f h0) hi).below B NLN) ((Y8 (On h h1) l).below B NLN) (O.cellAt 0 (by decide)) (O.cellAt 1 (by decide)) (O.cellAt 2 (by decide)) (O.cellAt 3 (by decide)) (O.cellAt 4 (by decide)) (O.cellAt 5 (by decide)) (O.cellAt 6 (by decide)) (O.cellAt 7 (by decide)) (O.lt g rfl).2
theorem Ci.snoc {g l:Z}{lo:Nat}{v t k:R}{a:List R}{x:Nd}(h:Ci g lo v N a b)
  (A:g.ownsRow lo 9 1 u x.names.length (x.names.map Q))(B:g.ownsRow lo 3 1 k x.kids.length (Aq x.kids))(C:∀j,(d:j<a.length)->∀q,a[j].ownBlock=X q->u.ownBlock≠X q)(D:∀j,(d:j<b.length)->∀q,b[j].ownBlock=X q->k.ownBlock≠X q)
  (E:l.ownsRow lo 85 5 t (N.length+1) (Og N a b++RQ x u k))(hg:g.grownBy l v.ownBlock):Ci l lo t (N++[x]) (a++[u]) (b++[k]):=by
 have r:=h.len;have s:=h.lenk;have w:∀{n:Nat} {y:R} {m:List R},g.ownsRow lo 9 1 y n m->l.ownsRow lo 9 1 y n m:=fun o=>Af o (fun q hq=>hg.block q (o.lt q hq).2 (fun e=>Ai o h.own (by decide) q hq e.symm));have z:∀{n:Nat} {y:R} {m:List R},g.ownsRow lo 3 1 y n m->l.ownsRow lo 3 1 y n m:=fun o=>Af o (fun q hq=>hg.block q (o.lt q hq).2 (fun e=>Ai o h.own (by decide) q hq e.symm));refine⟨by simp[r],by simp[s],by rw[zC,yF,Wk _ _ _ _ _ _ r s];exact E,fun j d p=>?_,fun j d p=>?_,fun i j f d q hq=>?_,fun i j f d q hq=>?_⟩
 ·by_cases c:j<a.length
  ·have a1:(a++[u])[j]=a[j]:=zo c;have a2:(N++[x])[j]=N[j]'(by omega):=zo (by omega);rw[a1,a2];exact w (h.names j (by omega) c)
  ·have e:j=a.length:=by simp at p;omega
   subst e;have a1:(a++[u])[a.length]'p=u:=by simp
   have a2:(N++[x])[a.length]'d=x:=by simp[r]
   rw[a1,a2];exact w A
 ·by_cases c:j<b.length
  ·have a1:(b++[k])[j]=b[j]:=zo c;have a2:(N++[x])[j]=N[j]'(by omega):=zo (by omega);rw[a1,a2];exact z (h.kids j (by omega) c)
  ·have e:j=b.length:=by simp at p;omega
   subst e;have a1:(b++[k])[b.length]'p=k:=by simp
   have a2:(N++[x])[b.length]'d=x:=by simp[s]
   rw[a1,a2];exact z B
 ·by_cases c:j<a.length
  ·rw[zo c];rw[zo (by omega)]at hq;exact h.apart i j f c q hq
  ·have e:j=a.length:=by simp at d;omega
   subst e;rw[zo f]at hq;simp;exact C i f q hq
 ·by_cases c:j<b.length
  ·rw[zo c];rw[zo (by omega)]at hq;exact h.apartk i j f c q hq
  ·have e:j=b.length:=by simp at d;omega
   subst e;rw[zo f]at hq;simp;exact D i f q hq
structure OV (w:Z) (B nb:Nat) (N:List Nd) (P:List Int) (nd pl:R) (nv kv:List R):Prop where
 row:Ag w nb #[nd,pl] 227
 nodes:Ci w B nd N nv kv
 places:w.ownsRow B 3 1 pl P.length (Aq P)
 apart:∀q,pl.ownBlock=X q->∀j,(hj:j<kv.length)->kv[j].ownBlock≠X q
 low:B<=nb
structure Nk (B nb:Nat) (nd pl:R) (w:Z) (nd' pl':R) (w':Z):Prop where
 low:Below B w w'
 block:∀k,k<w.heap.size->k≠nb->nd.ownBlock≠X k->pl.ownBlock≠X k->w'.heap[k]? =w.heap[k]?
 newN:∀q,nd'.ownBlock=X q->nd.ownBlock=X q\/w.heap.size<=q
 newP:∀q,pl'.ownBlock=X q->pl.ownBlock=X q\/w.heap.size<=q
theorem Nk.refl (B a:Nat)(nd pl:R)(w:Z):Nk B a nd pl w nd pl w:=⟨BRN,fun _ _ _ _ _=>rfl,fun q h=> .inl h,fun q h=> .inl h⟩
theorem Nk.trans {B a:Nat}{nd pl b c d f:R}{w g i:Z}(h:Nk B a nd pl w b c g)(k:Nk B a b c g d f i):Nk B a nd pl w d f i:=by
 have j:=h.low.size;refine⟨h.low.trans k.low,fun q h1 h2 h3 h4=>?_,fun q hq=>?_,fun q hq=>?_⟩
 ·refine(k.block q (zE h1 j) h2 (fun e=>?_) (fun e=>?_)).trans (h.block q h1 h2 h3 h4)
  ·rcases h.newN q e with e|e
   ·exact h3 e
   ·omega
  ·rcases h.newP q e with e|e
   ·exact h4 e
   ·omega
 ·rcases k.newN q hq with e|e
  ·exact h.newN q e
  ·exact .inr (by omega)
 ·rcases k.newP q hq with e|e
  ·exact h.newP q e
  ·exact .inr (by omega)
theorem Nk.of_all {a:Nat}{w':Z}(h:Ah w w')(hB:B<=w.heap.size):Nk B a nd pl w nd pl w':=
 ⟨h.mono hB,fun k h1 _ _ _=>h.block k h1,fun q hq=> .inl hq,fun q hq=> .inl hq⟩
theorem OV.below {w':Z}{b:Nat}{c d:List R}(h:OV w B b N P nd pl c d)(a:Ah w w'):OV w' B b N P nd pl c d:=
 ⟨h.row.after a NLN,h.nodes.blocks (fun k _ f=>a.block k f),Af h.places (fun q hq=>a.block q (h.places.lt q hq).2),h.apart,h.low⟩
theorem Nk.row {B a:Nat}{nd pl c d:Value}{w w':Z}{N:List Nd}{P:List Int}{f i:List Value}(h:Nk B a nd pl w c d w')(C:OV w B a N P nd pl f i){g:Nat}{cs:Array Value}{t:jJ}(R:Ag w g cs t)(h1:t≠227)(h2:t≠85)(h3:t≠3):Ag w' g cs t:=
 ⟨(h.block g R.lt (fun e=>by
  have b:=R.out;have r2:=C.row.out;rw[e]at b;rw[b]at r2;injection r2 with r2;injection r2 with _ r2;exact h1 r2) (Ac R C.nodes.own h2) (Ac R C.places h3)).trans R.out⟩
structure Kn (B nb:Nat) (g:Option jD) (w:Z) (nd pl:R) (N:List Nd) (P:List Int) (nd1 pl1:R) (nv kv:List R) (kw:R) (ks:List Int) (vs:List R) (w2:Z):Prop where
 C:OV w2 B nb N P nd1 pl1 nv kv
 K:Nk B nb nd pl w nd1 pl1 w2
 Rr:KdR w.heap.size w2 g vs
 O:w2.ownsRow w.heap.size 3 1 kw ks.length (Aq ks)
 ap:∀q,kw.ownBlock=X q->pl1.ownBlock≠X q/\∀j,(hj:j<kv.length)->kv[j].ownBlock≠X q
theorem Kn.call {a:Nat}{g:Option jD}{i b:Z}{o p k l m:R}{M:List Nd}{n c d:List R}{ks:List Int}{t:List R}(h:Kn B a g w nd pl N P o p n c m ks t i)(x:OV b B a (N++M) (P++r) k l (n++s) (c++d))(f:Nk B a o p i k l b)(y:∀j,(u:j<d.length)->∀q,d[j].ownBlock=X q->i.heap.size<=q):
  Kn B a g w nd pl (N++M) (P++r) k l (n++s) (c++d) m ks t b:=by
 have z:b.ownsRow w.heap.size 3 1 m ks.length (Aq ks):=Af h.O (fun q hq=>f.block q (h.O.lt q hq).2 (fun e=>Ac h.C.row h.O (by decide) (by rw[hq,e])) (fun e=>Ai h.O h.C.nodes.own (by decide) q hq e) (h.ap q hq).1);refine⟨x,h.K.trans f,h.Rr.keep fun g cs _ A=>f.row h.C A (by decide) (by decide) (by decide),z,fun q hq=>⟨fun e=>?_,fun j u e=>?_⟩⟩
 ·rcases f.newP q e with e|e
  ·exact(h.ap q hq).1 e
  ·have:=(h.O.lt q hq).2;omega
 ·by_cases v:j<c.length
  ·rw[zo v]at e;exact(h.ap q hq).2 j v e
  ·rw[yH (by omega)]at e;have:=y _ (by simp at u;omega) q e;have:=(h.O.lt q hq).2;omega
theorem Kn.app {i:Nat}{g:Option jD}{b k:Z}{m n f:R}{r:List R}{ks:List Int}{a:Int}{cap:Nat}(h:Kn B i g w nd pl N P m n p r f ks s b)(hB:B<=w.heap.size)
  (v:k.ownsRow w.heap.size 3 1 (Y (X ⟨g7,0,T⟩) (ks.length+1) cap) (ks.length+1) (Aq ks++[U V a]))(hg:(b.alloc o).grownBy k f.ownBlock)(hat:f.ownBlock=X g7\/g7=b.heap.size+1):
  Kn B i g w nd pl N P m n p r (Y (X ⟨g7,0,T⟩) (ks.length+1) cap) (ks++[a]) s k:=by
 have t:=h.K.low.size;have u:(b.alloc o).heap.size=b.heap.size+1:=by simp
 have d:∀q,q<b.heap.size->f.ownBlock≠X q->k.heap[q]? =b.heap[q]? :=fun q h1 h2=>(hg.block q (by rw[u];omega) (fun e=>h2 e.symm)).trans (Below.heap_alloc b o q h1);have C:=h.C;have n1:f.ownBlock≠X i:=Ac C.row h.O (by decide);refine⟨⟨⟨(d i C.row.lt n1).trans C.row.out⟩,?_,?_,C.apart,C.low⟩,⟨?_,fun q h1 h2 h3 h4=>?_,h.K.newN,h.K.newP⟩,h.Rr.keep fun g cs _ l=>⟨(d g l.lt (Ac l h.O (by decide))).trans l.out⟩,by rw[zC];simpa[Aq]using v,fun q hq=>?_⟩
 ·exact C.nodes.upto (fun q hq=>d q (C.nodes.lts.1 q hq).2 (fun e=>Ai h.O C.nodes.own (by decide) q e hq)) (fun j c q hq=>d q (C.nodes.lts.2.1 j c q hq).2 (fun e=>Ai h.O (C.nodes.names j (by rw[<-C.nodes.len];exact c) c) (by decide) q e hq)) (fun j c q hq=>d q (C.nodes.lts.2.2 j c q hq).2 (fun e=>(h.ap q e).2 j c hq))
 ·exact Af C.places (fun q hq=>d q (C.places.lt q hq).2 (fun e=>(h.ap q e).1 hq))
 ·exact(h.K.low.alloc (zB hB t) o).grown hg (by rw[u];omega) (fun q hq=>by have:=(h.O.lt q hq).1;omega)
 ·have x:=zE h1 t;refine(d q x (fun e=>by have:=(h.O.lt q e).1;omega)).trans (h.K.block q h1 h2 h3 h4)
 ·have e:g7=q:=by simpa[ja]using hq
  subst e;rcases hat with e|e
  ·exact h.ap g7 e
  ·refine⟨fun e'=>?_,fun j c e'=>?_⟩
   ·have:=(C.places.lt g7 e').2;omega
   ·have:=(C.nodes.lts.2.2 j c g7 e').2;omega
theorem Cv {a b:Z}{row:Option Nat}(hg:(a.alloc o).grownBy b row):∀q,q<a.heap.size->row≠X q->b.heap[q]? =a.heap[q]? :=fun q h1 h2=>(hg.block q (by simp;omega) (fun e=>h2 e.symm)).trans (Below.heap_alloc a o q h1)
theorem OV.pushN {b c:Z}{a:Nat}{k:R}{h f:List R}{x:Nd}(C:OV b B a N P nd pl h f)(o:Obj)(hB:B<=b.heap.size)(m:b.ownsRow B 9 1 u x.names.length (x.names.map Q))(n:b.ownsRow B 3 1 k x.kids.length (Aq x.kids))
  (t:∀j,(d:j<h.length)->∀q,h[j].ownBlock=X q->u.ownBlock≠X q)(v:∀j,(d:j<f.length)->∀q,f[j].ownBlock=X q->k.ownBlock≠X q)(w:∀q,k.ownBlock=X q->pl.ownBlock≠X q)
  (hg:(b.alloc o).grownBy c nd.ownBlock)(y:c.ownsRow B 85 5 (Y (X ⟨g7,0,T⟩) (N.length+1) c7) (N.length+1) (Og N h f++RQ x u k))(hat:nd.ownBlock=X g7\/g7=b.heap.size+1):
  OV (c.setCell ⟨a,0,T⟩ (Y (X ⟨g7,0,T⟩) (N.length+1) c7)) B a (N++[x]) P (Y (X ⟨g7,0,T⟩) (N.length+1) c7) pl (h++[u]) (f++[k])/\Nk B a nd pl b (Y (X ⟨g7,0,T⟩) (N.length+1) c7) pl (c.setCell ⟨a,0,T⟩ (Y (X ⟨g7,0,T⟩) (N.length+1) c7)):=by
 have l:=Av b o;have z:=C.below l;have A:=Af (w':=b.alloc o) m (fun q hq=>l.block q (m.lt q hq).2);have D:=Af (w':=b.alloc o) n (fun q hq=>l.block q (n.lt q hq).2);have n1:nd.ownBlock≠X a:=Ac C.row C.nodes.own (by decide);have i:Ag c a #[nd,pl] 227:=⟨(Cv hg a C.row.lt n1).trans C.row.out⟩
 have g:=z.nodes.snoc A D t v y hg;have r:c.ownsRow B 3 1 pl P.length (Aq P):=Af C.places (fun q hq=>Cv hg q (C.places.lt q hq).2 (fun e=>Ai C.places C.nodes.own (by decide) q hq e));have sc:∀q,q≠a->(c.setCell ⟨a,0,T⟩ (Y (X ⟨g7,0,T⟩) (N.length+1) c7)).heap[q]? =c.heap[q]? :=fun q hq=>jc c ⟨a,0,T⟩ q _ hq;refine⟨⟨i.set 0 _,g.upto (fun q hq=>sc q (fun e=>Ac i g.own (by decide) (by rw[hq,e]))) (fun j d q hq=>sc q (fun e=>Ac i (g.names j (by rw[<-g.len];exact d) d) (by decide) (by rw[hq,e]))) (fun j d q hq=>sc q (fun e=>Ac i (g.kids j (by rw[<-g.lenk];exact d) d) (by decide) (by rw[hq,e]))),Af r (fun q hq=>sc q (fun e=>Ac i r (by decide) (by rw[hq,e]))),fun q hq j d e=>?_,C.low⟩,⟨?_,fun q h1 h2 h3 h4=>(sc q h2).trans (Cv hg q h1 h3),fun q hq=>?_,fun q hq=> .inl hq⟩⟩
 ·by_cases s:j<f.length
  ·rw[zo s]at e;exact C.apart q hq j s e
  ·have E:j=f.length:=by simp at d;omega
   subst E;simp at e;exact w q e hq
 ·exact((l.mono hB).grown hg (by simp;omega) (fun q hq=>(C.nodes.lts.1 q hq).1)).setCell (p:=⟨a,0,T⟩) C.low _
 ·have e:g7=q:=by simpa[ja]using hq
  subst e;exact hat.imp id (fun e=>by omega)
theorem OV.pushP {f d:Z}{i k:List R}(C:OV f B c N P nd pl i k)(o:Obj)(a:Int)(hB:B<=f.heap.size)
  (hg:(f.alloc o).grownBy d pl.ownBlock)(l:d.ownsRow B 3 1 (Y (X ⟨g7,0,T⟩) (P.length+1) c7) (P.length+1) (Aq P++[U V a]))(hat:pl.ownBlock=X g7\/g7=f.heap.size+1):
  OV (d.setCell ⟨c,1,T⟩ (Y (X ⟨g7,0,T⟩) (P.length+1) c7)) B c N (P++[a]) nd (Y (X ⟨g7,0,T⟩) (P.length+1) c7) i k/\Nk B c nd pl f nd (Y (X ⟨g7,0,T⟩) (P.length+1) c7) (d.setCell ⟨c,1,T⟩ (Y (X ⟨g7,0,T⟩) (P.length+1) c7)):=by
 have m:=Av f o;have n1:pl.ownBlock≠X c:=Ac C.row C.places (by decide);have h:Ag d c #[nd,pl] 227:=⟨(Cv hg c C.row.lt n1).trans C.row.out⟩
 have sc:∀q,q≠c->(d.setCell ⟨c,1,T⟩ (Y (X ⟨g7,0,T⟩) (P.length+1) c7)).heap[q]? =d.heap[q]? :=fun q hq=>jc d ⟨c,1,T⟩ q _ hq;have g:Ci d B nd N i k:=C.nodes.upto (fun q hq=>Cv hg q (C.nodes.lts.1 q hq).2 (fun e=>Ai C.places C.nodes.own (by decide) q e hq)) (fun j b q hq=>Cv hg q (C.nodes.lts.2.1 j b q hq).2 (fun e=>Ai C.places (C.nodes.names j (by rw[<-C.nodes.len];exact b) b) (by decide) q e hq)) (fun j b q hq=>Cv hg q (C.nodes.lts.2.2 j b q hq).2 (fun e=>C.apart q e j b hq));refine⟨⟨h.set 1 _,g.upto (fun q hq=>sc q (fun e=>Ac h g.own (by decide) (by rw[hq,e]))) (fun j b q hq=>sc q (fun e=>Ac h (g.names j (by rw[<-g.len];exact b) b) (by decide) (by rw[hq,e]))) (fun j b q hq=>sc q (fun e=>Ac h (g.kids j (by rw[<-g.lenk];exact b) b) (by decide) (by rw[hq,e]))),?_,fun q hq j b e=>?_,C.low⟩,⟨?_,fun q h1 h2 h3 h4=>(sc q h2).trans (Cv hg q h1 h4),fun q hq=> .inl hq,fun q hq=>?_⟩⟩
 ·have:=Af (w':=d.setCell ⟨c,1,T⟩ (Y (X ⟨g7,0,T⟩) (P.length+1) c7)) l (fun q hq=>sc q (fun e=>Ac h l (by decide) (by rw[hq,e])));simpa[Aq]using this
 ·have n:g7=q:=by simpa[ja]using hq
  subst n;rcases hat with h1|h1
  ·exact C.apart g7 h1 j b e
  ·have:=(C.nodes.lts.2.2 j b g7 e).2;omega
 ·exact((m.mono hB).grown hg (by simp;omega) (fun q hq=>(C.places.lt q hq).1)).setCell (p:=⟨c,1,T⟩) C.low _
 ·have e:g7=q:=by simpa[ja]using hq
  subst e;exact hat.imp id (fun e=>by omega)
def DC:Ex->Nat->List Nd
 |.un i op k,b=>DC k b++[⟨op,0,⟨#[]⟩,[],[((b+k.cnt-1 :Nat):Int)]⟩]
 |.bin i op l r,b=>DC l b++DC r (b+l.cnt)++[⟨op,0,⟨#[]⟩,[],[((b+l.cnt-1 :Nat):Int),((b+l.cnt+r.cnt-1 :Nat):Int)]⟩]
 |.ite i c t e,b=>DC c b++DC t (b+c.cnt)++DC e (b+c.cnt+t.cnt)++[⟨27,0,⟨#[]⟩,[],[((b+c.cnt-1 :Nat):Int),((b+c.cnt+t.cnt-1 :Nat):Int),((b+c.cnt+t.cnt+e.cnt-1 :Nat):Int)]⟩]
 |e,_=> [CV e]
def YT:Ex->List Int
 |.int i _=> [i]| .text i _=> [i]| .bool i _=> [i]| .set i .. => [i]| .name i _=> [i]| .attr i _=> [i]| .lett i _=> [i]
 |.un i _ k=>YT k++[i]
 |.bin i _ l r=>YT l++YT r++[i]
 |.ite i c t e=>YT c++YT t++YT e++[i]
theorem AdT:(j4.info? 85).map (fun i=>(i.zero,i.size,i.bytes))=X (X (jG #[U V 0,U V 0,Q jU,Y T 0 0,Y T 0 0]),5,80):=by kernel_rfl
theorem AdU:(j4.info? 3).map (fun i=>(i.zero,i.size,i.bytes))=X (X (U V 0),1,8):=by kernel_rfl
theorem L5 (w:Z):Ah w w.drew:=⟨rfl,rfl,rfl,NLN,fun _ _=>rfl⟩
def AdO (B nb:Nat) (N:List Nd) (P:List Int) (nd pl:R) (nv kv:List R) (M:List Nd) (Q:List Int) (w:Z) (r:jT) (w':Z):Prop:=
 r=jH (U V ((N.length+M.length-1 :Nat):Int))/\∃nd' pl' nv' kv',OV w' B nb (N++M) (P++Q) nd' pl' (nv++nv') (kv++kv')/\Nk B nb nd pl w nd' pl' w'/\∀j,(hj:j<kv'.length)->∀q,kv'[j].ownBlock=X q->w.heap.size<=q
def AdV (B nb:Nat) (w0:Z) (v:R) (fl:Nat->List Nd) (Q:List Int) (n:Nat):Prop:=
 ∀(N:List Nd) (P:List Int) (nd pl:R) (nv kv:List R) (w:Z),Below B w0 w->OV w B nb N P nd pl nv kv->N.length+n<=65535->P.length+n<=65535->jE j4 148 #[.pointer (X ⟨nb,0,T⟩),v] w (AdO B nb N P nd pl nv kv (fl N.length) Q w)
structure Kc where
 v:R
 f:Nat->List Nd
 Qq:List Int
 n:Nat
def kcN:List Kc->Nat->List Nd
 |[],_=> []
 |k ::K,b=>k.f b++kcN K (b+k.n)
def kcI:List Kc->Nat->List Int
 |[],_=> []
 |k ::K,b=>((b+k.n-1 :Nat):Int) ::kcI K (b+k.n)
def kcP:List Kc->List Int
 |[]=> []
 |k ::K=>k.Qq++kcP K
def Tp:List Kc->Nat
 |[]=>0
 |k ::K=>k.n+Tp K
theorem AaB (x:Kc):∀(K:List Kc) (b:Nat),kcN (K++[x]) b=kcN K b++x.f (b+Tp K)/\kcI (K++[x]) b=kcI K b++[((b+Tp K+x.n-1 :Nat):Int)]/\kcP (K++[x])=kcP K++x.Qq/\Tp (K++[x])=Tp K+x.n
 |[],b=>by simp[kcN,kcI,kcP,Tp]
 |k ::K,b=>by
  obtain⟨h1,h2,h3,h4⟩:=AaB x K (b+k.n);simp only[List.cons_append,kcN,kcI,kcP,Tp,h1,h2,h3,h4,zT,Z4,and_self]
def Kc.ok (B nb:Nat) (w0:Z) (k:Kc):Prop:=(∃t u,k.v= .iface t u)/\AdV B nb w0 k.v k.f k.Qq k.n/\(∀b,(k.f b).length=k.n)/\k.Qq.length=k.n
theorem YU {B a:Nat}{w0:Z} :∀(K:List Kc) (b:Nat),(∀k∈K,k.ok B a w0)->(kcN K b).length=Tp K/\(kcP K).length=Tp K/\(kcI K b).length=K.length
 |[],b,_=>⟨rfl,rfl,rfl⟩
 |k ::K,b,h=>by
  obtain⟨h1,h2,h3⟩:=YU K (b+k.n) fun x hx=>h x (zf _ hx);obtain⟨_,_,l1,c⟩:=h k za;simp[kcN,kcI,kcP,Tp,h1,h2,h3,l1,c]
theorem Ago {K:List Kc} :∀(k:Nat),Tp (K.take k)<=Tp K:=by
 induction K with
 |nil=>intro k;simp[Tp]
 |cons x K a=>intro k;cases k with|zero=>simp[Tp]|succ k=>have:=a k;simp[Tp];omega
theorem H8 {lo:Nat}{a:List R}(d:∀j,(c:j<a.length)->∀q,a[j].ownBlock=X q->lo<=q)(f:∀j,(c:j<b.length)->∀q,b[j].ownBlock=X q->lo<=q):∀j,(c:j<(a++b).length)->∀q,(a++b)[j].ownBlock=X q->lo<=q:=fun j c q hq=>by
 by_cases h:j<a.length
 ·rw[zo h]at hq;exact d j h q hq
 ·rw[yH (by omega)]at hq;exact f _ (by simp at c;omega) q hq
theorem Qg {lo:Nat}{v:R}(h:∀q,v.ownBlock=X q->lo<=q):∀j,(a:j<[v].length)->∀q,[v][j].ownBlock=X q->lo<=q:=fun j a q hq=>by
 have b:j=0:=by simp at a;exact a
 subst b;exact h q hq
theorem Nb {lo hi:Nat}{a:List R}(c:∀j,(b:j<a.length)->∀q,a[j].ownBlock=X q->hi<=q)(h:lo<=hi):∀j,(b:j<a.length)->∀q,a[j].ownBlock=X q->lo<=q:=fun j b q hq=>zB h (c j b q hq)
end Go.Proofs.YteiieikcjcfkkaaGreatDoor
