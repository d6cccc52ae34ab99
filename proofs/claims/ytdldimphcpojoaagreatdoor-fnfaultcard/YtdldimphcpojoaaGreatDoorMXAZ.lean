/-
  QT, KTO, GY, HA, HB, HC. Own work.
-/
import Derived.Test.YtdldimphcpojoaaGreatDoorMXAQ
import Derived.Test.YtdldimphcpojoaaGreatDoorMXAT
import Derived.Test.YtdldimphcpojoaaGreatDoorMXAF
import Derived.Test.YtdldimphcpojoaaGreatDoorGX
import Derived.Test.YtdldimphcpojoaaGreatDoorMXAS
import Derived.Test.YtdldimphcpojoaaGreatDoorMXAW
import Derived.Test.YtdldimphcpojoaaGreatDoorMXAP
namespace Go.Proofs.YtdldimphcpojoaaGreatDoor
set_option maxRecDepth 100000
set_option maxHeartbeats 1600000
open Go.RowKit
set_option linter.unusedVariables false
theorem Q9 (a b:Option Addr)(n c m d:Nat)(N:List Nd)(L:List St)(w:World)(h1:Hj w a n c N)(h2:VE w b m d L)(aJ:∀ x∈N,x.num≤9223372036854775807):
  Calls Tryz.prog 20 #[.agg #[.slice a n c,.slice b m d]] w fun r w'=>(∃ s,r= .returned (.string s)∧Mq N L s)∧Below w.heap.size w w':=by
 have bg:=Ab h1.len;have ai:=Ab h2.len;have aU:=Ab aJ;have aK:=An.new w #[.slice a n c,.slice b m d] 27;have V:=(Below.refl w.heap.size w).alloc NLN (.cells #[.slice a n c,.slice b m d] 27);have aj:=h1.below V NLN;have ak:=h2.below V NLN;clear h1 h2 aJ;go_enter Tryz.func20,Tryz.ntmps20
 go_wp2_with fail
 refine (Jm _ _ _ _ _ _ N L _ aj ak).mono ?_;rintro r R ⟨rfl,W⟩;have al:=V.trans (W.mono V.size);have aL:=aj.below W NLN;have aV:=ak.below W NLN;have ao:=aK.after W NLN;clear aj ak aK V W;have aW:=al.size;have bh:w.heap.size < R.heap.size:=ao.lt;obtain ⟨aX,aY⟩:=Ri ao;dsimp only;cases X:GI N L with
 | false=>
  have ap:=Ab X;clear X;go_wp2_with fail
  go_ret
  exact ⟨⟨_,rfl,.inl ⟨Aa ap,rfl⟩⟩,al⟩
 | true=>
  have ap:=Ab X;have Y:=Ab (Pb X);clear X;obtain ⟨Es,hl,ae,aq⟩:=Pc aL (Aa Y).fields (Aa aU) (Aa Y).kids;have H:=Ab (Ss (Aa Y) hl ae aq);have B:=Ab (fun (k:Nat) (e:Ex) (he:Es[k]? =some e) (hc:e.cnt≤4000)=>show Fv R a n c k e.put by
   obtain ⟨ar,q2⟩:=List.getElem?_eq_some_iff.1 he;exact DL R a n c N aL e k (q2 ▸ ae k ar) (aq e (List.mem_of_getElem? he)) hc)
  have S:=Ab ae;have aZ:=Ab hl;have aM:=Ab (show 1≤m∧m≤600 by rw[← Aa ai];exact ⟨(Aa Y).m0,(Aa Y).m⟩);have bi:m≤600:=(Aa aM).2;clear hl ae aq;go_wp2_with fail
  go_loopw [3,12] (fun v i wr=>∃ k:Nat,k≤m∧v= .string (J7 Es (L.take k))∧i= .int .i64 k∧Below R.heap.size R wr) (fun _ i _=>m - (intOf i).toNat)
  case atStart=>exact ⟨0,by omega,rfl,rfl,BRN⟩
  case round=>
   obtain ⟨k,hk,rfl,rfl,o⟩:=hrel;by_cases au:k < m
   ·have bj:(k:Int) < (m:Int):=by omega
    have af:k < L.length:=by rw[Aa ai];exact au
    obtain ⟨b1,bk,rfl,bl,T,c1,c2,c3⟩:=(aV.below o NLN).cells k af;have q:=Ab (VH Es L k af);have I:=Ab (Aa H L[k] (List.getElem_mem af));have J:=Ab (show (J7 Es (L.take k)).size≤30000000000 by
     have h1:=Lc (w:=R) (Es:=Es) (L:=L.take k) (fun s hs=>Aa H s (List.mem_of_mem_take hs));have h2:=Aa aM;rw[List.length_take] at h1;omega)
    have bm:=o.size;have C:=Ab au;generalize L[k]=s at T c1 c2 c3 q I;generalize J7 Es (L.take k)=acc at q J ⊢;have E:=ao.after o NLN;clear af au aX aY;have Z:(⟨#[108,101,116,32]⟩:ByteArray).size=4:=rfl;have ag:(⟨#[32,61,32]⟩:ByteArray).size=3:=rfl;have aN:(⟨#[119,104,101,110,32]⟩:ByteArray).size=5:=rfl;have aO:(⟨#[32,61,62,32]⟩:ByteArray).size=4:=rfl;have bn:(⟨#[101,108,115,101,32]⟩:ByteArray).size=5:=rfl;have bo:(⟨#[59,10]⟩:ByteArray).size=2:=rfl;have bp:(⟨#[103,114,97,110,116,32]⟩:ByteArray).size=6:=rfl;have bq:(⟨#[100,101,110,121]⟩:ByteArray).size=4:=rfl;have br:w.heap.size < wr.heap.size:=by omega
    have bs:=Aa J;rcases Aa I with ⟨l,U,⟨j,e,hm,g1,g2,g3⟩,aP⟩ | ⟨l,⟨j,e,hm,g1,g2,g3⟩,av⟩ | ⟨l,U,av⟩
    ·have h:=Ab (show J7 Es (L.take (k+1))=acc ++(⟨#[108,101,116,32]⟩ ++s.name ++⟨#[32,61,32]⟩ ++e.pr) ++⟨#[59,10]⟩ by rw[Aa q,Re,if_pos l,hm,GU g1];simp only[ByteArray.append_assoc]);rw[l] at T;rw[hm] at c2;rw[aP] at c3;have z:=Ab (Aa B j e g1 g3 0);simp only[Ds] at z;have aa:e.pr.size≤16000000:=by have:=e.pr_size g2;omega
     generalize s.name=nm at c1 U h;generalize e.pr=t at z aa h;have g:=o.alloc o.size (.cells #[.int .i64 1,.string nm,.int .i64 j,.int .i64 (-1)] 49);have p:=An.new wr #[.int .i64 1,.string nm,.int .i64 j,.int .i64 (-1)] 49;have y:=E.alloc (.cells #[.int .i64 1,.string nm,.int .i64 j,.int .i64 (-1)] 49);clear E;clear I q l hm aP g1 g2 g3 J B H S;have a0:∃ K,K=wr.alloc (.cells #[.int .i64 1,.string nm,.int .i64 j,.int .i64 (-1)] 49):=⟨_,rfl⟩
     go_wp2_with fail
     obtain ⟨K,aQ⟩:=a0;rw[← aQ] at g p y ⊢;clear aQ;have ah:Below K.heap.size K K.drew:=BRN.drew;have a1:=Ab (g.trans (ah.mono g.size));have aw:∀ w',Below K.heap.size K w'→w'.cell? ⟨wr.heap.size,1,none⟩=some (.string nm)∧w'.cell? ⟨wr.heap.size,2,none⟩=some (.int .i64 j)∧w'.cell? ⟨w.heap.size,0,none⟩=some (.slice a n c):=fun w' ax=>⟨(p.after ax NLN).cell 1,(p.after ax NLN).cell 2,(y.after ax NLN).cell 0⟩
     have aR:=Ab aw;have ar:=aw _ ah;have a2:=Cb (a:=⟨#[108,101,116,32]⟩) (b:=nm) (by rw[Z];omega);have a3:=Cb (a:=⟨#[108,101,116,32]⟩ ++nm) (b:=⟨#[32,61,32]⟩) (by simp only[ByteArray.size_append,Z,ag];omega);have a4:=Cb (a:=⟨#[108,101,116,32]⟩ ++nm ++⟨#[32,61,32]⟩) (b:=t) (by simp only[ByteArray.size_append,Z,ag];omega);have a5:=Cb (a:=acc) (b:=⟨#[108,101,116,32]⟩ ++nm ++⟨#[32,61,32]⟩ ++t) (by simp only[ByteArray.size_append,Z,ag];omega);clear aw;go_region_held3 (fun w'=>w'.cell? ⟨wr.heap.size,1,none⟩=some (.string nm)∧w'.cell? ⟨wr.heap.size,2,none⟩=some (.int .i64 j)∧w'.cell? ⟨w.heap.size,0,none⟩=some (.slice a n c)) (first | assumption | go_keep)
      (first | (go_at_call 45;refine (Aa z _ (Aa a1)).mono ?_;rintro r aS ⟨rfl,F⟩;have ay:=ah.trans (F.mono ah.size);have q2:=Aa aR _ ay))
     have M:=g.trans (ay.mono g.size);have ab:=p.after ay NLN;obtain ⟨bt,d1,d2,d3⟩:=Ld ab;clear a2 a3 a4 a5 ar q2 aR;have aT:(acc ++(⟨#[108,101,116,32]⟩ ++nm ++⟨#[32,61,32]⟩ ++t)).size≤40000000000:=by simp only[ByteArray.size_append,Z,ag];omega
     go_wp2_with fail
     go_roundw
     case rel=>exact ⟨k+1,Aa C,by rw[Aa h],by go_num,M⟩
     case measure=>have:=Aa C;simp[intOf];omega
    ·rcases av with k5 | k5
     ·have h:=Ab (show J7 Es (L.take (k+1))=acc ++(⟨#[119,104,101,110,32]⟩ ++e.pr ++⟨#[32,61,62,32]⟩) ++⟨#[100,101,110,121]⟩ ++⟨#[59,10]⟩ by rw[Aa q,Re,if_neg (by omega),if_pos l,hm,GU g1,WY,if_pos k5];simp only[ByteArray.append_assoc]);rw[l] at T;rw[hm] at c2;rw[k5] at c3;have z:=Ab (Aa B j e g1 g3 0);simp only[Ds] at z;have aa:e.pr.size≤16000000:=by have:=e.pr_size g2;omega
      generalize s.name=nm at c1;generalize e.pr=t at z aa h;have g:=o.alloc o.size (.cells #[.int .i64 2,.string nm,.int .i64 j,.int .i64 (-1)] 49);have p:=An.new wr #[.int .i64 2,.string nm,.int .i64 j,.int .i64 (-1)] 49;have y:=E.alloc (.cells #[.int .i64 2,.string nm,.int .i64 j,.int .i64 (-1)] 49);clear E;obtain ⟨az,aA,aB,aC⟩:=Ld p;obtain ⟨aD,aE⟩:=Ri y;clear I q l J B H S hm g1 g2 g3 k5;go_wp2_with fail
      refine (Aa z _ g).mono ?_;rintro r aS ⟨rfl,F⟩;have M:=g.trans (F.mono g.size);have ab:=p.after F NLN;have aF:=y.after F NLN;obtain ⟨a6,a7,a8,a9⟩:=Ld ab;obtain ⟨ba,bb⟩:=Ri aF;dsimp only;have aT:(acc ++(⟨#[119,104,101,110,32]⟩ ++t ++⟨#[32,61,62,32]⟩)).size≤40000000000:=by simp only[ByteArray.size_append,aN,aO];omega
      go_wp2_with fail
      go_roundw
      case rel=>exact ⟨k+1,Aa C,by rw[Aa h],by go_num,M⟩
      case measure=>have:=Aa C;simp[intOf];omega
     ·obtain ⟨A,f,O,P,ac,ad⟩:=k5;have h:=Ab (show J7 Es (L.take (k+1))=acc ++(⟨#[119,104,101,110,32]⟩ ++e.pr ++⟨#[32,61,62,32]⟩) ++(⟨#[103,114,97,110,116,32]⟩ ++f.pr) ++⟨#[59,10]⟩ by rw[Aa q,Re,if_neg (by omega),if_pos l,hm,GU g1,WY,if_neg (by omega),O,GU P];simp only[ByteArray.append_assoc]);rw[l] at T;rw[hm] at c2;rw[O] at c3;have z:=Ab (Aa B j e g1 g3 0);simp only[Ds] at z;have aa:e.pr.size≤16000000:=by have:=e.pr_size g2;omega
      have Q:=Ab (Aa B A f P ad 0);simp only[Ds] at Q;have aG:f.pr.size≤16000000:=by have:=f.pr_size ac;omega
      generalize s.name=nm at c1;generalize e.pr=t at z aa h;generalize f.pr=u at Q aG h;have g:=o.alloc o.size (.cells #[.int .i64 2,.string nm,.int .i64 j,.int .i64 A] 49);have p:=An.new wr #[.int .i64 2,.string nm,.int .i64 j,.int .i64 A] 49;have y:=E.alloc (.cells #[.int .i64 2,.string nm,.int .i64 j,.int .i64 A] 49);clear E;obtain ⟨az,aA,aB,aC⟩:=Ld p;obtain ⟨aD,aE⟩:=Ri y;clear I q l J B H S hm g1 g2 g3 O P ac ad;have bc: ¬ ((A:Int) < 0):=by omega
      go_wp2_with fail
      refine (Aa z _ g).mono ?_;rintro r aS ⟨rfl,F⟩;have M:=g.trans (F.mono g.size);have ab:=p.after F NLN;have aF:=y.after F NLN;obtain ⟨a6,a7,a8,a9⟩:=Ld ab;obtain ⟨ba,bb⟩:=Ri aF;dsimp only;have aT:(acc ++(⟨#[119,104,101,110,32]⟩ ++t ++⟨#[32,61,62,32]⟩)).size≤40000000000:=by simp only[ByteArray.size_append,aN,aO];omega
      go_wp2_with fail
      refine (Aa Q _ M).mono ?_;rintro r bd ⟨rfl,aH⟩;have aI:=M.trans (aH.mono M.size);dsimp only;have bf:(acc ++(⟨#[119,104,101,110,32]⟩ ++t ++⟨#[32,61,62,32]⟩) ++(⟨#[103,114,97,110,116,32]⟩ ++u)).size≤40000000000:=by simp only[ByteArray.size_append];omega
      go_wp2_with fail
      go_roundw
      case rel=>exact ⟨k+1,Aa C,by rw[Aa h],by go_num,aI⟩
      case measure=>have:=Aa C;simp[intOf];omega
    ·rcases av with k5 | k5
     ·have h:=Ab (show J7 Es (L.take (k+1))=acc ++⟨#[101,108,115,101,32]⟩ ++⟨#[100,101,110,121]⟩ ++⟨#[59,10]⟩ by rw[Aa q,Re,if_neg (by omega),if_neg (by omega),WY,if_pos k5];simp only[ByteArray.append_assoc]);rw[l] at T;rw[U] at c2;rw[k5] at c3;generalize s.name=nm at c1;have g:=o.alloc o.size (.cells #[.int .i64 3,.string nm,.int .i64 (-1),.int .i64 (-1)] 49);have p:=An.new wr #[.int .i64 3,.string nm,.int .i64 (-1),.int .i64 (-1)] 49;have y:=E.alloc (.cells #[.int .i64 3,.string nm,.int .i64 (-1),.int .i64 (-1)] 49);clear E;obtain ⟨az,aA,aB,aC⟩:=Ld p;obtain ⟨aD,aE⟩:=Ri y;clear I q l J B H S U k5;go_wp2_with fail
      go_roundw
      case rel=>exact ⟨k+1,Aa C,by rw[Aa h],by go_num,g⟩
      case measure=>have:=Aa C;simp[intOf];omega
     ·obtain ⟨A,f,O,P,ac,ad⟩:=k5;have h:=Ab (show J7 Es (L.take (k+1))=acc ++⟨#[101,108,115,101,32]⟩ ++(⟨#[103,114,97,110,116,32]⟩ ++f.pr) ++⟨#[59,10]⟩ by rw[Aa q,Re,if_neg (by omega),if_neg (by omega),WY,if_neg (by omega),O,GU P];simp only[ByteArray.append_assoc]);rw[l] at T;rw[U] at c2;rw[O] at c3;have Q:=Ab (Aa B A f P ad 0);simp only[Ds] at Q;have aG:f.pr.size≤16000000:=by have:=f.pr_size ac;omega
      generalize s.name=nm at c1;generalize f.pr=u at Q aG h;have g:=o.alloc o.size (.cells #[.int .i64 3,.string nm,.int .i64 (-1),.int .i64 A] 49);have p:=An.new wr #[.int .i64 3,.string nm,.int .i64 (-1),.int .i64 A] 49;have y:=E.alloc (.cells #[.int .i64 3,.string nm,.int .i64 (-1),.int .i64 A] 49);clear E;obtain ⟨az,aA,aB,aC⟩:=Ld p;obtain ⟨aD,aE⟩:=Ri y;clear I q l J B H S U O P ac ad;have bc: ¬ ((A:Int) < 0):=by omega
      go_wp2_with fail
      refine (Aa Q _ g).mono ?_;rintro r bd ⟨rfl,aH⟩;have aI:=g.trans (aH.mono g.size);dsimp only;have bf:(acc ++⟨#[101,108,115,101,32]⟩ ++(⟨#[103,114,97,110,116,32]⟩ ++u)).size≤40000000000:=by simp only[ByteArray.size_append];omega
      go_wp2_with fail
      go_roundw
      case rel=>exact ⟨k+1,Aa C,by rw[Aa h],by go_num,aI⟩
      case measure=>have:=Aa C;simp[intOf];omega
   ·have e:k=m:=by omega
    subst e;have h:=Ab (show J7 Es (L.take k)=J7 Es L by rw[← Aa ai,List.take_length]);rw[Aa h];go_wp2_with fail
    go_ret
    exact ⟨⟨_,rfl,.inr ⟨Aa ap,Es,Aa aZ,Aa S,rfl⟩⟩,al.trans (o.mono aW)⟩
set_option maxHeartbeats 800000
theorem Q8 {w:World}{a:Option Addr}{n c:Nat}{N:List Nd}{L:List St}{s:ByteArray}(h1:Hj w a n c N)(f:∀ x∈N,x.num≤9223372036854775807)(h:Mq N L s):s.size≤30000000000:=by
 rcases h with ⟨_,rfl⟩ | ⟨b,g⟩
 ·have:(⟨#[]⟩:ByteArray).size=0:=rfl;omega
 ·have P:=Pb b;obtain ⟨Es,hl,d,i⟩:=Pc h1 P.fields f P.kids;have e:s=J7 Es L:=Mq.one (.inr ⟨b,g⟩) (.inr ⟨b,Es,hl,d,rfl⟩);have h2:=Lc (w:=w) (Es:=Es) (L:=L) (Ss P hl d i);have h3:=P.m;rw[e];omega
theorem TU (a:Option Addr)(n c:Nat)(d:List ByteArray)(w:World)(h:Bg w a n c d)(h1:n≤100)(h2:∀ x∈d,x.size≤1000)(f:ByteArray)(h3:f.size≤10):
  Calls Tryz.prog 22 #[.slice a n c,.string f] w fun e w'=>(∃ t:ByteArray,e= .returned (.string t)∧t.size≤200000)∧w'=w:=by
 have j:=Ab h.len;have l:=Ab h2;clear h2;go_enter Tryz.func22,Tryz.ntmps22
 go_wp2
 go_loop [5,6,7,10] (fun s _ _ i=>∃ (k:Nat) (acc:ByteArray),k≤n∧i= .int .i64 k∧s= .string acc∧acc.size≤1100 * k) (fun _ _ _ i=>n - (intOf i).toNat)
 case atStart=>exact ⟨0,⟨#[]⟩,Nat.zero_le _,rfl,rfl,NLN⟩
 case round=>
  obtain ⟨k,acc,hk,rfl,rfl,r⟩:=hrel;by_cases m:k < n
  ·obtain ⟨b,u,o,_,hc⟩:=h.cells k m;subst o;have g:k < d.length:=by have:=Aa j;omega
   have p:(EP d k).size≤1000:=by rw[Cf _ k g];exact Aa l _ (List.getElem_mem g)
   generalize EP d k=x at hc p;by_cases h0:k=0
   ·have q: ¬ ((0 :Int) < (k:Int)):=by omega
    clear h0;go_wp2
    go_round
    case rel=>exact ⟨k+1,_,by omega,by go_num,rfl,by rw[Ao];omega⟩
    case measure=>simp[intOf];omega
   ·have q:(0 :Int) < (k:Int):=by omega
    clear h0;go_wp2
    go_round
    case rel=>exact ⟨k+1,_,by omega,by go_num,rfl,by rw[Ao,Ao];omega⟩
    case measure=>simp[intOf];omega
  ·go_wp2
   go_ret
   exact ⟨⟨_,rfl,by omega⟩,rfl⟩
theorem WR (R:Nat)(a:Option Addr)(n c:Nat)(w:World)(h:Cr w R a n c):
  Calls Tryz.prog 18 #[.pointer (some ⟨R,0,none⟩)] w fun e w'=>∃ r:Int,e= .returned (.int .i64 r)∧0≤r∧r≤255∧(n=0→r=0)∧Cr w' R a n c∧Ai R (R+1) w w':=by
 by_cases b:n=0
 ·subst b;obtain ⟨p,h⟩:=h;have d:=h.row.cell 0;have c1:=h.row.cell 1;simp at d c1;have j:((0 :Nat):Int)≤(p:Int):=by omega
  have k:(0 :Int)≤(p:Int):=by omega
  go_enter Tryz.func18,Tryz.ntmps18
  go_wp2
  go_quiet (fail)
  go_wp2
  go_ret
  exact ⟨_,rfl,by omega,by omega,fun _=>rfl,⟨p,h.after (below_drewN (Below.refl (R+1) w) _) (by omega)⟩,Ai.drewN w _⟩
 ·refine (BA R a n c w h).mono ?_;rintro e l ⟨r,rfl,f,g,h1,i⟩;exact ⟨r,rfl,f,g,fun e=>absurd e b,h1,i⟩
end Go.Proofs.YtdldimphcpojoaaGreatDoor
namespace Go.Proofs.YtdldimphcpojoaaGreatDoor
set_option maxRecDepth 100000
set_option maxHeartbeats 3200000
open Go.RowKit
set_option linter.unusedVariables false
variable {a1 a2 a3 a4 a5 a6 : Addr}
theorem U3 (a b:Int):mx a b=max a b:=by unfold mx;split <;> omega
def Zb (a4 a5 a6:Addr) (c:Int) (o:Option Int) (w:World) (r:Ending) (w':World):Prop:=
 (match o with
   | none=>r= .returned .nilIface
   | some i=>∃ b,r= .returned (BS b)∧YK a4 a5 a6 c i b w')∧Below w.heap.size w w'
theorem U4 {X:List Sx}{k:Nat}(hk:k < X.length):IX (X.drop k)=if 64 < mx (LG X[k].cond) (LG X[k].grant) then some X[k].at' else IX (X.drop (k+1)):=by
 rw[List.drop_eq_getElem_cons hk,IX]
theorem Ot (X:List Sx)(v:Value)(w:World)(lo:Nat)(a:Option Addr)(K:Nat)(L:w.ownsRow lo 122 5 (.slice a X.length K) X.length (Mc X))(hc:∀ x∈X,A9 x.cond≤65535∧A9 x.grant≤65535)(ap:X.length≤4000)(S:S6 w a1 a2 a3 a4 a5 a6):
  Calls Tryz.prog 35 #[.slice a X.length K] w (Zb a4 a5 a6 6 (IX X) w):=by
 have ac:=Ab hc;have M:=Ab L;have ad:=Ab S;have d:=Ab (show IX X=IX (X.drop 0) by rw[List.drop_zero]);clear hc L S;generalize hm:X.length=m at *;have N:=Ab hm;clear hm;go_enter Tryz.func35,Tryz.ntmps35
 go_wp2_with fail
 go_loopw [7] (fun i wr=>∃ k:Nat,k≤m∧i= .int .i64 k∧IX X=IX (X.drop k)∧Below w.heap.size w wr) (fun i _=>m - (intOf i).toNat)
 case atStart=>exact ⟨0,Nat.zero_le _,rfl,Aa d,BRN⟩
 case round=>
  clear d;obtain ⟨k,hk,rfl,hx,o⟩:=hrel;have d:=Ab hx;clear hx;by_cases B:k < m
  ·have aq:(k:Int) < (m:Int):=by omega
   have q:k < X.length:=by rw[Aa N];exact B
   obtain ⟨ar,au,O,ae⟩:=Ah (Aa M);obtain ⟨g,af,av,P⟩:=ae (by omega);have ag:a=some ⟨g,0,none⟩:=by injection O with h1;rw[h1];exact af
   subst ag;have ah:g < w.heap.size:=((Aa M).lt g rfl).2;have f:∀ r,r < 5→∀ u,(U0 X[k])[r]? =some u→wr.cell? ⟨g,k * 5+r,none⟩=some u:=fun r ai u hu=>by
    rw[o.cell (p:=⟨g,k * 5+r,none⟩) ah];refine P _ _ ?_;rw[QA X k q r ai];exact hu
   have C:=f 0 (by decide) _ rfl;have Q:=f 1 (by decide) _ rfl;have q2:=f 2 (by decide) _ rfl;have q3:=f 3 (by decide) _ rfl;have q4:=f 4 (by decide) _ rfl;simp only[Nat.add_zero] at C;obtain ⟨R,T⟩:=Aa ac X[k] (List.getElem_mem q);have s:=Ab (fun w=>U2 X[k].cond R w);have t:=Ab (fun w=>U2 X[k].grant T w);have h:=Ab (U4 q);have y:=Ik X[k].cond;have z:=Ik X[k].grant;have U:=Ab B;clear f P R T O B;generalize X[k]=x at C Q q2 q3 q4 s t h y z;clear q;generalize LG x.cond=d1 at s h;generalize LG x.grant=d2 at t h;generalize DE x.cond=b at q3 s y;generalize DE x.grant=c at q4 t z;have aj:=o.alloc o.size (.cells #[.int .i64 x.at',.int .i64 x.kind,.string x.name,b,c] 122);have E:=An.new wr #[.int .i64 x.at',.int .i64 x.kind,.string x.name,b,c] 122;go_wp2_with fail
   rw[run_store _ _ _ _ _ y];go_simp
   rw[run_store _ _ _ _ _ z];go_simp
   go_wp2_with fail
   generalize ak:wr.alloc (.cells #[.int .i64 x.at',.int .i64 x.kind,.string x.name,b,c] 122)=j at *;have aw:j.cell? ⟨wr.heap.size,3,none⟩=some b:=E.cell 3;have ax:j.cell? ⟨wr.heap.size,4,none⟩=some c:=E.cell 4;have F:=E.after BRN.drew NLN;have ay:j.drew.cell? ⟨wr.heap.size,3,none⟩=some b:=F.cell 3;have az:j.drew.cell? ⟨wr.heap.size,4,none⟩=some c:=F.cell 4;have V:=aj.drew;clear ak C Q q2 q3 q4 y z;have aA:Hid (mx d1 d2=if d1 < d2 then d2 else d1):=Ab rfl;go_region_held3 (fun w'=>w'.cell? ⟨wr.heap.size,3,none⟩=some b∧w'.cell? ⟨wr.heap.size,4,none⟩=some c) (first | assumption | go_keep) (first
    | (go_at_call 64;refine (Aa t H).mono ?_;rintro e l ⟨rfl,W⟩;have I:=J.after W NLN;have A:=Y.trans (W.mono Y.size);have aB:l.cell? ⟨wr.heap.size,3,none⟩=some b:=I.cell 3;have aC:l.cell? ⟨wr.heap.size,4,none⟩=some c:=I.cell 4)
    | (go_at_call 64;refine (Aa s j.drew).mono ?_;rintro e H ⟨rfl,Z⟩;have J:=F.after Z NLN;have Y:=V.trans (Z.mono V.size);have aD:H.cell? ⟨wr.heap.size,3,none⟩=some b:=J.cell 3;have aE:H.cell? ⟨wr.heap.size,4,none⟩=some c:=J.cell 4)
    | fail)
   cases aa:decide (64 < max d1 d2)
   ·have n:=Ab (show IX X=IX (X.drop (k+1)) by rw[Aa d,Aa h,if_neg (by rw[U3];exact of_decide_eq_false aa)]);go_wp2_with fail
    go_roundw
    case rel=>exact ⟨k+1,Aa U,by go_num,Aa n,A⟩
    case measure=>have:=Aa U;simp[intOf];omega
   ·have n:=Ab (show IX X=some x.at' by rw[Aa d,Aa h,if_pos (by rw[U3];exact of_decide_eq_true aa)]);have ab:=(Aa ad).below A NLN;have g6:=ab.g6;have aF:l.cell? ⟨wr.heap.size,0,none⟩=some (.int .i64 x.at'):=I.cell 0;have aG:=(ab.below (Below.refl l.heap.size l).drew NLN).g6;go_wp2_with fail
    refine (DY _ _ _ _).mono ?_;rintro e aH ⟨rfl,al,ao⟩;dsimp only;go_wp2_with fail
    go_ret
    rw[Aa n];exact ⟨⟨_,rfl,al⟩,A.trans (ao.mono A.size)⟩
  ·have e:k=m:=by omega
   subst e;have n:=Ab (show IX X=none by rw[Aa d,← Aa N,List.drop_length];rfl);go_wp2_with fail
   go_ret
   rw[Aa n];exact ⟨rfl,o⟩
def IV:List Nd→List Int→List Int
 | n ::N,i ::P=>if 64 < n.names.length then i ::IV N P else IV N P
 | _,_=> []
theorem U5 {N:List Nd}{P:List Int}{k:Nat}(hk:k < N.length)(a:k < P.length):(IV (N.drop k) (P.drop k)).head? =if 64 < N[k].names.length then some P[k] else (IV (N.drop (k+1)) (P.drop (k+1))).head?:=by
 rw[List.drop_eq_getElem_cons hk,List.drop_eq_getElem_cons a,IV];split <;> rfl
theorem QC (N:List Nd)(P:List Int)(nd Q:Value)(n o:List Value)(w:World)(lo:Nat)(C:BY w lo nd N n o)(E:w.ownsRow lo 3 1 Q P.length (AN P))(hl:N.length=P.length)(aw:N.length≤65535)(S:S6 w a1 a2 a3 a4 a5 a6):
  Calls Tryz.prog 34 #[nd,Q] w (Zb a4 a5 a6 5 (IV N P).head? w):=by
 have c:=Ab C;have Y:=Ab E;have Z:=Ab S;have d:=Ab (show (IV N P).head? =(IV (N.drop 0) (P.drop 0)).head? by rw[List.drop_zero,List.drop_zero]);obtain ⟨ax,ay,aa,g⟩:=Ah C.own;obtain ⟨az,aA,ab,h⟩:=Ah E;subst aa;subst ab;have ac:=Ab g;have ad:=Ab h;clear C E S g h;generalize hm:N.length=m at *;have q:=Ab (And.intro hm hl);rw[← hl];clear hm hl;go_enter Tryz.func34,Tryz.ntmps34
 go_wp2_with fail
 go_loopw [9] (fun i wr=>∃ k:Nat,k≤m∧i= .int .i64 k∧(IV N P).head? =(IV (N.drop k) (P.drop k)).head?∧Below w.heap.size w wr) (fun i _=>m - (intOf i).toNat)
 case atStart=>exact ⟨0,Nat.zero_le _,rfl,Aa d,BRN⟩
 case round=>
  clear d;obtain ⟨k,hk,rfl,hx,s⟩:=hrel;have d:=Ab hx;clear hx;by_cases t:k < m
  ·have aB:(k:Int) < (m:Int):=by omega
   have a:k < N.length:=by rw[(Aa q).1];exact t
   have F:k < P.length:=by rw[← (Aa q).2];exact t
   obtain ⟨v,ae,aC,g⟩:=Aa ac (by omega);obtain ⟨j,af,aD,h⟩:=Aa ad (by rw[← (Aa q).2];omega);subst ae;subst af;have ag:v < w.heap.size:=((Aa c).own.lt v rfl).2;have ah:j < w.heap.size:=((Aa Y).lt j rfl).2;have y:k < n.length:=by rw[(Aa c).len];exact a
   have H:k < o.length:=by rw[(Aa c).lenk];exact a
   have f:∀ r,r < 5→∀ u,(GH N[k] n[k] o[k])[r]? =some u→wr.cell? ⟨v,k * 5+r,none⟩=some u:=fun r ai u hu=>by
    rw[s.cell (p:=⟨v,k * 5+r,none⟩) ag];refine g _ _ ?_;rw[MZ N n o k a y H r ai];exact hu
   have I:=f 0 (by decide) _ rfl;have R:=f 1 (by decide) _ rfl;have q2:=f 2 (by decide) _ rfl;have q3:=f 3 (by decide) _ rfl;have q4:=f 4 (by decide) _ rfl;simp only[Nat.add_zero] at I;obtain ⟨J,cs,T,aj⟩:=Ah ((Aa c).names k a y);obtain ⟨K,L,U,ak⟩:=Ah ((Aa c).kids k a H);rw[T] at q3;rw[U] at q4;have V:∀ w',Below w.heap.size w w'→w'.cell? ⟨j,k,none⟩=some (.int .i64 P[k]):=fun w' al=>by
    rw[al.cell (p:=⟨j,k,none⟩) ah];refine h _ _ ?_;rw[AN,List.getElem?_map,List.getElem?_eq_getElem F];rfl
   have z:=Ab V;have A:=Ab (U5 a F);have W:=Ab t;have aE:(k:Int) < (P.length:Int):=by omega
   have ao:N[k].names.length≤9223372036854775807:=by
    have:=(Aa c).names k a y;rcases this.2 with ⟨_,h0⟩ | ⟨aF,aG,aH,_,_,_,h4,h5,_⟩
    ·omega
    ·unfold maxLen at h5;omega
   clear f g h T U t V aj ak;generalize P[k]=X at z A;generalize N[k]=x at I R q2 q3 q4 A ao;clear a F y H;have b:=s.alloc s.size (.cells #[.int .i64 x.op,.int .i64 x.num,.string x.text,.slice J x.names.length cs,.slice K x.kids.length L] 114);have ap:=An.new wr #[.int .i64 x.op,.int .i64 x.num,.string x.text,.slice J x.names.length cs,.slice K x.kids.length L] 114;by_cases B: 64 < x.names.length
   ·have aq:(64 :Int) < (x.names.length:Int):=by omega
    have l:=Ab (show (IV N P).head? =some X by rw[Aa d,Aa A,if_pos B]);have M:=(Aa Z).below b NLN;have g5:=M.g5;have c5:=Aa z _ b;have aI:=Aa z _ b.drew;have g6:=(M.below BRN.drew NLN).g5;clear B;go_wp2_with fail
    generalize ar:wr.alloc (.cells #[.int .i64 x.op,.int .i64 x.num,.string x.text,.slice J x.names.length cs,.slice K x.kids.length L] 114)=au at *;clear ar I R q2 q3 q4 ap;go_region_held3 (fun w'=>w'.cell? ⟨j,k,none⟩=some (.int .i64 X)∧w'.cell? ⟨1,0,none⟩=some (.iface 225 (.pointer (some a5)))) (first | assumption | go_keep) (first
     | (go_at_call 38;refine (DY _ _ _ au.drew).mono ?_;rintro e aJ ⟨rfl,av,O⟩;have c7:=Aa z _ (b.drew.trans (O.mono b.drew.size));have g7:=((M.below BRN.drew NLN).below O NLN).g5)
     | fail)
    all_goals
     go_wp2_with fail
     go_ret
     rw[Aa l];exact ⟨⟨_,rfl,av⟩,b.drew.trans (O.mono b.drew.size)⟩
   ·have aq: ¬ ((64 :Int) < (x.names.length:Int)):=by omega
    have l:=Ab (show (IV N P).head? =(IV (N.drop (k+1)) (P.drop (k+1))).head? by rw[Aa d,Aa A,if_neg B]);clear B;go_wp2_with fail
    go_roundw
    case rel=>exact ⟨k+1,Aa W,by go_num,Aa l,b⟩
    case measure=>have:=Aa W;simp[intOf];omega
  ·have e:k=m:=by omega
   subst e;have l:=Ab (show (IV N P).head? =none by rw[Aa d,← (Aa q).1,List.drop_length];rfl);go_wp2_with fail
   go_ret
   rw[Aa l];exact ⟨rfl,s⟩
end Go.Proofs.YtdldimphcpojoaaGreatDoor
namespace Go.Proofs.YtdldimphcpojoaaGreatDoor
open Go.RowKit
set_option linter.unusedVariables false
theorem Er.same:∀ {e:Ex} {p:Pt},Er e p→e.cnt=p.ex.cnt∧(∀ b,BI e b=BI p.ex b)∧CX e=CX p.ex∧DF e=DF p.ex
 | .int i n,.int j m,h=>by obtain ⟨rfl,rfl⟩:=h;exact ⟨rfl,fun _=>rfl,rfl,rfl⟩
 | .text i s,.text j t,h=>by obtain ⟨rfl,rfl⟩:=h;exact ⟨rfl,fun _=>rfl,rfl,rfl⟩
 | .bool i b,.bool j d,h=>by obtain ⟨rfl,rfl⟩:=h;exact ⟨rfl,fun _=>rfl,rfl,rfl⟩
 | .set i a n c K,.set j ss,h=>by obtain ⟨rfl,f⟩:=h;rw[QD f];exact ⟨rfl,fun _=>rfl,rfl,rfl⟩
 | .name i s,.name j t,h=>by obtain ⟨rfl,rfl⟩:=h;exact ⟨rfl,fun _=>rfl,rfl,rfl⟩
 | .un i op k,.un j o q,h=>by
  obtain ⟨rfl,rfl,hk⟩:=h;obtain ⟨a1,a2,a3,a4⟩:=Er.same hk;exact ⟨by simp only[Pt.ex,Ex.cnt,a1],fun b=>by simp only[Pt.ex,BI,a1,a2],by simp only[Pt.ex,CX,a3],by simp only[Pt.ex,DF,a4]⟩
 | .bin i op l r,.bin j o p q,h=>by
  obtain ⟨rfl,rfl,hl,g⟩:=h;obtain ⟨a1,a2,a3,a4⟩:=Er.same hl;obtain ⟨b1,b2,b3,b4⟩:=Er.same g;exact ⟨by simp only[Pt.ex,Ex.cnt,a1,b1],fun b=>by simp only[Pt.ex,BI,a1,a2,b1,b2],by simp only[Pt.ex,CX,a3,b3],by simp only[Pt.ex,DF,a4,b4]⟩
 | .ite i c t e,.ite j x y z,h=>by
  obtain ⟨rfl,hc,ht,he⟩:=h;obtain ⟨a1,a2,a3,a4⟩:=Er.same hc;obtain ⟨b1,b2,b3,b4⟩:=Er.same ht;obtain ⟨c1,c2,c3,c4⟩:=Er.same he;exact ⟨by simp only[Pt.ex,Ex.cnt,a1,b1,c1],fun b=>by simp only[Pt.ex,BI,a1,a2,b1,b2,c1,c2],by simp only[Pt.ex,CX,a3,b3,c3],by simp only[Pt.ex,DF,a4,b4,c4]⟩
 | .attr ..,_,h=>absurd h (by simp[Er])
 | .lett ..,_,h=>absurd h (by simp[Er])
 | .int ..,.text ..,h | .int ..,.bool ..,h | .int ..,.set ..,h | .int ..,.name ..,h | .int ..,.un ..,h | .int ..,.bin ..,h | .int ..,.ite ..,h=>absurd h (by simp[Er])
 | .text ..,.int ..,h | .text ..,.bool ..,h | .text ..,.set ..,h | .text ..,.name ..,h | .text ..,.un ..,h | .text ..,.bin ..,h | .text ..,.ite ..,h=>absurd h (by simp[Er])
 | .bool ..,.int ..,h | .bool ..,.text ..,h | .bool ..,.set ..,h | .bool ..,.name ..,h | .bool ..,.un ..,h | .bool ..,.bin ..,h | .bool ..,.ite ..,h=>absurd h (by simp[Er])
 | .set ..,.int ..,h | .set ..,.text ..,h | .set ..,.bool ..,h | .set ..,.name ..,h | .set ..,.un ..,h | .set ..,.bin ..,h | .set ..,.ite ..,h=>absurd h (by simp[Er])
 | .name ..,.int ..,h | .name ..,.text ..,h | .name ..,.bool ..,h | .name ..,.set ..,h | .name ..,.un ..,h | .name ..,.bin ..,h | .name ..,.ite ..,h=>absurd h (by simp[Er])
 | .un ..,.int ..,h | .un ..,.text ..,h | .un ..,.bool ..,h | .un ..,.set ..,h | .un ..,.name ..,h | .un ..,.bin ..,h | .un ..,.ite ..,h=>absurd h (by simp[Er])
 | .bin ..,.int ..,h | .bin ..,.text ..,h | .bin ..,.bool ..,h | .bin ..,.set ..,h | .bin ..,.name ..,h | .bin ..,.un ..,h | .bin ..,.ite ..,h=>absurd h (by simp[Er])
 | .ite ..,.int ..,h | .ite ..,.text ..,h | .ite ..,.bool ..,h | .ite ..,.set ..,h | .ite ..,.name ..,h | .ite ..,.un ..,h | .ite ..,.bin ..,h=>absurd h (by simp[Er])
theorem Xy.same {a:Option Ex}{p:Option Pt}(h:Xy a p):A9 a=A9 (p.map Pt.ex)∧(∀ b,JE a b=JE (p.map Pt.ex) b)∧JW a=JW (p.map Pt.ex)∧LG a=LG (p.map Pt.ex)∧(∀ b,I5 a b=I5 (p.map Pt.ex) b):=by
 match a,p,h with
 | none,none,_=>exact ⟨rfl,fun _=>rfl,rfl,rfl,fun _=>rfl⟩
 | some e,some p,h=>
  obtain ⟨a1,a2,a3,a4⟩:=Er.same (show Er e p from h);exact ⟨a1,a2,a3,a4,fun b=>by simp only[Option.map_some,I5,a1]⟩
theorem CG.same {lo:Nat}{w:World} :∀ (X:List Sx) (S:List Ps),CG lo w X S→(∀ b,Bi b X=Bi b (S.map Ps.sx))∧(∀ b,DZ b X=DZ b (S.map Ps.sx))∧Dd X=Dd (S.map Ps.sx)∧DH X=DH (S.map Ps.sx)∧IX X=IX (S.map Ps.sx)
 | [], [],_=>⟨fun _=>rfl,fun _=>rfl,rfl,rfl,rfl⟩
 | x ::X,s ::S,h=>by
  obtain ⟨⟨h1,h2,h3,h4,h5,_,_⟩,a⟩:=h;obtain ⟨c,d,f,g,i⟩:=CG.same X S a;obtain ⟨a1,a2,a3,a4,a5⟩:=h4.same;obtain ⟨b1,b2,b3,b4,b5⟩:=h5.same;refine ⟨fun b=>?_,fun b=>?_, ?_, ?_, ?_⟩
  ·simp only[List.map_cons,Bi,Ps.sx,a1,a2,b1,b2,c]
  ·simp only[List.map_cons,DZ,Ps.sx,a1,a5,b1,b5,d,h2,h3]
  ·simp only[List.map_cons,Dd,Ps.sx,a3,b3,f]
  ·rw[List.map_cons,CP,CP,g];simp only[Ps.sx,a1,b1]
  ·simp only[List.map_cons,IX,Ps.sx,a4,b4,i,h1]
 | [],_ ::_,h=>absurd h id
 | _ ::_, [],h=>absurd h id
theorem Ei:∀ (b B:List Nd) (P c:List Int),b.length=P.length→IV (b ++B) (P ++c)=IV b P ++IV B c
 | [],B, [],c,_=>rfl
 | [],_,_ ::_,_,h=>by simp at h
 | _ ::_,_, [],_,h=>by simp at h
 | a ::b,B,p ::P,c,h=>by
  have d:=Ei b B P c (by simpa using h);rw[List.cons_append,List.cons_append,IV,IV,d];split <;> rfl
theorem M0 (n:Nd)(i:Int)(h:n.names= []):IV [n] [i]= []:=by
 rw[IV,h];rfl
theorem Pt.wide:∀ (p:Pt) (b:Nat),IV (BI p.ex b) (CX p.ex)=LE p.sets
 | .int ..,b=>rfl
 | .text ..,b=>rfl
 | .bool ..,b=>rfl
 | .set i ss,b=>by
  show IV [_] [_]=_;rw[IV];show (if 64 < (XV ss).length then _ else _)=LE [(i,ss)];rw[LE,List.filterMap_cons];dsimp only;split <;> simp_all[IV]
 | .name ..,b=>rfl
 | .un i op k,b=>by
  have a:=Pt.wide k b;simp only[Pt.ex,BI,CX,Pt.sets];rw[Ei _ _ _ _ (by rw[Am,AU]),a,M0 _ _ rfl,List.append_nil]
 | .bin i op l r,b=>by
  simp only[Pt.ex,BI,CX,Pt.sets];rw[Ei _ _ _ _ (by simp[Am,AU]),Ei _ _ _ _ (by rw[Am,AU]),Pt.wide l,Pt.wide r,M0 _ _ rfl,List.append_nil,J5]
 | .ite i c t e,b=>by
  simp only[Pt.ex,BI,CX,Pt.sets];rw[Ei _ _ _ _ (by simp[Am,AU]),Ei _ _ _ _ (by simp[Am,AU]),Ei _ _ _ _ (by rw[Am,AU]),Pt.wide c,Pt.wide t,Pt.wide e,M0 _ _ rfl,List.append_nil,J5,J5,List.append_assoc]
theorem U6 (a:Option Pt)(b:Nat):IV (JE (a.map Pt.ex) b) (JW (a.map Pt.ex))=LE (Od a):=by
 cases a with
 | none=>rfl
 | some p=>exact p.wide b
theorem Il:∀ (S:List Ps) (b:Nat),IV (Bi b (S.map Ps.sx)) (Dd (S.map Ps.sx))=LE (S.flatMap Ps.sets)
 | [],b=>rfl
 | s ::S,b=>by
  simp only[List.map_cons,Bi,Dd,List.flatMap_cons,Ps.sets];rw[Ei _ _ _ _ (by simp[Gs,Im]),Ei _ _ _ _ (by rw[Gs,Im]),Il S];simp only[Ps.sx,U6,J5,List.append_assoc]
theorem GP:∀ {e:Ex} {p:Pt} {lo:Nat} {w:World},Er e p→e.own lo w→(∀ q∈p.sets,WH q.2)→e.sok w
 | .int ..,.int ..,_,_,_,_,_=>trivial
 | .text ..,.text ..,_,_,_,_,_=>trivial
 | .bool ..,.bool ..,_,_,_,_,_=>trivial
 | .name ..,.name ..,_,_,_,_,_=>trivial
 | .set i a n c K,.set j ss,lo,w,h,ho,hs=>by
  obtain ⟨_,f⟩:=h;have g:w.ownsRow lo 9 1 (.slice a n c) n (K.map Value.string):=ho;have m:K.length=n:=by have:=g.1;simpa using this
  have h1:=hs (j,ss) (by simp[Pt.sets]);have h2:∀ x∈K,x.size≤maxLen:=fun x hx=>h1.1 x ((f.mem x).1 hx);have h3:=f.len;have h4:=h1.2;exact ⟨Bg.of_owns g (fun k hk=>by rw[Cf K k (by omega)];exact h2 _ (List.getElem_mem _)),by dsimp only at h4;omega⟩
 | .un _ _ k,.un _ _ q,lo,w,h,ho,hs=>GP (e:=k) h.2.2 ho hs
 | .bin _ _ l r,.bin _ _ p q,lo,w,h,ho,hs=>⟨GP h.2.2.1 ho.1 (fun b d=>hs b (List.mem_append_left _ d)),GP h.2.2.2 ho.2 (fun b d=>hs b (List.mem_append_right _ d))⟩
 | .ite _ c t e,.ite _ x y b,lo,w,h,ho,hs=>⟨GP h.2.1 ho.1 (fun b d=>hs b (List.mem_append_left _ d)),GP h.2.2.1 ho.2.1 (fun b d=>hs b (List.mem_append_right _ (List.mem_append_left _ d))),GP h.2.2.2 ho.2.2 (fun b d=>hs b (List.mem_append_right _ (List.mem_append_right _ d)))⟩
 | .attr ..,_,_,_,h,_,_=>absurd h (by simp[Er])
 | .lett ..,_,_,_,h,_,_=>absurd h (by simp[Er])
 | .int ..,.text ..,_,_,h,_,_ | .int ..,.bool ..,_,_,h,_,_ | .int ..,.set ..,_,_,h,_,_ | .int ..,.name ..,_,_,h,_,_ | .int ..,.un ..,_,_,h,_,_ | .int ..,.bin ..,_,_,h,_,_ | .int ..,.ite ..,_,_,h,_,_=>absurd h (by simp[Er])
 | .text ..,.int ..,_,_,h,_,_ | .text ..,.bool ..,_,_,h,_,_ | .text ..,.set ..,_,_,h,_,_ | .text ..,.name ..,_,_,h,_,_ | .text ..,.un ..,_,_,h,_,_ | .text ..,.bin ..,_,_,h,_,_ | .text ..,.ite ..,_,_,h,_,_=>absurd h (by simp[Er])
 | .bool ..,.int ..,_,_,h,_,_ | .bool ..,.text ..,_,_,h,_,_ | .bool ..,.set ..,_,_,h,_,_ | .bool ..,.name ..,_,_,h,_,_ | .bool ..,.un ..,_,_,h,_,_ | .bool ..,.bin ..,_,_,h,_,_ | .bool ..,.ite ..,_,_,h,_,_=>absurd h (by simp[Er])
 | .set ..,.int ..,_,_,h,_,_ | .set ..,.text ..,_,_,h,_,_ | .set ..,.bool ..,_,_,h,_,_ | .set ..,.name ..,_,_,h,_,_ | .set ..,.un ..,_,_,h,_,_ | .set ..,.bin ..,_,_,h,_,_ | .set ..,.ite ..,_,_,h,_,_=>absurd h (by simp[Er])
 | .name ..,.int ..,_,_,h,_,_ | .name ..,.text ..,_,_,h,_,_ | .name ..,.bool ..,_,_,h,_,_ | .name ..,.set ..,_,_,h,_,_ | .name ..,.un ..,_,_,h,_,_ | .name ..,.bin ..,_,_,h,_,_ | .name ..,.ite ..,_,_,h,_,_=>absurd h (by simp[Er])
 | .un ..,.int ..,_,_,h,_,_ | .un ..,.text ..,_,_,h,_,_ | .un ..,.bool ..,_,_,h,_,_ | .un ..,.set ..,_,_,h,_,_ | .un ..,.name ..,_,_,h,_,_ | .un ..,.bin ..,_,_,h,_,_ | .un ..,.ite ..,_,_,h,_,_=>absurd h (by simp[Er])
 | .bin ..,.int ..,_,_,h,_,_ | .bin ..,.text ..,_,_,h,_,_ | .bin ..,.bool ..,_,_,h,_,_ | .bin ..,.set ..,_,_,h,_,_ | .bin ..,.name ..,_,_,h,_,_ | .bin ..,.un ..,_,_,h,_,_ | .bin ..,.ite ..,_,_,h,_,_=>absurd h (by simp[Er])
 | .ite ..,.int ..,_,_,h,_,_ | .ite ..,.text ..,_,_,h,_,_ | .ite ..,.bool ..,_,_,h,_,_ | .ite ..,.set ..,_,_,h,_,_ | .ite ..,.name ..,_,_,h,_,_ | .ite ..,.un ..,_,_,h,_,_ | .ite ..,.bin ..,_,_,h,_,_=>absurd h (by simp[Er])
theorem Sk {a:Option Ex}{p:Option Pt}{lo:Nat}{w:World}(h:Xy a p)(b:JV lo w a)(hs:∀ q∈Od p,WH q.2):Tq w a:=by
 match a,p,h with
 | none,none,_=>trivial
 | some e,some p,h=>exact GP h b hs
theorem CG.sok {lo:Nat}{w:World} :∀ (X:List Sx) (S:List Ps),CG lo w X S→(∀ q∈S.flatMap Ps.sets,WH q.2)→∀ x∈X,Tq w x.cond∧Tq w x.grant
 | [], [],_,_,x,hx=>by cases hx
 | y ::X,s ::S,h,hs,x,hx=>by
  obtain ⟨⟨h1,h2,h3,h4,h5,a,b⟩,c⟩:=h;rw[List.flatMap_cons] at hs;rcases List.mem_cons.1 hx with rfl | hx
  ·exact ⟨Sk h4 a (fun q hq=>hs q (List.mem_append_left _ (List.mem_append_left _ hq))),Sk h5 b (fun q hq=>hs q (List.mem_append_left _ (List.mem_append_right _ hq)))⟩
  ·exact CG.sok X S c (fun q hq=>hs q (List.mem_append_right _ hq)) x hx
 | [],_ ::_,h,_,_,_=>absurd h id
 | _ ::_, [],h,_,_,_=>absurd h id
end Go.Proofs.YtdldimphcpojoaaGreatDoor
namespace Go.Proofs.YtdldimphcpojoaaGreatDoor
set_option maxRecDepth 100000
set_option maxHeartbeats 6400000
open Go.RowKit
set_option linter.unusedVariables false
variable {a1 a2 a3 a4 a5 a6 : Addr}
structure Wb (w:World) (a1 a2 a3 a4 a5 a6:Addr):Prop where
 s6:S6 w a1 a2 a3 a4 a5 a6
 tab:∀ k,w.cell? ⟨13,k,none⟩=Ia[k]?
theorem Wb.below {w w':World}(h:Wb w a1 a2 a3 a4 a5 a6)(a:Below w.heap.size w w'):Wb w' a1 a2 a3 a4 a5 a6:=
 ⟨h.s6.below a NLN,fun k=>(a.cell (p:=⟨13,k,none⟩) (by have:=h.s6.big;show 13 < _;omega)).trans (h.tab k)⟩
theorem Wb.gy {w:World}(h:Wb w a1 a2 a3 a4 a5 a6):Gy w a4:=⟨h.s6.g4,h.s6.big,h.tab⟩
def YO (a1 a2 a3 a4 a5 a6:Addr) (R:List Nd × List St × List Int × Int × Int) (w:World) (r:Ending) (w':World):Prop:=
 ((R.2.2.2.1=0∧R.2.2.2.2=0∧∃ nd pl nv kv sv,r= .returned (.tuple #[.agg #[nd,sv],pl,.nilIface])∧BY w' w.heap.size nd R.1 nv kv∧w'.ownsRow w.heap.size 49 4 sv R.2.1.length (CA R.2.1)∧w'.ownsRow w.heap.size 3 1 pl R.2.2.1.length (AN R.2.2.1)∧(∀ q,pl.ownBlock=some q→∀ j,(hj:j < kv.length)→kv[j].ownBlock≠some q))∨
   (R.1= []∧R.2.1= []∧R.2.2.1= []∧1≤R.2.2.2.1∧R.2.2.2.1≤3∧∃ b,r= .returned (.tuple #[.agg #[.slice none 0 0,.slice none 0 0],.slice none 0 0,BS b])∧An w' b #[.int .i64 R.2.2.2.2,GQ a1 a2 a3 R.2.2.2.1] 92)∨
   (R.1= []∧R.2.1= []∧R.2.2.1= []∧4≤R.2.2.2.1∧R.2.2.2.1≤6∧∃ b,r= .returned (.tuple #[.agg #[.slice none 0 0,.slice none 0 0],.slice none 0 0,BS b])∧YK a4 a5 a6 R.2.2.2.1 R.2.2.2.2 b w'))∧Below w.heap.size w w'
theorem M2 {w:World}{b c:Nat}{cs f:Array Value}{t d:TypeId}(R:An w b cs t)(R':An w c f d)(h:t≠d):b≠c:=fun e=>by
 have a:=R.out;have g:=R'.out;rw[e,g] at a;injection a with a;injection a with _ a;exact h a.symm
theorem BY.low {w:World}{lo c:Nat}{v:Value}{N:List Nd}{d f:List Value}(h:BY w lo v N d f)(hl:c≤lo):BY w c v N d f:=
 ⟨h.len,h.lenk,Cm h.own hl,fun j a b=>Cm (h.names j a b) hl,fun j a b=>Cm (h.kids j a b) hl,h.apart,h.apartk⟩
theorem KL {i:Func}{a u v:Tmp}(h:i.results= #[.cell a 27,.tmp u,.tmp v]){c:Array Value}{w:World}{b:Nat}{d g e f:Value}(j:c.getD a undef= .pointer (some ⟨b,0,none⟩))(hu:c.getD u undef=e)(k:c.getD v undef=f)
  (R:An w b #[d,g] 27):(results i c).run Tryz.prog w= .ok (.tuple #[.agg #[d,g],e,f]) w:=by
 rw[Array.getD_eq_getD_getElem?] at j hu k;have l:w.cell? ⟨b,0,none⟩=some d:=R.cell 0;have g1:w.cell? ⟨b,1,none⟩=some g:=R.cell 1;simp[results,h,j,hu,k,go_sem,l,g1]
theorem Ts (t:ByteArray)(x:QR)(d:DP (Ar t).toks x)(w:World)(aQ:Wb w a1 a2 a3 a4 a5 a6):
  Calls Tryz.prog 15 #[.string t] w (YO a1 a2 a3 a4 a5 a6 (FP t x) w):=by
 have f:=(Below.refl w.heap.size w).alloc NLN (.cells #[.slice none 0 0,.slice none 0 0] 27);have L:=An.new w #[.slice none 0 0,.slice none 0 0] 27;have B:=Ab (aQ.below f);have ay:=Ab d;have bC:=Ab (KJ t);clear aQ d;go_enter Tryz.func15,Tryz.ntmps15
 go_wp2_with fail
 generalize aR:w.alloc (.cells #[.slice none 0 0,.slice none 0 0] 27)=n at *;have ca:w.heap.size < n.heap.size:=by rw[← aR];simp
 clear aR;refine (Ou t n (Aa B).s6.snt).mono ?_;rintro e aS (⟨hc,bD,cb,cc,rfl,az,aT,m⟩ | ⟨bE,h1,h3,b,rfl,aU,m⟩)
 ·have M:=L.after m NLN;have aV:=f.trans (m.mono f.size);have ad:=Ab hc;have cd:=Ab ((Aa B).below m);have bF:=Aa bC;have bG:=Ab aT;generalize bH:(Ar t).toks=T at *;clear hc bD aT bH;obtain ⟨i,hi,bI,bJ,bK⟩:=info_parts U8;have aW:=m.alloc m.size (.cells #[.int .i64 0,.int .i64 0,.string ⟨#[]⟩,.int .i64 (t.size:Int)] 41);have aX:=az.alloc (.cells #[.int .i64 0,.int .i64 0,.string ⟨#[]⟩,.int .i64 (t.size:Int)] 41);have aY:=An.new aS #[.int .i64 0,.int .i64 0,.string ⟨#[]⟩,.int .i64 (t.size:Int)] 41;dsimp only;go_wp2_with (at_builtin;refine wpList_append_own _ rfl _ _ 35 rfl n.heap.size 41 i (.agg #[.int .i64 0,.int .i64 0,.string ByteArray.empty,.int .i64 0]) 4 40 Tryz.underlying35 hi bI bJ bK rfl (by decide) _ _ _ rfl aX ⟨aS.heap.size,0,none⟩ 1 1 (In (eT t.size)) rfl rfl ?c1 ?c2 ?c3 ?c4 ?c5 ?_)
  case c1=>exact I6 (x:=eT t.size) aY
  case c2=>exact M3 _
  case c3=>unfold maxLen;omega
  case c4=>omega
  case c5=>have:=m.size;simp;omega
  intro ce C ae aZ _;have af:Below n.heap.size n C:=aW.grown aZ (by simp;have:=m.size;omega) (fun q hq=>(az.lt q hq).1);rw[← I7] at ae;obtain ⟨cf,ag,bL,a0⟩:=Ah ae;obtain ⟨ah,bM,cg,_⟩:=a0 (by omega);subst bM;subst bL;clear aZ az aX aY aW a0;have U:=af.alloc af.size (.cells #[.slice (some ⟨ah,0,none⟩) (T.length+1) ag,.int .i64 0] 79);have a7:Pp (C.alloc (.cells #[.slice (some ⟨ah,0,none⟩) (T.length+1) ag,.int .i64 0] 79)) C.heap.size ah ag T t.size T 0:=⟨An.new C _ _,Cm (ae.alloc _) (Nat.zero_le _),by simp,by simp,bF⟩
  have aA:=(Aa B).below U;have bN: 17≤C.heap.size:=Nat.le_trans (Aa B).s6.big af.size;have a8:=Ab (Qu bN T x (Aa ay) _ 0 a7 aA.gy);have ch:=Ab aA;clear a7 aA ae;go_wp2_with fail
  generalize a9:C.alloc (.cells #[.slice (some ⟨ah,0,none⟩) (T.length+1) ag,.int .i64 0] 79)=aB at *;have ci:C.heap.size < aB.heap.size:=by rw[← a9];simp
  clear a9;have ba:=af.size;refine (Aa a8).mono ?_;intro aC N bb;cases x with
  | bad q=>
   obtain ⟨⟨b,rfl,V⟩,ai⟩:=bb;have E:Below n.heap.size n N:=BR U ai ba U.size;have W:=L.after E NLN;have F:=f.trans (E.mono f.size);have o:=Ab (Gi (t:=t) (q:=q) (Aa ad));have s:=W.cell 0;have v:=W.cell 1;have aj:=fun j=>W.frozen j;simp only[List.getElem?_toArray,List.getElem?_cons_zero,List.getElem?_cons_succ] at s v;have A:An N b #[.int .i64 ((CW t.size q).at_:Int),.iface 225 (.pointer (some a4))] 92:=V;dsimp only[BS];go_wp2_with fail
   have y:=(W.set 0 (.slice none 0 0)).set 1 (.slice none 0 0);have z:=(F.setCell (p:=⟨w.heap.size,0,none⟩) NLN (.slice none 0 0)).setCell (p:=⟨w.heap.size,1,none⟩) NLN (.slice none 0 0);have h:b≠w.heap.size:=M2 A W (by decide);have H:=(A.setFar (p:=⟨w.heap.size,0,none⟩) h (.slice none 0 0)).setFar (p:=⟨w.heap.size,1,none⟩) h (.slice none 0 0);rw[Aa o];exact bodyPost_ret (KL Tryz.results15 rfl rfl rfl y) rfl ⟨.inr (.inr ⟨rfl,rfl,rfl,by show (4 :Int)≤4;omega,by show (4 :Int)≤6;omega,b,rfl,H⟩),z⟩
  | ok S=>
   obtain ⟨⟨X,a,ak,rfl,aD,al,bO⟩,ai⟩:=bb;have E:Below n.heap.size n N:=BR U ai ba U.size;have aE:=(Aa ay).cut S rfl;have bP:=aE.cnt;obtain ⟨bc,bd,bf,Y,bg⟩:=CG.same X S al;have bQ:=CG.len X S al;have bh:X.length≠0:=fun e=>(Aa ay).ne S rfl (List.eq_nil_of_length_eq_zero (by omega));have bi:=CG.sok X S al (fun q hq=>by rw[← aE.sets] at hq;exact KK T (Aa bG) (by omega) q hq);rcases aD.2 with ⟨_,h0⟩ | ⟨g,cap,aF,bj,bR,bk,bS,bT,bU,bl⟩
   ·exact absurd h0 bh
   simp only[Value.slice.injEq,true_and] at bj;obtain ⟨rfl,rfl⟩:=bj;have bm:An N g aF 122:=⟨bk⟩
   have bn:∀ (r:Nat) (u:Value),(Mc X)[r]? =some u→aF[r]? =some u:=fun r u hu=>by
    rw[← bl,List.getElem?_take] at hu;split at hu
    ·simpa using hu
    ·cases hu
   have bo:=Ab (QE X g X.length ak aF N rfl bm bn bi (by rw[Y];omega) (by omega));have l:=Ab (And.intro bc (And.intro bd (And.intro bf (And.intro Y bg))));have bV:=Ab (show ∀ x∈X,A9 x.cond≤65535∧A9 x.grant≤65535 from fun x hx=>by have:=U7 hx;rw[Y] at this;omega);have bW:=Ab (show DH X≤65535 by rw[Y];omega);have ao:=Ab aD;have cj:=Ab ((Aa B).below E);clear bk bn bl bU bT bS bi aE bP bc bd bf Y bg al bm ai aD a8 bQ bh bR;dsimp only;go_wp2_with fail
   refine (Aa bo).mono ?_;rintro aC O ⟨⟨nd,ck,bp,bq,cl,rfl,aG,ap,aq,br⟩,aH⟩;obtain ⟨I,J,rfl,_⟩:=Ah aG.own;obtain ⟨cm,cn,rfl,_⟩:=Ah aq;obtain ⟨K,cs,rfl,_⟩:=Ah ap;have aI:=E.trans (aH.mono E.size);have ar:=(Below.refl O.heap.size O).alloc NLN (.cells #[.slice I (Bi 0 X).length J,.slice K X.length cs] 27);have bX:=An.new O #[.slice I (Bi 0 X).length J,.slice K X.length cs] 27;have aJ:=aI.alloc aI.size (.cells #[.slice I (Bi 0 X).length J,.slice K X.length cs] 27);have aK:=aG.blocks (fun k _ hk=>ar.block k hk);have aL:=Ac aq (fun q hq=>ar.block q (aq.lt q hq).2);have bs:=Ac ap (fun q hq=>ar.block q (ap.lt q hq).2);have bY:=Ab (QC (Bi 0 X) (Dd X) _ _ bp bq _ _ aK aL (by rw[EG,Io]) (by rw[EG];exact Aa bW) ((Aa B).below aJ).s6);have bZ:=Ab aK;have bt:=Ab aL;have bu:=Ab bs;have b0:=Ab br;have bv:=Ab (Ac (Aa ao) (fun q hq=>by rw[ar.block q (Nat.lt_of_lt_of_le ((Aa ao).lt q hq).2 aH.size),aH.block q ((Aa ao).lt q hq).2]):World.ownsRow _ aB.heap.size 122 5 (.slice (some ⟨g,0,none⟩) X.length ak) X.length (Mc X));have co:=E.size;clear aG aq ap aK aL bs br bo ao;dsimp only;go_wp2_with fail
   generalize b1:O.alloc (.cells #[.slice I (Bi 0 X).length J,.slice K X.length cs] 27)=cp at *;clear b1;refine (Aa bY).mono ?_;rintro aC aM ⟨au,Z⟩;have aa:=aJ.trans (Z.mono aJ.size);have b2:=bX.after Z NLN;cases P:(IV (Bi 0 X) (Dd X)).head? with
   | some i=>
    rw[P] at au;obtain ⟨b,rfl,V⟩:=au;have o:=Ab (Kl (t:=t) (S:=S) (i:=i) (Aa ad) (by rw[← Il S 0,← (Aa l).1 0,← (Aa l).2.2.1];exact P));clear P;have c:=L.after aa NLN;have F:=f.trans (aa.mono f.size);have s:=c.cell 0;have v:=c.cell 1;have aj:=fun j=>c.frozen j;simp only[List.getElem?_toArray,List.getElem?_cons_zero,List.getElem?_cons_succ] at s v;have A:An aM b _ 92:=V;dsimp only[BS];go_wp2_with fail
    have y:=(c.set 0 (.slice none 0 0)).set 1 (.slice none 0 0);have z:=(F.setCell (p:=⟨w.heap.size,0,none⟩) NLN (.slice none 0 0)).setCell (p:=⟨w.heap.size,1,none⟩) NLN (.slice none 0 0);have h:b≠w.heap.size:=M2 A c (by decide);have H:=(A.setFar (p:=⟨w.heap.size,0,none⟩) h (.slice none 0 0)).setFar (p:=⟨w.heap.size,1,none⟩) h (.slice none 0 0);rw[Aa o];exact bodyPost_ret (KL Tryz.results15 rfl rfl rfl y) rfl ⟨.inr (.inr ⟨rfl,rfl,rfl,by show (4 :Int)≤5;omega,by show (5 :Int)≤6;omega,b,rfl,H⟩),z⟩
   | none=>
    rw[P] at au;subst au;have b3:=Ab (Ac (Aa bv) (fun q hq=>Z.block q ((Aa bv).lt q hq).2):aM.ownsRow aB.heap.size 122 5 (.slice (some ⟨g,0,none⟩) X.length ak) X.length (Mc X));have bw:=Ab P;have b4:=Ab (Ot X (.nilIface) aM _ _ ak (Aa b3) (Aa bV) bO ((Aa B).below aa).s6);clear P;dsimp only;go_wp2_with fail
    refine (Aa b4).mono ?_;rintro aC av ⟨aw,aN⟩;have ax:=aa.trans (aN.mono aa.size);have bx:=b2.after aN NLN;cases Q:IX X with
    | some i=>
     rw[Q] at aw;obtain ⟨b,rfl,V⟩:=aw;have o:=Ab (Km (t:=t) (S:=S) (i:=i) (Aa ad) (by rw[← Il S 0,← (Aa l).1 0,← (Aa l).2.2.1];exact Aa bw) (by rw[← (Aa l).2.2.2.2];exact Q));clear Q;have c:=L.after ax NLN;have F:=f.trans (ax.mono f.size);have s:=c.cell 0;have v:=c.cell 1;have aj:=fun j=>c.frozen j;simp only[List.getElem?_toArray,List.getElem?_cons_zero,List.getElem?_cons_succ] at s v;have A:An av b _ 92:=V;dsimp only[BS];go_wp2_with fail
     have y:=(c.set 0 (.slice none 0 0)).set 1 (.slice none 0 0);have z:=(F.setCell (p:=⟨w.heap.size,0,none⟩) NLN (.slice none 0 0)).setCell (p:=⟨w.heap.size,1,none⟩) NLN (.slice none 0 0);have h:b≠w.heap.size:=M2 A c (by decide);have H:=(A.setFar (p:=⟨w.heap.size,0,none⟩) h (.slice none 0 0)).setFar (p:=⟨w.heap.size,1,none⟩) h (.slice none 0 0);rw[Aa o];exact bodyPost_ret (KL Tryz.results15 rfl rfl rfl y) rfl ⟨.inr (.inr ⟨rfl,rfl,rfl,by show (4 :Int)≤6;omega,by show (6 :Int)≤6;omega,b,rfl,H⟩),z⟩
    | none=>
     rw[Q] at aw;subst aw;have o:=Ab (Qd (t:=t) (S:=S) (Aa ad) (by rw[← Il S 0,← (Aa l).1 0,← (Aa l).2.2.1];exact Aa bw) (by rw[← (Aa l).2.2.2.2];exact Q));clear Q;have c:=L.after ax NLN;have F:=f.trans (ax.mono f.size);have s:=c.cell 0;have v:=c.cell 1;have aj:=fun j=>c.frozen j;have b5:=bx.cell 0;have b6:=bx.cell 1;simp only[List.getElem?_toArray,List.getElem?_cons_zero,List.getElem?_cons_succ] at s v b5 b6;have nz:O.heap.size≠w.heap.size:=by have:=aI.size;omega
     have cq:w.heap.size≠O.heap.size:=fun e=>nz e.symm;dsimp only;go_wp2_with fail
     have aO:=Z.trans (aN.mono Z.size);have R:=(Aa bZ).blocks (fun k _ hk=>aO.block k hk);have bz:=Ac (Aa bt) (fun q hq=>aO.block q ((Aa bt).lt q hq).2);have bA:=Ac (Aa bu) (fun q hq=>aO.block q ((Aa bu).lt q hq).2);have ab:∀ q,q≠w.heap.size→((av.setCell ⟨w.heap.size,0,none⟩ (.slice I (Bi 0 X).length J)).setCell ⟨w.heap.size,1,none⟩ (.slice K X.length cs)).heap[q]? =av.heap[q]? :=fun q hq=>(heap_setCell_other _ ⟨w.heap.size,1,none⟩ q _ hq).trans (heap_setCell_other av ⟨w.heap.size,0,none⟩ q _ hq);have y:=(c.set 0 (.slice I (Bi 0 X).length J)).set 1 (.slice K X.length cs);have z:=(F.setCell (p:=⟨w.heap.size,0,none⟩) NLN (.slice I (Bi 0 X).length J)).setCell (p:=⟨w.heap.size,1,none⟩) NLN (.slice K X.length cs);have b7:=R.upto (fun q hq=>ab q (fun e=>Ad c R.own (by decide) (by rw[hq,e]))) (fun j ac q hq=>ab q (fun e=>Ad c (R.names j (by rw[← R.len];exact ac) ac) (by decide) (by rw[hq,e]))) (fun j ac q hq=>ab q (fun e=>Ad c (R.kids j (by rw[← R.lenk];exact ac) ac) (by decide) (by rw[hq,e])));have b8:=Ac bz (fun q hq=>ab q (fun e=>Ad c bz (by decide) (by rw[hq,e])));have b9:=Ac bA (fun q hq=>ab q (fun e=>Ad c bA (by decide) (by rw[hq,e])));have aP:w.heap.size≤N.heap.size:=by omega
     rw[Aa o,← (Aa l).1 0,← (Aa l).2.1 0,← (Aa l).2.2.1];refine bodyPost_ret (KL Tryz.results15 rfl rfl rfl y) rfl ⟨.inl ⟨rfl,rfl,_,_,bp,bq,_,rfl,b7.low aP, ?_,Cm b8 aP,Aa b0⟩,z⟩;show World.ownsRow _ _ _ _ _ (DZ 0 X).length _;rw[KM];exact Cm b9 aP
 ·have M:=L.after m NLN;have aV:=f.trans (m.mono f.size);have o:=Ab (show FP t x=([], [], [],(Ar t).code,((Ar t).at_:Int)) from H9 (by omega));have bB:=Ab (And.intro h1 h3);have s:=M.cell 0;have v:=M.cell 1;have aj:=fun j=>M.frozen j;simp only[List.getElem?_toArray,List.getElem?_cons_zero,List.getElem?_cons_succ] at s v;clear bE h1 h3;dsimp only;go_wp2_with fail
  have y:=(M.set 0 (.slice none 0 0)).set 1 (.slice none 0 0);have z:=(aV.setCell (p:=⟨w.heap.size,0,none⟩) NLN (.slice none 0 0)).setCell (p:=⟨w.heap.size,1,none⟩) NLN (.slice none 0 0);have h:b≠w.heap.size:=M2 aU M (by decide);have H:=(aU.setFar (p:=⟨w.heap.size,0,none⟩) h (.slice none 0 0)).setFar (p:=⟨w.heap.size,1,none⟩) h (.slice none 0 0);rw[Aa o];exact bodyPost_ret (KL Tryz.results15 rfl rfl rfl y) rfl ⟨.inr (.inl ⟨rfl,rfl,rfl,(Aa bB).1,(Aa bB).2,b,rfl,H⟩),z⟩
end Go.Proofs.YtdldimphcpojoaaGreatDoor
namespace Go.Proofs.YtdldimphcpojoaaGreatDoor
set_option maxRecDepth 100000
set_option maxHeartbeats 3200000
open Go.RowKit
set_option linter.unusedVariables false
variable {a1 a2 a3 a4 a5 a6 : Addr}
def NM (R:List Nd × List St × List Int × Int × Int) (w:World) (r:Ending) (w':World):Prop:=
 (∃ nd pl nv kv sv,r= .returned (.tuple #[.agg #[nd,sv],pl,.agg #[.int .i64 R.2.2.2.1,.int .i64 R.2.2.2.2]])∧BY w' w.heap.size nd R.1 nv kv∧w'.ownsRow w.heap.size 49 4 sv R.2.1.length (CA R.2.1)∧w'.ownsRow w.heap.size 3 1 pl R.2.2.1.length (AN R.2.2.1)∧(∀ q,pl.ownBlock=some q→∀ j,(hj:j < kv.length)→kv[j].ownBlock≠some q))∧Below w.heap.size w w'
theorem FW {k:Func}{a u v:Tmp}(h:k.results= #[.cell a 27,.tmp u,.cell v 30]){c:Array Value}{w:World}{b d:Nat}{f g e i j:Value}(l:c.getD a undef= .pointer (some ⟨b,0,none⟩))(hu:c.getD u undef=e)(m:c.getD v undef= .pointer (some ⟨d,0,none⟩))
  (R:An w b #[f,g] 27)(F:An w d #[i,j] 30):(results k c).run Tryz.prog w= .ok (.tuple #[.agg #[f,g],e,.agg #[i,j]]) w:=by
 rw[Array.getD_eq_getD_getElem?] at l hu m;have n:w.cell? ⟨b,0,none⟩=some f:=R.cell 0;have g1:w.cell? ⟨b,1,none⟩=some g:=R.cell 1;have g2:w.cell? ⟨d,0,none⟩=some i:=F.cell 0;have g3:w.cell? ⟨d,1,none⟩=some j:=F.cell 1;simp[results,h,l,hu,m,go_sem,n,g1,g2,g3]
theorem YO.uni {R:List Nd × List St × List Int × Int × Int}{w a:World}{r:Ending}(h:YO a1 a2 a3 a4 a5 a6 R w r a)(m:Wb a a1 a2 a3 a4 a5 a6):
  ∃ nd c k d i l,r= .returned (.tuple #[.agg #[nd,i],c,l])∧FT l∧BY a w.heap.size nd R.1 k d∧a.ownsRow w.heap.size 49 4 i R.2.1.length (CA R.2.1)∧a.ownsRow w.heap.size 3 1 c R.2.2.1.length (AN R.2.2.1)∧(∀ q,c.ownBlock=some q→∀ j,(p:j < d.length)→d[j].ownBlock≠some q)∧
   (∀ w',Below a.heap.size a w'→Calls Tryz.prog 16 #[l] w' fun e o=>e= .returned (.agg #[.int .i64 R.2.2.2.1,.int .i64 R.2.2.2.2])∧Below w'.heap.size w' o):=by
 obtain ⟨N,L,O,n,at_⟩:=R;rcases h with ⟨⟨h1,h2,nd,c,k,d,i,rfl,g1,g2,g3,g4⟩ | ⟨h1,h2,h3,h4,h5,b,rfl,f⟩ | ⟨h1,h2,h3,h4,h5,b,rfl,f⟩,s⟩
 ·dsimp only at h1 h2;subst h1 h2;exact ⟨nd,c,k,d,i,.nilIface,rfl,.inl rfl,g1,g2,g3,g4,fun w' _=>JF w'⟩
 ·dsimp only at h1 h2 h3 h4 h5 f;subst h1 h2 h3;exact ⟨_,_, [], [],_,_,rfl,.inr ⟨_,_,rfl⟩,BY.nil _ _,World.ownsRow_nil _ _ _ _,World.ownsRow_nil _ _ _ _,(fun q hq=>by cases hq),fun w' g=>JG b at_ n w' (m.below g).s6.snt (f.after g NLN) ⟨h4,h5⟩⟩
 ·dsimp only at h1 h2 h3 h4 h5 f;subst h1 h2 h3;exact ⟨_,_, [], [],_,_,rfl,.inr ⟨_,_,rfl⟩,BY.nil _ _,World.ownsRow_nil _ _ _ _,World.ownsRow_nil _ _ _ _,(fun q hq=>by cases hq),fun w' g=>UN b n at_ w' (m.below g).s6 (An.after f g NLN) ⟨h4,h5⟩⟩
theorem Qg (t:ByteArray)(x:QR)(d:DP (Ar t).toks x)(w:World)(Q:Wb w a1 a2 a3 a4 a5 a6):
  Calls Tryz.prog 6 #[.string t] w (NM (FP t x) w):=by
 have m:=((Below.refl w.heap.size w).alloc NLN (.cells #[.slice none 0 0,.slice none 0 0] 27)).alloc (by simp) (.cells #[.int .i64 0,.int .i64 0] 30);have aG:=(An.new w #[.slice none 0 0,.slice none 0 0] 27).alloc (.cells #[.int .i64 0,.int .i64 0] 30);have au:=An.new (w.alloc (.cells #[.slice none 0 0,.slice none 0 0] 27)) #[.int .i64 0,.int .i64 0] 30;simp only[World.size_alloc] at au;have aH:=Ab (Q.below m);have S:=Ab (Ts t x d _ (Q.below m));generalize FP t x=R at S ⊢;obtain ⟨N,L,O,k,at_⟩:=R;clear Q d;go_enter Tryz.func6,Tryz.ntmps6
 go_wp2_with fail
 generalize av:(w.alloc (.cells #[.slice none 0 0,.slice none 0 0] 27)).alloc (.cells #[.int .i64 0,.int .i64 0] 30)=B at *;have aw:B.heap.size=w.heap.size+2:=by rw[← av];simp
 have T:=Ab aw;clear av aw;refine (Aa S).mono ?_;intro aQ a U;have u:=U.2;obtain ⟨nd,aR,ax,ay,aS,aT,rfl,aI,I,J,K,az,V⟩:=U.uni ((Aa aH).below u);clear U S;obtain ⟨b,c,rfl,_⟩:=Ah I.own;obtain ⟨aU,aV,rfl,_⟩:=Ah K;obtain ⟨f,cs,rfl,_⟩:=Ah J;dsimp only at I J K V ⊢;have aJ:=aG.after u NLN;have aK:=au.after u NLN;have aA:=Ab V;have aB:=Ab I;have y:=Ab J;have z:=Ab K;have v:=(Below.refl a.heap.size a).alloc NLN (.cells #[.slice b N.length c,.slice f L.length cs] 27);have A:=An.new a #[.slice b N.length c,.slice f L.length cs] 27;clear V I J K;have aW:w.heap.size+2≤a.heap.size:=by have:=u.size;have:=Aa T;omega
 have aC:(Tryz.f16.name== "runtime.NumGoroutine")=false:=by kernel_rfl
 have aD: Tryz.f16.body.isNone=false:=by kernel_rfl
 have aE:=aJ.alloc (.cells #[.slice b N.length c,.slice f L.length cs] 27);have aF:=aK.alloc (.cells #[.slice b N.length c,.slice f L.length cs] 27);have M:w.heap.size≠w.heap.size+1:=by omega
 have P:w.heap.size+1≠w.heap.size:=by omega
 have aX:a.heap.size≠w.heap.size:=by omega
 have aY:a.heap.size≠w.heap.size+1:=by omega
 rcases aI with rfl | ⟨aL,aM,rfl⟩
 ·go_wp2_with fail
  generalize W:a.alloc (.cells #[.slice b N.length c,.slice f L.length cs] 27)=g at *;clear W;have X:g.cell? ⟨a.heap.size,0,none⟩=some (.slice b N.length c):=A.cell 0;have Y:g.cell? ⟨a.heap.size,1,none⟩=some (.slice f L.length cs):=A.cell 1;have Z:Below g.heap.size g g.drew:=BRN.drew;go_region_law (refine GR rfl 16 _ Tryz.func16 aC aD _ _ rfl (.nilIface) rfl (fun aa w'=>aa= .agg #[.int .i64 k,.int .i64 at_]∧Below g.heap.size g w') ((Aa aA g.drew v.drew).mono (fun r w' h=>⟨_,h.1,rfl,Z.trans h.2⟩)) ?_;rintro aN i ⟨rfl,l⟩;have C:=A.after l NLN;have n:=aE.after l NLN;have o:=aF.after l NLN;have ab:i.cell? ⟨a.heap.size,0,none⟩=some (.slice b N.length c):=C.cell 0;have ac:i.cell? ⟨a.heap.size,1,none⟩=some (.slice f L.length cs):=C.cell 1;have ad:i.cell? ⟨w.heap.size,0,none⟩=some (.slice none 0 0):=n.cell 0;have ae:i.cell? ⟨w.heap.size,1,none⟩=some (.slice none 0 0):=n.cell 1;have af:=fun j=>n.frozen j;have ag:i.cell? ⟨w.heap.size+1,0,none⟩=some (.int .i64 0):=o.cell 0;have ah:i.cell? ⟨w.heap.size+1,1,none⟩=some (.int .i64 0):=o.cell 1;have ai:=fun j=>o.frozen j)
  all_goals
   have aj:=(((n.set 0 (.slice b N.length c)).set 1 (.slice f L.length cs)).setFar (p:=⟨w.heap.size+1,0,none⟩) M (.int .i64 k)).setFar (p:=⟨w.heap.size+1,1,none⟩) M (.int .i64 at_);have ak:=(((o.setFar (p:=⟨w.heap.size,0,none⟩) P (.slice b N.length c)).setFar (p:=⟨w.heap.size,1,none⟩) P (.slice f L.length cs)).set 0 (.int .i64 k)).set 1 (.int .i64 at_);have E:=(m.trans (u.mono m.size)).trans (v.mono (Nat.le_trans m.size u.size));have al:=E.trans (l.mono E.size);have ao:=(((al.setCell (p:=⟨w.heap.size,0,none⟩) NLN (.slice b N.length c)).setCell (p:=⟨w.heap.size,1,none⟩) NLN (.slice f L.length cs)).setCell (p:=⟨w.heap.size+1,0,none⟩) (Nat.le_succ _) (.int .i64 k)).setCell (p:=⟨w.heap.size+1,1,none⟩) (Nat.le_succ _) (.int .i64 at_);have s:∀ q,B.heap.size≤q→q < a.heap.size→((((i.setCell ⟨w.heap.size,0,none⟩ (.slice b N.length c)).setCell ⟨w.heap.size,1,none⟩ (.slice f L.length cs)).setCell ⟨w.heap.size+1,0,none⟩ (.int .i64 k)).setCell ⟨w.heap.size+1,1,none⟩ (.int .i64 at_)).heap[q]? =a.heap[q]? :=fun q h1 h2=>by
    have aO:=Aa T;have F:q≠w.heap.size:=by omega
    have H:q≠w.heap.size+1:=by omega
    rw[heap_setCell_other _ _ q _ H,heap_setCell_other _ _ q _ H,heap_setCell_other _ _ q _ F,heap_setCell_other _ _ q _ F,l.block q (Nat.lt_of_lt_of_le h2 v.size),v.block q h2]
   have ap:=(Aa aB).blocks s;have aq:=Ac (Aa y) (fun q hq=>s q ((Aa y).lt q hq).1 ((Aa y).lt q hq).2);have ar:=Ac (Aa z) (fun q hq=>s q ((Aa z).lt q hq).1 ((Aa z).lt q hq).2);clear ab ac ad ae af ag ah ai X Y s;generalize (((i.setCell ⟨w.heap.size,0,none⟩ (.slice b N.length c)).setCell ⟨w.heap.size,1,none⟩ (.slice f L.length cs)).setCell ⟨w.heap.size+1,0,none⟩ (.int .i64 k)).setCell ⟨w.heap.size+1,1,none⟩ (.int .i64 at_)=aP at *;go_wp2_with fail
   have hl:w.heap.size≤B.heap.size:=m.size;exact bodyPost_ret (FW Tryz.results6 rfl rfl rfl aj ak) rfl ⟨⟨_,_,ax,ay,_,rfl,ap.low hl,Cm aq hl,Cm ar hl,az⟩,ao⟩
 ·go_wp2_with fail
  generalize W:a.alloc (.cells #[.slice b N.length c,.slice f L.length cs] 27)=g at *;clear W;have X:g.cell? ⟨a.heap.size,0,none⟩=some (.slice b N.length c):=A.cell 0;have Y:g.cell? ⟨a.heap.size,1,none⟩=some (.slice f L.length cs):=A.cell 1;have Z:Below g.heap.size g g.drew:=BRN.drew;go_region_law (refine GR rfl 16 _ Tryz.func16 aC aD _ _ rfl (.iface aL aM) rfl (fun aa w'=>aa= .agg #[.int .i64 k,.int .i64 at_]∧Below g.heap.size g w') ((Aa aA g.drew v.drew).mono (fun r w' h=>⟨_,h.1,rfl,Z.trans h.2⟩)) ?_;rintro aN i ⟨rfl,l⟩;have C:=A.after l NLN;have n:=aE.after l NLN;have o:=aF.after l NLN;have ab:i.cell? ⟨a.heap.size,0,none⟩=some (.slice b N.length c):=C.cell 0;have ac:i.cell? ⟨a.heap.size,1,none⟩=some (.slice f L.length cs):=C.cell 1;have ad:i.cell? ⟨w.heap.size,0,none⟩=some (.slice none 0 0):=n.cell 0;have ae:i.cell? ⟨w.heap.size,1,none⟩=some (.slice none 0 0):=n.cell 1;have af:=fun j=>n.frozen j;have ag:i.cell? ⟨w.heap.size+1,0,none⟩=some (.int .i64 0):=o.cell 0;have ah:i.cell? ⟨w.heap.size+1,1,none⟩=some (.int .i64 0):=o.cell 1;have ai:=fun j=>o.frozen j)
  all_goals
   have aj:=(((n.set 0 (.slice b N.length c)).set 1 (.slice f L.length cs)).setFar (p:=⟨w.heap.size+1,0,none⟩) M (.int .i64 k)).setFar (p:=⟨w.heap.size+1,1,none⟩) M (.int .i64 at_);have ak:=(((o.setFar (p:=⟨w.heap.size,0,none⟩) P (.slice b N.length c)).setFar (p:=⟨w.heap.size,1,none⟩) P (.slice f L.length cs)).set 0 (.int .i64 k)).set 1 (.int .i64 at_);have E:=(m.trans (u.mono m.size)).trans (v.mono (Nat.le_trans m.size u.size));have al:=E.trans (l.mono E.size);have ao:=(((al.setCell (p:=⟨w.heap.size,0,none⟩) NLN (.slice b N.length c)).setCell (p:=⟨w.heap.size,1,none⟩) NLN (.slice f L.length cs)).setCell (p:=⟨w.heap.size+1,0,none⟩) (Nat.le_succ _) (.int .i64 k)).setCell (p:=⟨w.heap.size+1,1,none⟩) (Nat.le_succ _) (.int .i64 at_);have s:∀ q,B.heap.size≤q→q < a.heap.size→((((i.setCell ⟨w.heap.size,0,none⟩ (.slice b N.length c)).setCell ⟨w.heap.size,1,none⟩ (.slice f L.length cs)).setCell ⟨w.heap.size+1,0,none⟩ (.int .i64 k)).setCell ⟨w.heap.size+1,1,none⟩ (.int .i64 at_)).heap[q]? =a.heap[q]? :=fun q h1 h2=>by
    have aO:=Aa T;have F:q≠w.heap.size:=by omega
    have H:q≠w.heap.size+1:=by omega
    rw[heap_setCell_other _ _ q _ H,heap_setCell_other _ _ q _ H,heap_setCell_other _ _ q _ F,heap_setCell_other _ _ q _ F,l.block q (Nat.lt_of_lt_of_le h2 v.size),v.block q h2]
   have ap:=(Aa aB).blocks s;have aq:=Ac (Aa y) (fun q hq=>s q ((Aa y).lt q hq).1 ((Aa y).lt q hq).2);have ar:=Ac (Aa z) (fun q hq=>s q ((Aa z).lt q hq).1 ((Aa z).lt q hq).2);clear ab ac ad ae af ag ah ai X Y s;generalize (((i.setCell ⟨w.heap.size,0,none⟩ (.slice b N.length c)).setCell ⟨w.heap.size,1,none⟩ (.slice f L.length cs)).setCell ⟨w.heap.size+1,0,none⟩ (.int .i64 k)).setCell ⟨w.heap.size+1,1,none⟩ (.int .i64 at_)=aP at *;go_wp2_with fail
   have hl:w.heap.size≤B.heap.size:=m.size;exact bodyPost_ret (FW Tryz.results6 rfl rfl rfl aj ak) rfl ⟨⟨_,_,ax,ay,_,rfl,ap.low hl,Cm aq hl,Cm ar hl,az⟩,ao⟩
end Go.Proofs.YtdldimphcpojoaaGreatDoor
