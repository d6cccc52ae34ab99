/-
  QT, KTO. Own work.
-/
import Derived.Test.YtffkofkjpckmpaaGreatDoorMXBK
import Derived.Test.YtffkofkjpckmpaaGreatDoorMXBO
import Derived.Test.YtffkofkjpckmpaaGreatDoorMXBH
namespace Go.Proofs.YtffkofkjpckmpaaGreatDoor
set_option maxRecDepth 100000
set_option maxHeartbeats 1600000
open Go.RowKit
set_option linter.unusedVariables false
theorem UJ (a b:Option Addr)(n c m d:Nat)(N:List Nd)(L:List St)(w:World)(h1:IZ w a n c N)(h2:PO w b m d L)(aI:∀ x∈N,x.num≤9223372036854775807):
  Calls Tryz.prog 28 #[.agg #[.slice a n c,.slice b m d]] w fun r w'=>(∃ s,r= .returned (.string s)∧IY N L s)∧Below w.heap.size w w':=by
 have bf:=Ab h1.len;have ai:=Ab h2.len;have aT:=Ab aI;have aJ:=Am.new w #[.slice a n c,.slice b m d] 27;have V:=(Below.refl w.heap.size w).alloc NLN (.cells #[.slice a n c,.slice b m d] 27);have aj:=h1.below V NLN;have ak:=h2.below V NLN;clear h1 h2 aI;go_enter Tryz.func28,Tryz.ntmps28
 go_wp2_with fail
 refine (KV _ _ _ _ _ _ N L _ aj ak).mono ?_;rintro r R ⟨rfl,W⟩;have al:=V.trans (W.mono V.size);have aK:=aj.below W NLN;have aU:=ak.below W NLN;have ao:=aJ.after W NLN;clear aj ak aJ V W;have aV:=al.size;have bg:w.heap.size < R.heap.size:=ao.lt;obtain ⟨aW,aX⟩:=KW ao;dsimp only;cases X:By N L with
 |false=>
  have ap:=Ab X;clear X;go_wp2_with fail
  go_ret
  exact ⟨⟨_,rfl,.inl ⟨Aa ap,rfl⟩⟩,al⟩
 |true=>
  have ap:=Ab X;have Y:=Ab (Fk X);clear X;obtain ⟨Es,hl,ae,hf⟩:=Sk aK (Aa Y).fields (Aa aT) (Aa Y).kids;have H:=Ab (Qu (Aa Y) hl ae hf);have B:=Ab (fun (k:Nat) (e:Ex) (he:Es[k]? =some e) (hc:e.cnt≤4000)=>show Ov R a n c k e.put by
   obtain ⟨aq,q2⟩:=zX.1 he;exact Em R a n c N aK e k (q2 ▸ ae k aq) (hf e (Z7 he)) hc)
  have S:=Ab ae;have aY:=Ab hl;have aL:=Ab (show 1≤m∧m≤600 by rw[← Aa ai];exact ⟨(Aa Y).m0,(Aa Y).m⟩);have bh:m≤600:=(Aa aL).2;clear hl ae hf;go_wp2_with fail
  go_loopw [3,12] (fun v i wr=>∃ k:Nat,k≤m∧v= .string (Gu Es (L.take k))∧i= .int .i64 k∧Below R.heap.size R wr) (fun _ i _=>m - (intOf i).toNat)
  case atStart=>exact ⟨0,by omega,rfl,rfl,BRN⟩
  case round=>
   obtain ⟨k,hk,rfl,rfl,o⟩:=hrel;by_cases ar:k < m
   ·have bi:(k:Int) < (m:Int):=by omega
    have af:k < L.length:=by rw[Aa ai];exact ar
    obtain ⟨b1,bj,rfl,bk,T,c1,c2,c3⟩:=(aU.below o NLN).cells k af;have q:=Ab (SU Es L k af);have I:=Ab (Aa H L[k] (zP af));have J:=Ab (show (Gu Es (L.take k)).size≤30000000000 by
     have h1:=JR (w:=R) (Es:=Es) (L:=L.take k) (fun s hs=>Aa H s (yF hs));have h2:=Aa aL;rw[zg] at h1;omega)
    have bl:=o.size;have C:=Ab ar;generalize L[k]=s at T c1 c2 c3 q I;generalize Gu Es (L.take k)=acc at q J ⊢;have E:=ao.after o NLN;clear af ar aW aX;have Z:(⟨#[108,101,116,32]⟩:ByteArray).size=4:=rfl;have ag:(⟨#[32,61,32]⟩:ByteArray).size=3:=rfl;have aM:(⟨#[119,104,101,110,32]⟩:ByteArray).size=5:=rfl;have aN:(⟨#[32,61,62,32]⟩:ByteArray).size=4:=rfl;have bm:(⟨#[101,108,115,101,32]⟩:ByteArray).size=5:=rfl;have bn:(⟨#[59,10]⟩:ByteArray).size=2:=rfl;have bo:(⟨#[103,114,97,110,116,32]⟩:ByteArray).size=6:=rfl;have bp:(⟨#[100,101,110,121]⟩:ByteArray).size=4:=rfl;have bq:w.heap.size < wr.heap.size:=by omega
    have br:=Aa J;rcases Aa I with ⟨l,U,⟨j,e,hm,g1,g2,g3⟩,aO⟩ | ⟨l,⟨j,e,hm,g1,g2,g3⟩,au⟩ | ⟨l,U,au⟩
    ·have h:=Ab (show Gu Es (L.take (k+1))=acc ++(⟨#[108,101,116,32]⟩ ++s.name ++⟨#[32,61,32]⟩ ++e.pr) ++⟨#[59,10]⟩ by rw[Aa q,Lm,if_pos l,hm,FZ g1];simp only[zT]);rw[l] at T;rw[hm] at c2;rw[aO] at c3;have z:=Ab (Aa B j e g1 g3 0);simp only[BO] at z;have aa:e.pr.size≤16000000:=by have:=e.pr_size g2;omega
     generalize s.name=nm at c1 U h;generalize e.pr=t at z aa h;have g:=o.alloc o.size (.cells #[.int .i64 1,.string nm,.int .i64 j,.int .i64 (-1)] 51);have p:=Am.new wr #[.int .i64 1,.string nm,.int .i64 j,.int .i64 (-1)] 51;have y:=E.alloc (.cells #[.int .i64 1,.string nm,.int .i64 j,.int .i64 (-1)] 51);clear E;clear I q l hm aO g1 g2 g3 J B H S;have aZ:∃ K,K=wr.alloc (.cells #[.int .i64 1,.string nm,.int .i64 j,.int .i64 (-1)] 51):=⟨_,rfl⟩
     go_wp2_with fail
     obtain ⟨K,aP⟩:=aZ;rw[← aP] at g p y ⊢;clear aP;have ah:Below K.heap.size K K.drew:=BRN.drew;have a0:=Ab (g.trans (ah.mono g.size));have av:∀ w',Below K.heap.size K w'→w'.cell? ⟨wr.heap.size,1,none⟩=some (.string nm)∧w'.cell? ⟨wr.heap.size,2,none⟩=some (.int .i64 j)∧w'.cell? ⟨w.heap.size,0,none⟩=some (.slice a n c):=fun w' aw=>⟨(p.after aw NLN).cell 1,(p.after aw NLN).cell 2,(y.after aw NLN).cell 0⟩
     have aQ:=Ab av;have aq:=av _ ah;have a1:=Gn (a:=⟨#[108,101,116,32]⟩) (b:=nm) (by rw[Z];omega);have a2:=Gn (a:=⟨#[108,101,116,32]⟩ ++nm) (b:=⟨#[32,61,32]⟩) (by simp only[zD,Z,ag];omega);have a3:=Gn (a:=⟨#[108,101,116,32]⟩ ++nm ++⟨#[32,61,32]⟩) (b:=t) (by simp only[zD,Z,ag];omega);have a4:=Gn (a:=acc) (b:=⟨#[108,101,116,32]⟩ ++nm ++⟨#[32,61,32]⟩ ++t) (by simp only[zD,Z,ag];omega);clear av;go_region_held3 (fun w'=>w'.cell? ⟨wr.heap.size,1,none⟩=some (.string nm)∧w'.cell? ⟨wr.heap.size,2,none⟩=some (.int .i64 j)∧w'.cell? ⟨w.heap.size,0,none⟩=some (.slice a n c)) (first | assumption | go_keep)
      (first | (go_at_call 66;refine (Aa z _ (Aa a0)).mono ?_;rintro r aR ⟨rfl,F⟩;have ax:=ah.trans (F.mono ah.size);have q2:=Aa aQ _ ax))
     have M:=g.trans (ax.mono g.size);have ab:=p.after ax NLN;obtain ⟨bs,d1,d2,d3⟩:=Eb ab;clear a1 a2 a3 a4 aq q2 aQ;have aS:(acc ++(⟨#[108,101,116,32]⟩ ++nm ++⟨#[32,61,32]⟩ ++t)).size≤40000000000:=by simp only[zD,Z,ag];omega
     go_wp2_with fail
     go_roundw
     case rel=>exact ⟨k+1,Aa C,by rw[Aa h],by go_num,M⟩
     case measure=>have:=Aa C;simp[intOf];omega
    ·rcases au with k5 | k5
     ·have h:=Ab (show Gu Es (L.take (k+1))=acc ++(⟨#[119,104,101,110,32]⟩ ++e.pr ++⟨#[32,61,62,32]⟩) ++⟨#[100,101,110,121]⟩ ++⟨#[59,10]⟩ by rw[Aa q,Lm,if_neg (by omega),if_pos l,hm,FZ g1,SA,if_pos k5];simp only[zT]);rw[l] at T;rw[hm] at c2;rw[k5] at c3;have z:=Ab (Aa B j e g1 g3 0);simp only[BO] at z;have aa:e.pr.size≤16000000:=by have:=e.pr_size g2;omega
      generalize s.name=nm at c1;generalize e.pr=t at z aa h;have g:=o.alloc o.size (.cells #[.int .i64 2,.string nm,.int .i64 j,.int .i64 (-1)] 51);have p:=Am.new wr #[.int .i64 2,.string nm,.int .i64 j,.int .i64 (-1)] 51;have y:=E.alloc (.cells #[.int .i64 2,.string nm,.int .i64 j,.int .i64 (-1)] 51);clear E;obtain ⟨ay,az,aA,aB⟩:=Eb p;obtain ⟨aC,aD⟩:=KW y;clear I q l J B H S hm g1 g2 g3 k5;go_wp2_with fail
      refine (Aa z _ g).mono ?_;rintro r aR ⟨rfl,F⟩;have M:=g.trans (F.mono g.size);have ab:=p.after F NLN;have aE:=y.after F NLN;obtain ⟨a5,a6,a7,a8⟩:=Eb ab;obtain ⟨a9,ba⟩:=KW aE;dsimp only;have aS:(acc ++(⟨#[119,104,101,110,32]⟩ ++t ++⟨#[32,61,62,32]⟩)).size≤40000000000:=by simp only[zD,aM,aN];omega
      go_wp2_with fail
      go_roundw
      case rel=>exact ⟨k+1,Aa C,by rw[Aa h],by go_num,M⟩
      case measure=>have:=Aa C;simp[intOf];omega
     ·obtain ⟨A,f,O,P,ac,ad⟩:=k5;have h:=Ab (show Gu Es (L.take (k+1))=acc ++(⟨#[119,104,101,110,32]⟩ ++e.pr ++⟨#[32,61,62,32]⟩) ++(⟨#[103,114,97,110,116,32]⟩ ++f.pr) ++⟨#[59,10]⟩ by rw[Aa q,Lm,if_neg (by omega),if_pos l,hm,FZ g1,SA,if_neg (by omega),O,FZ P];simp only[zT]);rw[l] at T;rw[hm] at c2;rw[O] at c3;have z:=Ab (Aa B j e g1 g3 0);simp only[BO] at z;have aa:e.pr.size≤16000000:=by have:=e.pr_size g2;omega
      have Q:=Ab (Aa B A f P ad 0);simp only[BO] at Q;have aF:f.pr.size≤16000000:=by have:=f.pr_size ac;omega
      generalize s.name=nm at c1;generalize e.pr=t at z aa h;generalize f.pr=u at Q aF h;have g:=o.alloc o.size (.cells #[.int .i64 2,.string nm,.int .i64 j,.int .i64 A] 51);have p:=Am.new wr #[.int .i64 2,.string nm,.int .i64 j,.int .i64 A] 51;have y:=E.alloc (.cells #[.int .i64 2,.string nm,.int .i64 j,.int .i64 A] 51);clear E;obtain ⟨ay,az,aA,aB⟩:=Eb p;obtain ⟨aC,aD⟩:=KW y;clear I q l J B H S hm g1 g2 g3 O P ac ad;have bb: ¬ ((A:Int) < 0):=by omega
      go_wp2_with fail
      refine (Aa z _ g).mono ?_;rintro r aR ⟨rfl,F⟩;have M:=g.trans (F.mono g.size);have ab:=p.after F NLN;have aE:=y.after F NLN;obtain ⟨a5,a6,a7,a8⟩:=Eb ab;obtain ⟨a9,ba⟩:=KW aE;dsimp only;have aS:(acc ++(⟨#[119,104,101,110,32]⟩ ++t ++⟨#[32,61,62,32]⟩)).size≤40000000000:=by simp only[zD,aM,aN];omega
      go_wp2_with fail
      refine (Aa Q _ M).mono ?_;rintro r bc ⟨rfl,aG⟩;have aH:=M.trans (aG.mono M.size);dsimp only;have bd:(acc ++(⟨#[119,104,101,110,32]⟩ ++t ++⟨#[32,61,62,32]⟩) ++(⟨#[103,114,97,110,116,32]⟩ ++u)).size≤40000000000:=by simp only[zD];omega
      go_wp2_with fail
      go_roundw
      case rel=>exact ⟨k+1,Aa C,by rw[Aa h],by go_num,aH⟩
      case measure=>have:=Aa C;simp[intOf];omega
    ·rcases au with k5 | k5
     ·have h:=Ab (show Gu Es (L.take (k+1))=acc ++⟨#[101,108,115,101,32]⟩ ++⟨#[100,101,110,121]⟩ ++⟨#[59,10]⟩ by rw[Aa q,Lm,if_neg (by omega),if_neg (by omega),SA,if_pos k5];simp only[zT]);rw[l] at T;rw[U] at c2;rw[k5] at c3;generalize s.name=nm at c1;have g:=o.alloc o.size (.cells #[.int .i64 3,.string nm,.int .i64 (-1),.int .i64 (-1)] 51);have p:=Am.new wr #[.int .i64 3,.string nm,.int .i64 (-1),.int .i64 (-1)] 51;have y:=E.alloc (.cells #[.int .i64 3,.string nm,.int .i64 (-1),.int .i64 (-1)] 51);clear E;obtain ⟨ay,az,aA,aB⟩:=Eb p;obtain ⟨aC,aD⟩:=KW y;clear I q l J B H S U k5;go_wp2_with fail
      go_roundw
      case rel=>exact ⟨k+1,Aa C,by rw[Aa h],by go_num,g⟩
      case measure=>have:=Aa C;simp[intOf];omega
     ·obtain ⟨A,f,O,P,ac,ad⟩:=k5;have h:=Ab (show Gu Es (L.take (k+1))=acc ++⟨#[101,108,115,101,32]⟩ ++(⟨#[103,114,97,110,116,32]⟩ ++f.pr) ++⟨#[59,10]⟩ by rw[Aa q,Lm,if_neg (by omega),if_neg (by omega),SA,if_neg (by omega),O,FZ P];simp only[zT]);rw[l] at T;rw[U] at c2;rw[O] at c3;have Q:=Ab (Aa B A f P ad 0);simp only[BO] at Q;have aF:f.pr.size≤16000000:=by have:=f.pr_size ac;omega
      generalize s.name=nm at c1;generalize f.pr=u at Q aF h;have g:=o.alloc o.size (.cells #[.int .i64 3,.string nm,.int .i64 (-1),.int .i64 A] 51);have p:=Am.new wr #[.int .i64 3,.string nm,.int .i64 (-1),.int .i64 A] 51;have y:=E.alloc (.cells #[.int .i64 3,.string nm,.int .i64 (-1),.int .i64 A] 51);clear E;obtain ⟨ay,az,aA,aB⟩:=Eb p;obtain ⟨aC,aD⟩:=KW y;clear I q l J B H S U O P ac ad;have bb: ¬ ((A:Int) < 0):=by omega
      go_wp2_with fail
      refine (Aa Q _ g).mono ?_;rintro r bc ⟨rfl,aG⟩;have aH:=g.trans (aG.mono g.size);dsimp only;have bd:(acc ++⟨#[101,108,115,101,32]⟩ ++(⟨#[103,114,97,110,116,32]⟩ ++u)).size≤40000000000:=by simp only[zD];omega
      go_wp2_with fail
      go_roundw
      case rel=>exact ⟨k+1,Aa C,by rw[Aa h],by go_num,aH⟩
      case measure=>have:=Aa C;simp[intOf];omega
   ·have e:k=m:=by omega
    subst e;have h:=Ab (show Gu Es (L.take k)=Gu Es L by rw[← Aa ai,List.take_length]);rw[Aa h];go_wp2_with fail
    go_ret
    exact ⟨⟨_,rfl,.inr ⟨Aa ap,Es,Aa aY,Aa S,rfl⟩⟩,al.trans (o.mono aV)⟩
set_option maxHeartbeats 800000
theorem UI {w:World}{a:Option Addr}{n c:Nat}{N:List Nd}{L:List St}{s:ByteArray}(h1:IZ w a n c N)(f:∀ x∈N,x.num≤9223372036854775807)(h:IY N L s):s.size≤30000000000:=by
 rcases h with ⟨_,rfl⟩ | ⟨b,g⟩
 ·have:(⟨#[]⟩:ByteArray).size=0:=rfl;omega
 ·have P:=Fk b;obtain ⟨Es,hl,d,hf⟩:=Sk h1 P.fields f P.kids;have e:s=Gu Es L:=IY.one (.inr ⟨b,g⟩) (.inr ⟨b,Es,hl,d,rfl⟩);have h2:=JR (w:=w) (Es:=Es) (L:=L) (Qu P hl d hf);have h3:=P.m;rw[e];omega
theorem Xe (a:Option Addr)(n c:Nat)(d:List ByteArray)(w:World)(h:BL w a n c d)(h1:n≤100)(h2:∀ x∈d,x.size≤1000)(f:ByteArray)(h3:f.size≤10):
  Calls Tryz.prog 30 #[.slice a n c,.string f] w fun e w'=>(∃ t:ByteArray,e= .returned (.string t)∧t.size≤200000)∧w'=w:=by
 have j:=Ab h.len;have l:=Ab h2;clear h2;go_enter Tryz.func30,Tryz.ntmps30
 go_wp2
 go_loop [5,6,7,10] (fun s _ _ i=>∃ (k:Nat) (acc:ByteArray),k≤n∧i= .int .i64 k∧s= .string acc∧acc.size≤1100 * k) (fun _ _ _ i=>n - (intOf i).toNat)
 case atStart=>exact ⟨0,⟨#[]⟩,zN _,rfl,rfl,NLN⟩
 case round=>
  obtain ⟨k,acc,hk,rfl,rfl,r⟩:=hrel;by_cases m:k < n
  ·obtain ⟨b,u,o,_,hc⟩:=h.cells k m;subst o;have g:k < d.length:=by have:=Aa j;omega
   have p:(D0 d k).size≤1000:=by rw[Cw _ k g];exact Aa l _ (zP g)
   generalize D0 d k=x at hc p;by_cases h0:k=0
   ·have q: ¬ ((0 :Int) < (k:Int)):=by omega
    clear h0;go_wp2
    go_round
    case rel=>exact ⟨k+1,_,by omega,by go_num,rfl,by rw[Ar];omega⟩
    case measure=>simp[intOf];omega
   ·have q:(0 :Int) < (k:Int):=by omega
    clear h0;go_wp2
    go_round
    case rel=>exact ⟨k+1,_,by omega,by go_num,rfl,by rw[Ar,Ar];omega⟩
    case measure=>simp[intOf];omega
  ·go_wp2
   go_ret
   exact ⟨⟨_,rfl,by omega⟩,rfl⟩
theorem AaJ (R:Nat)(a:Option Addr)(n c:Nat)(w:World)(h:CE w R a n c):
  Calls Tryz.prog 26 #[.pointer (some ⟨R,0,none⟩)] w fun e w'=>∃ r:Int,e= .returned (.int .i64 r)∧0≤r∧r≤255∧(n=0→r=0)∧CE w' R a n c∧Ak R (R+1) w w':=by
 by_cases b:n=0
 ·subst b;obtain ⟨p,h⟩:=h;have d:=h.row.cell 0;have c1:=h.row.cell 1;simp at d c1;have j:((0 :Nat):Int)≤(p:Int):=by omega
  have k:(0 :Int)≤(p:Int):=by omega
  go_enter Tryz.func26,Tryz.ntmps26
  go_wp2
  go_quiet (fail)
  go_wp2
  go_ret
  exact ⟨_,rfl,by omega,by omega,fun _=>rfl,⟨p,h.after (below_drewN (Below.refl (R+1) w) _) (by omega)⟩,Ak.drewN w _⟩
 ·refine (BJ R a n c w h).mono ?_;rintro e l ⟨r,rfl,f,g,h1,i⟩;exact ⟨r,rfl,f,g,fun e=>absurd e b,h1,i⟩
end Go.Proofs.YtffkofkjpckmpaaGreatDoor
