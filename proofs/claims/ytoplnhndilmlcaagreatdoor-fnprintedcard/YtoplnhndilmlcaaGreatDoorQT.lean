/-
  The model's Print. Own work.
-/
import Derived.Test.YtoplnhndilmlcaaGreatDoorMXAY
import Derived.Test.YtoplnhndilmlcaaGreatDoorMXAS
namespace Go.Proofs.YtoplnhndilmlcaaGreatDoor
set_option maxRecDepth 100000
set_option maxHeartbeats 1600000
open Go.RowKit
set_option linter.unusedVariables false
theorem Ti (a b:Option Addr)(n c m d:Nat)(N:List Nd)(L:List St)(w:World)(h1:Fe w a n c N)(h2:KU w b m d L)(aH:∀ x∈N,x.num≤9223372036854775807):
  Calls Tryz.prog 6 #[.agg #[.slice a n c,.slice b m d]] w fun r w'=>(∃ s,r= .returned (.string s)∧Oi N L s)∧Below w.heap.size w w':=by
 have bd:=Ab h1.len;have ai:=Ab h2.len;have aS:=Ab aH;have aI:=Aj.new w #[.slice a n c,.slice b m d] 26;have V:=(Below.refl w.heap.size w).alloc NLN (.cells #[.slice a n c,.slice b m d] 26);have aj:=h1.below V NLN;have ak:=h2.below V NLN;clear h1 h2 aH;go_enter Tryz.func6,Tryz.ntmps6
 go_wp2_with fail
 refine (FH _ _ _ _ _ _ N L _ aj ak).mono ?_;rintro r R ⟨rfl,W⟩;have al:=V.trans (W.mono V.size);have aJ:=aj.below W NLN;have aT:=ak.below W NLN;have ao:=aI.after W NLN;clear aj ak aI V W;have aU:=al.size;have bf:w.heap.size < R.heap.size:=ao.lt;obtain ⟨aV,aW⟩:=JT ao;dsimp only;cases X:Bs N L with
 | false=>
  have ap:=Ab X;clear X;go_wp2_with fail
  go_ret
  exact ⟨⟨_,rfl,.inl ⟨Aa ap,rfl⟩⟩,al⟩
 | true=>
  have ap:=Ab X;have Y:=Ab (FK X);clear X;obtain ⟨Es,aq,ae,hf⟩:=YD aJ (Aa Y).fields (Aa aS) (Aa Y).kids;have H:=Ab (UP (Aa Y) aq ae hf);have B:=Ab (fun (k:Nat) (e:Ex) (he:Es[k]? =some e) (hc:e.cnt≤4000)=>show FM R a n c k e.put by
   obtain ⟨ar,q2⟩:=List.getElem?_eq_some_iff.1 he;exact DK R a n c N aJ e k (q2 ▸ ae k ar) (hf e (List.mem_of_getElem? he)) hc)
  have S:=Ab ae;have aX:=Ab aq;have aK:=Ab (show 1≤m∧m≤600 by rw[← Aa ai];exact ⟨(Aa Y).m0,(Aa Y).m⟩);have bg:m≤600:=(Aa aK).2;clear aq ae hf;go_wp2_with fail
  go_loopw [3,12] (fun v i wr=>∃ k:Nat,k≤m∧v= .string (Gj Es (L.take k))∧i= .int .i64 k∧Below R.heap.size R wr) (fun _ i _=>m - (intOf i).toNat)
  case atStart=>exact ⟨0,by omega,rfl,rfl,BRN⟩
  case round=>
   obtain ⟨k,hk,rfl,rfl,o⟩:=hrel;by_cases au:k < m
   ·have bh:(k:Int) < (m:Int):=by omega
    have af:k < L.length:=by rw[Aa ai];exact au
    obtain ⟨b1,bi,rfl,bj,T,c1,c2,c3⟩:=(aT.below o NLN).cells k af;have q:=Ab (Rv Es L k af);have I:=Ab (Aa H L[k] (List.getElem_mem af));have J:=Ab (show (Gj Es (L.take k)).size≤30000000000 by
     have h1:=Mu (w:=R) (Es:=Es) (L:=L.take k) (fun s hs=>Aa H s (List.mem_of_mem_take hs));have h2:=Aa aK;rw[List.length_take] at h1;omega)
    have bk:=o.size;have C:=Ab au;generalize L[k]=s at T c1 c2 c3 q I;generalize Gj Es (L.take k)=acc at q J ⊢;have E:=ao.after o NLN;clear af au aV aW;have Z:(⟨#[108,101,116,32]⟩:ByteArray).size=4:=rfl;have ag:(⟨#[32,61,32]⟩:ByteArray).size=3:=rfl;have aL:(⟨#[119,104,101,110,32]⟩:ByteArray).size=5:=rfl;have aM:(⟨#[32,61,62,32]⟩:ByteArray).size=4:=rfl;have bl:(⟨#[101,108,115,101,32]⟩:ByteArray).size=5:=rfl;have bm:(⟨#[59,10]⟩:ByteArray).size=2:=rfl;have bn:(⟨#[103,114,97,110,116,32]⟩:ByteArray).size=6:=rfl;have bo:(⟨#[100,101,110,121]⟩:ByteArray).size=4:=rfl;have bp:w.heap.size < wr.heap.size:=by omega
    have bq:=Aa J;rcases Aa I with ⟨l,U,⟨j,e,hm,g1,g2,g3⟩,aN⟩ | ⟨l,⟨j,e,hm,g1,g2,g3⟩,av⟩ | ⟨l,U,av⟩
    ·have h:=Ab (show Gj Es (L.take (k+1))=acc ++(⟨#[108,101,116,32]⟩ ++s.name ++⟨#[32,61,32]⟩ ++e.pr) ++⟨#[59,10]⟩ by rw[Aa q,KJ,if_pos l,hm,Fy g1];simp only[ByteArray.append_assoc]);rw[l] at T;rw[hm] at c2;rw[aN] at c3;have z:=Ab (Aa B j e g1 g3 0);simp only[Bt] at z;have aa:e.pr.size≤16000000:=by have:=e.pr_size g2;omega
     generalize s.name=nm at c1 U h;generalize e.pr=t at z aa h;have g:=o.alloc o.size (.cells #[.int .i64 1,.string nm,.int .i64 j,.int .i64 (-1)] 51);have p:=Aj.new wr #[.int .i64 1,.string nm,.int .i64 j,.int .i64 (-1)] 51;have y:=E.alloc (.cells #[.int .i64 1,.string nm,.int .i64 j,.int .i64 (-1)] 51);clear E;clear I q l hm aN g1 g2 g3 J B H S;have aY:∃ K,K=wr.alloc (.cells #[.int .i64 1,.string nm,.int .i64 j,.int .i64 (-1)] 51):=⟨_,rfl⟩
     go_wp2_with fail
     obtain ⟨K,aO⟩:=aY;rw[← aO] at g p y ⊢;clear aO;have ah:Below K.heap.size K K.drew:=BRN.drew;have aZ:=Ab (g.trans (ah.mono g.size));have aw:∀ w',Below K.heap.size K w'→w'.cell? ⟨wr.heap.size,1,none⟩=some (.string nm)∧w'.cell? ⟨wr.heap.size,2,none⟩=some (.int .i64 j)∧w'.cell? ⟨w.heap.size,0,none⟩=some (.slice a n c):=fun w' ax=>⟨(p.after ax NLN).cell 1,(p.after ax NLN).cell 2,(y.after ax NLN).cell 0⟩
     have aP:=Ab aw;have ar:=aw _ ah;have a0:=BS (a:=⟨#[108,101,116,32]⟩) (b:=nm) (by rw[Z];omega);have a1:=BS (a:=⟨#[108,101,116,32]⟩ ++nm) (b:=⟨#[32,61,32]⟩) (by simp only[ByteArray.size_append,Z,ag];omega);have a2:=BS (a:=⟨#[108,101,116,32]⟩ ++nm ++⟨#[32,61,32]⟩) (b:=t) (by simp only[ByteArray.size_append,Z,ag];omega);have a3:=BS (a:=acc) (b:=⟨#[108,101,116,32]⟩ ++nm ++⟨#[32,61,32]⟩ ++t) (by simp only[ByteArray.size_append,Z,ag];omega);clear aw;go_region_held3 (fun w'=>w'.cell? ⟨wr.heap.size,1,none⟩=some (.string nm)∧w'.cell? ⟨wr.heap.size,2,none⟩=some (.int .i64 j)∧w'.cell? ⟨w.heap.size,0,none⟩=some (.slice a n c)) (first | assumption | go_keep)
      (first | (go_at_call 15;refine (Aa z _ (Aa aZ)).mono ?_;rintro r aQ ⟨rfl,F⟩;have ay:=ah.trans (F.mono ah.size);have q2:=Aa aP _ ay))
     have M:=g.trans (ay.mono g.size);have ab:=p.after ay NLN;obtain ⟨br,d1,d2,d3⟩:=DC ab;clear a0 a1 a2 a3 ar q2 aP;have aR:(acc ++(⟨#[108,101,116,32]⟩ ++nm ++⟨#[32,61,32]⟩ ++t)).size≤40000000000:=by simp only[ByteArray.size_append,Z,ag];omega
     go_wp2_with fail
     go_roundw
     case rel=>exact ⟨k+1,Aa C,by rw[Aa h],by go_num,M⟩
     case measure=>have:=Aa C;simp[intOf];omega
    ·rcases av with k5 | k5
     ·have h:=Ab (show Gj Es (L.take (k+1))=acc ++(⟨#[119,104,101,110,32]⟩ ++e.pr ++⟨#[32,61,62,32]⟩) ++⟨#[100,101,110,121]⟩ ++⟨#[59,10]⟩ by rw[Aa q,KJ,if_neg (by omega),if_pos l,hm,Fy g1,Rc,if_pos k5];simp only[ByteArray.append_assoc]);rw[l] at T;rw[hm] at c2;rw[k5] at c3;have z:=Ab (Aa B j e g1 g3 0);simp only[Bt] at z;have aa:e.pr.size≤16000000:=by have:=e.pr_size g2;omega
      generalize s.name=nm at c1;generalize e.pr=t at z aa h;have g:=o.alloc o.size (.cells #[.int .i64 2,.string nm,.int .i64 j,.int .i64 (-1)] 51);have p:=Aj.new wr #[.int .i64 2,.string nm,.int .i64 j,.int .i64 (-1)] 51;have y:=E.alloc (.cells #[.int .i64 2,.string nm,.int .i64 j,.int .i64 (-1)] 51);clear E;obtain ⟨v0,v1,az,aA⟩:=DC p;obtain ⟨aB,aC⟩:=JT y;clear I q l J B H S hm g1 g2 g3 k5;go_wp2_with fail
      refine (Aa z _ g).mono ?_;rintro r aQ ⟨rfl,F⟩;have M:=g.trans (F.mono g.size);have ab:=p.after F NLN;have aD:=y.after F NLN;obtain ⟨a4,a5,a6,a7⟩:=DC ab;obtain ⟨a8,a9⟩:=JT aD;dsimp only;have aR:(acc ++(⟨#[119,104,101,110,32]⟩ ++t ++⟨#[32,61,62,32]⟩)).size≤40000000000:=by simp only[ByteArray.size_append,aL,aM];omega
      go_wp2_with fail
      go_roundw
      case rel=>exact ⟨k+1,Aa C,by rw[Aa h],by go_num,M⟩
      case measure=>have:=Aa C;simp[intOf];omega
     ·obtain ⟨A,f,O,P,ac,ad⟩:=k5;have h:=Ab (show Gj Es (L.take (k+1))=acc ++(⟨#[119,104,101,110,32]⟩ ++e.pr ++⟨#[32,61,62,32]⟩) ++(⟨#[103,114,97,110,116,32]⟩ ++f.pr) ++⟨#[59,10]⟩ by rw[Aa q,KJ,if_neg (by omega),if_pos l,hm,Fy g1,Rc,if_neg (by omega),O,Fy P];simp only[ByteArray.append_assoc]);rw[l] at T;rw[hm] at c2;rw[O] at c3;have z:=Ab (Aa B j e g1 g3 0);simp only[Bt] at z;have aa:e.pr.size≤16000000:=by have:=e.pr_size g2;omega
      have Q:=Ab (Aa B A f P ad 0);simp only[Bt] at Q;have aE:f.pr.size≤16000000:=by have:=f.pr_size ac;omega
      generalize s.name=nm at c1;generalize e.pr=t at z aa h;generalize f.pr=u at Q aE h;have g:=o.alloc o.size (.cells #[.int .i64 2,.string nm,.int .i64 j,.int .i64 A] 51);have p:=Aj.new wr #[.int .i64 2,.string nm,.int .i64 j,.int .i64 A] 51;have y:=E.alloc (.cells #[.int .i64 2,.string nm,.int .i64 j,.int .i64 A] 51);clear E;obtain ⟨v0,v1,az,aA⟩:=DC p;obtain ⟨aB,aC⟩:=JT y;clear I q l J B H S hm g1 g2 g3 O P ac ad;have ba: ¬ ((A:Int) < 0):=by omega
      go_wp2_with fail
      refine (Aa z _ g).mono ?_;rintro r aQ ⟨rfl,F⟩;have M:=g.trans (F.mono g.size);have ab:=p.after F NLN;have aD:=y.after F NLN;obtain ⟨a4,a5,a6,a7⟩:=DC ab;obtain ⟨a8,a9⟩:=JT aD;dsimp only;have aR:(acc ++(⟨#[119,104,101,110,32]⟩ ++t ++⟨#[32,61,62,32]⟩)).size≤40000000000:=by simp only[ByteArray.size_append,aL,aM];omega
      go_wp2_with fail
      refine (Aa Q _ M).mono ?_;rintro r bb ⟨rfl,aF⟩;have aG:=M.trans (aF.mono M.size);dsimp only;have bc:(acc ++(⟨#[119,104,101,110,32]⟩ ++t ++⟨#[32,61,62,32]⟩) ++(⟨#[103,114,97,110,116,32]⟩ ++u)).size≤40000000000:=by simp only[ByteArray.size_append];omega
      go_wp2_with fail
      go_roundw
      case rel=>exact ⟨k+1,Aa C,by rw[Aa h],by go_num,aG⟩
      case measure=>have:=Aa C;simp[intOf];omega
    ·rcases av with k5 | k5
     ·have h:=Ab (show Gj Es (L.take (k+1))=acc ++⟨#[101,108,115,101,32]⟩ ++⟨#[100,101,110,121]⟩ ++⟨#[59,10]⟩ by rw[Aa q,KJ,if_neg (by omega),if_neg (by omega),Rc,if_pos k5];simp only[ByteArray.append_assoc]);rw[l] at T;rw[U] at c2;rw[k5] at c3;generalize s.name=nm at c1;have g:=o.alloc o.size (.cells #[.int .i64 3,.string nm,.int .i64 (-1),.int .i64 (-1)] 51);have p:=Aj.new wr #[.int .i64 3,.string nm,.int .i64 (-1),.int .i64 (-1)] 51;have y:=E.alloc (.cells #[.int .i64 3,.string nm,.int .i64 (-1),.int .i64 (-1)] 51);clear E;obtain ⟨v0,v1,az,aA⟩:=DC p;obtain ⟨aB,aC⟩:=JT y;clear I q l J B H S U k5;go_wp2_with fail
      go_roundw
      case rel=>exact ⟨k+1,Aa C,by rw[Aa h],by go_num,g⟩
      case measure=>have:=Aa C;simp[intOf];omega
     ·obtain ⟨A,f,O,P,ac,ad⟩:=k5;have h:=Ab (show Gj Es (L.take (k+1))=acc ++⟨#[101,108,115,101,32]⟩ ++(⟨#[103,114,97,110,116,32]⟩ ++f.pr) ++⟨#[59,10]⟩ by rw[Aa q,KJ,if_neg (by omega),if_neg (by omega),Rc,if_neg (by omega),O,Fy P];simp only[ByteArray.append_assoc]);rw[l] at T;rw[U] at c2;rw[O] at c3;have Q:=Ab (Aa B A f P ad 0);simp only[Bt] at Q;have aE:f.pr.size≤16000000:=by have:=f.pr_size ac;omega
      generalize s.name=nm at c1;generalize f.pr=u at Q aE h;have g:=o.alloc o.size (.cells #[.int .i64 3,.string nm,.int .i64 (-1),.int .i64 A] 51);have p:=Aj.new wr #[.int .i64 3,.string nm,.int .i64 (-1),.int .i64 A] 51;have y:=E.alloc (.cells #[.int .i64 3,.string nm,.int .i64 (-1),.int .i64 A] 51);clear E;obtain ⟨v0,v1,az,aA⟩:=DC p;obtain ⟨aB,aC⟩:=JT y;clear I q l J B H S U O P ac ad;have ba: ¬ ((A:Int) < 0):=by omega
      go_wp2_with fail
      refine (Aa Q _ g).mono ?_;rintro r bb ⟨rfl,aF⟩;have aG:=g.trans (aF.mono g.size);dsimp only;have bc:(acc ++⟨#[101,108,115,101,32]⟩ ++(⟨#[103,114,97,110,116,32]⟩ ++u)).size≤40000000000:=by simp only[ByteArray.size_append];omega
      go_wp2_with fail
      go_roundw
      case rel=>exact ⟨k+1,Aa C,by rw[Aa h],by go_num,aG⟩
      case measure=>have:=Aa C;simp[intOf];omega
   ·have e:k=m:=by omega
    subst e;have h:=Ab (show Gj Es (L.take k)=Gj Es L by rw[← Aa ai,List.take_length]);rw[Aa h];go_wp2_with fail
    go_ret
    exact ⟨⟨_,rfl,.inr ⟨Aa ap,Es,Aa aX,Aa S,rfl⟩⟩,al.trans (o.mono aU)⟩
end Go.Proofs.YtoplnhndilmlcaaGreatDoor
