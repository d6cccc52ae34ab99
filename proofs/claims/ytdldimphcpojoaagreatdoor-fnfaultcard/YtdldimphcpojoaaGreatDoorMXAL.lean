/-
  Ints0, OWX, Own, OWS, TB, TO, HE, PickH. Own work.
-/
import Derived.Test.YtdldimphcpojoaaGreatDoorMXAA
import Derived.Test.YtdldimphcpojoaaGreatDoorMXAJ
import Derived.Deep.Draws
import Derived.Laws.AppendOwn
import Derived.Test.YtdldimphcpojoaaGreatDoorMXAK
import Derived.Test.YtdldimphcpojoaaGreatDoorMXAG
import Derived.Test.YtdldimphcpojoaaGreatDoorMXAE
namespace Go.Proofs.YtdldimphcpojoaaGreatDoor
open Go.RowKit
set_option linter.unusedVariables false
structure Jj (w:World) (a:Option Addr) (n c:Nat) (L:List Int):Prop where
 len:L.length=n
 small:n≤1048576
 cells:∀ j,(h:j < L.length)→∃ b off,a=some ⟨b,off,none⟩∧b < w.heap.size∧w.cell? ⟨b,off+j,none⟩=some (.int .i64 L[j])
theorem Jj.below {w w':World}{B:Nat}{a:Option Addr}{n c:Nat}{L:List Int}(h:Jj w a n c L)(d:Below B w w')(l:w.heap.size≤B):Jj w' a n c L:=
 ⟨h.len,h.small,fun j g=>by
  obtain ⟨b,f,i,hl,k⟩:=h.cells j g;exact ⟨b,f,i,Nat.lt_of_lt_of_le hl d.size,(d.cell (p:=⟨b,f+j,none⟩) (by show b < B;omega)).trans k⟩⟩
theorem Cd {w w':World}{a:Nat}{e:TypeId}{size:Nat}{v:Value}{n B:Nat}{b:List Value}(h:w.ownsRow a e size v n b)(c:Below B w w')(d:w.heap.size≤B):w'.ownsRow a e size v n b:=by
 refine ⟨h.1, ?_⟩;rcases h.2 with f | ⟨g,cap,i,j,h1,h2,h3⟩
 ·exact .inl f
 ·exact .inr ⟨g,cap,i,j,h1,(c.block g (Nat.lt_of_lt_of_le (Array.getElem?_eq_some_iff.1 h2).1 d)).trans h2,h3⟩
theorem Ah {w:World}{a e size n:Nat}{v:Value}{b:List Value}(h:w.ownsRow a e size v n b):∃ x c,v= .slice x n c∧(0 < n→∃ g,x=some ⟨g,0,none⟩∧a≤g∧∀ j u,b[j]? =some u→w.cell? ⟨g,j,none⟩=some u):=by
 rcases h.2 with ⟨rfl,rfl⟩ | ⟨g,cap,i,rfl,d,_⟩
 ·exact ⟨_,_,rfl,fun h=>absurd h (by omega)⟩
 ·refine ⟨_,_,rfl,fun _=>⟨g,rfl,d,fun j u hu=>?_⟩⟩;have:=h.cells (g:=g) rfl j u hu;have f:(⟨g,0,none⟩:Addr).add j=⟨g,j,none⟩:=by unfold Addr.add;split <;> simp_all
  rwa[f] at this
theorem Iy {w w':World}{a:Nat}{e:TypeId}{size n:Nat}{v:Value}{b:List Value}(h:w.ownsRow a e size v n b)(d:∀ q,v.ownBlock=some q→w'.heap[q]? =w.heap[q]?):w'.ownsRow a e size v n b:=by
 refine ⟨h.1, ?_⟩;rcases h.2 with h2 | ⟨g,cap,f,c,h3,i,h4⟩
 ·exact .inl h2
 ·exact .inr ⟨g,cap,f,c,h3,(d g (by rw[c];rfl)).trans i,h4⟩
theorem Gc {w:World}{a:Nat}{e:TypeId}{size n:Nat}{v:Value}{b:List Value}(h:w.ownsRow a e size v n b)(p:Addr)(u:Value)(c:∀ q,v.ownBlock=some q→q≠p.block):(w.setCell p u).ownsRow a e size v n b:=
 Iy h (fun q hq=>heap_setCell_other w p q u (c q hq))
theorem Ad {w:World}{B a n size:Nat}{e T:TypeId}{v:Value}{c:List Value}{cs:Array Value}(R:An w a cs T)(h:w.ownsRow B e size v n c)(d:T≠e):v.ownBlock≠some a:=fun hq=>by
 rcases h.2 with ⟨b,_⟩ | ⟨g,cap,i,b,_,f,_⟩
 ·rw[b] at hq;cases hq
 ·rw[b] at hq;obtain rfl:g=a:=by simpa[Value.ownBlock] using hq
  have:=R.out.symm.trans f;simp at this;exact d this.2
theorem Ai.wide {l h lo hi:Nat}{w w':World}(t:Ai l h w w')(a:(l=0∧h=0)∨(lo≤l∧h≤hi)):Ai lo hi w w':=
 ⟨t.os,t.tape,t.output,t.size,fun k hk b=>t.block k hk (by omega)⟩
set_option maxHeartbeats 3200000
theorem Jn (s:ByteArray)(k:Nat)(h:k < s.size)(a:(s[k].toNat:Int)=32∨(s[k].toNat:Int)=10∨(s[k].toNat:Int)=9):Ce false ((Ak s).drop k)=Ce false ((Ak s).drop (k+1)):=by
 rw[BJ s k h,Ce,if_pos];rcases a with h | h | h
 ·exact .inl (UInt8.toNat_inj.1 (by have:(32 :UInt8).toNat=32:=rfl;omega))
 ·exact .inr (.inl (UInt8.toNat_inj.1 (by have:(10 :UInt8).toNat=10:=rfl;omega)))
 ·exact .inr (.inr (UInt8.toNat_inj.1 (by have:(9 :UInt8).toNat=9:=rfl;omega)))
theorem Yd {c:UInt8}(h1: ¬ (c.toNat:Int)=32)(h2: ¬ (c.toNat:Int)=10)(h3: ¬ (c.toNat:Int)=9): ¬ (c=32∨c=10∨c=9):=by
 rintro (h | h | h)
 ·subst h;exact h1 rfl
 ·subst h;exact h2 rfl
 ·subst h;exact h3 rfl
theorem Pv (s:ByteArray)(k:Nat)(h:k < s.size)(a:(s[k].toNat:Int)=35):Ce false ((Ak s).drop k)=Ce true ((Ak s).drop k):=by
 have e:s[k]=35:=UInt8.toNat_inj.1 (by have:(35 :UInt8).toNat=35:=rfl;omega);rw[BJ s k h,e];generalize (Ak s).drop (k+1)=r;simp[Ce]
theorem Ms (s:ByteArray)(k:Nat)(h:k < s.size)(h1: ¬ (s[k].toNat:Int)=32)(h2: ¬ (s[k].toNat:Int)=10)(h3: ¬ (s[k].toNat:Int)=9)(h4: ¬ (s[k].toNat:Int)=35):Ce false ((Ak s).drop k)=(Ak s).drop k:=by
 rw[BJ s k h,Ce,if_neg (Yd h1 h2 h3),if_neg (fun e=>h4 (by rw[e];rfl))]
theorem Rl (s:ByteArray)(k:Nat)(h:k < s.size)(h1: ¬ (s[k].toNat:Int)=10):Ce true ((Ak s).drop k)=Ce true ((Ak s).drop (k+1)):=by
 rw[BJ s k h,Ce,if_neg (fun e=>h1 (by rw[e];rfl))]
theorem VR (s:ByteArray)(k:Nat)(h:k < s.size)(h1:(s[k].toNat:Int)=10):Ce true ((Ak s).drop k)=Ce false ((Ak s).drop k):=by
 have e:s[k]=10:=UInt8.toNat_inj.1 (by have:(10 :UInt8).toNat=10:=rfl;omega);rw[BJ s k h,e];generalize (Ak s).drop (k+1)=r;simp[Ce]
theorem J9 (a:Bool)(s:ByteArray)(k:Nat)(h:s.size≤k):Ce a ((Ak s).drop k)= []:=by
 rw[List.drop_of_length_le (by rw[As];exact h)];cases a <;> rfl
theorem JR (s:ByteArray)(j:Nat)(w:World)(hs:s.size≤maxLen)(l:j≤s.size):
  Calls Tryz.prog 25 #[.string s,.int .i64 j] w fun e w'=>(∃ k:Nat,e= .returned (.int .i64 k)∧j≤k∧k≤s.size∧Ce false ((Ak s).drop j)=(Ak s).drop k∧Ce false ((Ak s).drop k)=(Ak s).drop k)∧w'=w:=by
 unfold maxLen at hs;go_enter Tryz.func25,Tryz.ntmps25
 go_wp2
 go_loop [1] (fun i=>∃ k:Nat,j≤k∧k≤s.size∧i= .int .i64 k∧Ce false ((Ak s).drop j)=Ce false ((Ak s).drop k)) (fun i=>s.size - (intOf i).toNat)
 case atStart=>exact ⟨j,NLN,l,rfl,rfl⟩
 case round=>
  obtain ⟨k,g,hk,rfl,he⟩:=hrel;have b:=Ab he;clear he;by_cases c:k < s.size
  ·have m:(k:Int) < (s.size:Int):=by omega
   by_cases h1:(s[k].toNat:Int)=32
   ·have a:=Ab (Jn s k c (.inl h1));go_wp2
    go_round
    case rel=>exact ⟨k+1,by omega,by omega,by go_num,by rw[Aa b,Aa a]⟩
    case measure=>simp[intOf];omega
   by_cases h2:(s[k].toNat:Int)=10
   ·have a:=Ab (Jn s k c (.inr (.inl h2)));go_wp2
    go_round
    case rel=>exact ⟨k+1,by omega,by omega,by go_num,by rw[Aa b,Aa a]⟩
    case measure=>simp[intOf];omega
   by_cases h3:(s[k].toNat:Int)=9
   ·have a:=Ab (Jn s k c (.inr (.inr h3)));go_wp2
    go_round
    case rel=>exact ⟨k+1,by omega,by omega,by go_num,by rw[Aa b,Aa a]⟩
    case measure=>simp[intOf];omega
   by_cases h4:(s[k].toNat:Int)=35
   ·have a:=Ab (Pv s k c h4);have Hi:=Ab (Rl s k c h2);go_wp2
    go_loop [1] (fun i=>∃ q:Nat,k≤q∧q≤s.size∧i= .int .i64 q∧Ce true ((Ak s).drop k)=Ce true ((Ak s).drop q)) (fun i=>s.size - (intOf i).toNat)
    case atStart=>exact ⟨k,NLN,hk,rfl,rfl⟩
    case round=>
     obtain ⟨q,o,hq,rfl,hi⟩:=hrel;have f:=Ab hi;clear hi;by_cases h:q < s.size
     ·have n:(q:Int) < (s.size:Int):=by omega
      by_cases h10:(s[q].toNat:Int)=10
      ·have d:=Ab (VR s q h h10);have p:q≠k:=fun e=>by subst e;omega
       go_wp2
       go_round
       case rel=>exact ⟨q,by omega,by omega,by go_num,by rw[Aa b,Aa a,Aa f,Aa d]⟩
       case measure=>simp[intOf];omega
      ·have d:=Ab (Rl s q h h10);go_wp2
       go_round
       case rel=>exact ⟨q+1,by omega,by omega,by go_num,by rw[Aa f,Aa d]⟩
       case measure=>simp[intOf];omega
     ·have n: ¬ ((q:Int) < (s.size:Int)):=by omega
      have d:=Ab ((J9 true s q (by omega)).trans (J9 false s q (by omega)).symm);go_wp2
      go_round
      case rel=>exact ⟨q,by omega,by omega,by go_num,by rw[Aa b,Aa a,Aa f,Aa d]⟩
      case measure=>simp[intOf];omega
   ·have a:=Ab (Ms s k c h1 h2 h3 h4);have e1:=beq_eq_false_iff_ne.2 h1;have e2:=beq_eq_false_iff_ne.2 h2;have e3:=beq_eq_false_iff_ne.2 h3;have e4:=beq_eq_false_iff_ne.2 h4;go_wp2
    go_ret
    exact ⟨⟨k,rfl,g,hk,by rw[Aa b,Aa a],Aa a⟩,rfl⟩
  ·have m: ¬ ((k:Int) < (s.size:Int)):=by omega
   have a:=Ab (J9 false s k (by omega));go_wp2
   go_ret
   have e:(Ak s).drop k= []:=List.drop_of_length_le (by rw[As];omega);exact ⟨⟨k,rfl,g,hk,by rw[Aa b,Aa a,e],by rw[Aa a,e]⟩,rfl⟩
set_option maxRecDepth 100000
set_option maxHeartbeats 6400000
def D0 (j:Nat) (o:L3) (e:Ending):Prop:=match o with
 | .bad c=>∃ (k m n:Int) (x:ByteArray),e= .returned (.tuple #[.agg #[.int .i64 k,.int .i64 m,.string x,.int .i64 (j:Int)],.int .i64 n,.int .i64 c])
 | .tok k m t w=>e= .returned (.tuple #[.agg #[.int .i64 k,.int .i64 m,.string (Ax t),.int .i64 (j:Int)],.int .i64 ((j+w:Nat):Int),.int .i64 0])
theorem Nv (s:ByteArray)(j e:Nat):s.extract j e=Ax (((Ak s).drop j).take (e - j)):=by
 rw[← Bk,BE]
theorem Gw (w:World)(j:Nat):∃ a,((w.alloc (.cells #[.int .i64 0,.int .i64 0,.string ⟨#[]⟩,.int .i64 0] 41)).alloc (.cells #[.int .i64 0,.int .i64 0,.string ⟨#[]⟩,.int .i64 j] 41))=a∧An a w.heap.size #[.int .i64 0,.int .i64 0,.string ⟨#[]⟩,.int .i64 0] 41∧An a (w.heap.size+1) #[.int .i64 0,.int .i64 0,.string ⟨#[]⟩,.int .i64 j] 41∧Below w.heap.size w a∧a.heap.size=w.heap.size+2:=by
 refine ⟨_,rfl,(An.new w _ _).alloc _, ?_,((Below.refl w.heap.size w).alloc NLN _).alloc (by simp) _,by simp⟩;have:=An.new (w.alloc (.cells #[.int .i64 0,.int .i64 0,.string ⟨#[]⟩,.int .i64 0] 41)) #[.int .i64 0,.int .i64 0,.string ⟨#[]⟩,.int .i64 j] 41;simpa using this
theorem AE {w:World}{b:Nat}{a c d f:Value}{t:TypeId}(R:An w b #[a,c,d,f] t):w.cell? ⟨b,0,none⟩=some a∧w.cell? ⟨b,1,none⟩=some c∧w.cell? ⟨b,2,none⟩=some d∧w.cell? ⟨b,3,none⟩=some f∧∀ j,w.frozen? ⟨b,j,none⟩=false:=
 ⟨by simpa using R.cell 0,by simpa using R.cell 1,by simpa using R.cell 2,by simpa using R.cell 3,fun j=>R.frozen j⟩
theorem Au {d:Func}{a t u:Tmp}(h:d.results= #[.cell a 41,.tmp t,.tmp u]){c:Array Value}{w:World}{b:Nat}{f g i j:Value}(k:c.getD a undef= .pointer (some ⟨b,0,none⟩))
  (l:w.cell? ⟨b,0,none⟩=some f)(g1:w.cell? ⟨b,1,none⟩=some g)(g2:w.cell? ⟨b,2,none⟩=some i)(g3:w.cell? ⟨b,3,none⟩=some j):
  (results d c).run Tryz.prog w= .ok (.tuple #[.agg #[f,g,i,j],c.getD t undef,c.getD u undef]) w:=by
 rw[Array.getD_eq_getD_getElem?] at k;simp[results,h,k,go_sem,l,g1,g2,g3]
theorem Ro (s:ByteArray)(j:Nat)(w:World)(hs:s.size≤1048576)(A:j < s.size)(hl:IG (s[j].toNat:Int)=true):
  Calls Tryz.prog 26 #[.string s,.int .i64 j] w fun e w'=>D0 j (Bn ((Ak s).drop j)) e∧Below w.heap.size w w':=by
 have J:(j:Int) < (s.size:Int):=by omega
 obtain ⟨B,C⟩:=SE (p:=Ed) (s:=s) (Nat.le_of_lt A);have i:=Ab (DM Ed s j);obtain ⟨K,E,d,k,u,L⟩:=Gw w j;have F:=Ab hl;clear hl;go_enter Tryz.func26,Tryz.ntmps26
 go_wp2_with (go_at_call 48;refine (AG _ _).mono ?_;rintro e w' ⟨rfl,f⟩;rw[Aa F,f];clear f)
 clear E;refine (Js s j _ (by unfold maxLen;omega) (by omega)).mono ?_;rintro e H ⟨rfl,rfl⟩;generalize Dj Ed s j=a at B C i ⊢;have M:(j:Int)≤(a:Int):=by omega
 have N:(a:Int)≤(s.size:Int):=by omega
 obtain ⟨v,c1,c2,c3,y⟩:=AE k;have l:=(k.set 2 (.string (s.extract j a))).set 0 (.int .i64 3);have q:=(d.setFar (p:=⟨w.heap.size+1,2,none⟩) (by show w.heap.size≠w.heap.size+1;omega) (.string (s.extract j a))).setFar (p:=⟨w.heap.size+1,0,none⟩) (by show w.heap.size≠w.heap.size+1;omega) (.int .i64 3);have m:=(u.setCell (p:=⟨w.heap.size+1,2,none⟩) (by show w.heap.size≤w.heap.size+1;omega) (.string (s.extract j a))).setCell (p:=⟨w.heap.size+1,0,none⟩) (by show w.heap.size≤w.heap.size+1;omega) (.int .i64 3);simp only[List.setIfInBounds_toArray,List.set_cons_succ,List.set_cons_zero] at l;have z:=Ab (Nv s j a);have O:(s.extract j a).size=a - j:=by rw[ByteArray.size_extract];omega
 go_wp2_with fail
 generalize (H.setCell ⟨w.heap.size+1,2,none⟩ (.string (s.extract j a))).setCell ⟨w.heap.size+1,0,none⟩ (.int .i64 3)=P at l q m ⊢;clear d k u v c1 c2 c3 y;generalize s.extract j a=x at *;refine (Lo x _).mono ?_;rintro e Q ⟨rfl,n⟩;have k:=l.after n NLN;have d:=q.after n NLN;have o:=m.trans (n.mono m.size);clear l q m n;obtain ⟨R,d1,d2,d3,S⟩:=AE d;obtain ⟨v,c1,c2,c3,y⟩:=AE k;cases f:Gb (Ak x)
 ·have r:=Ab f;clear f;by_cases I: 32 < a - j
  ·have t:((32 :Int) < (x.size:Int)):=by omega
   go_wp2_with fail
   have g:=Aj (b:=w.heap.size) o NLN (.int .i64 3) (.int .i64 0) (.string x) (.int .i64 j);obtain ⟨c,g1,g2,g3,_⟩:=AE (Aw d (.int .i64 3) (.int .i64 0) (.string x) (.int .i64 j));simp only[BN] at c g1 g2 g3;refine bodyPost_ret (Au Tryz.results26 rfl c g1 g2 g3) rfl ⟨?_,g⟩;have h: 32 < AK Ed ((Ak s).drop j):=by have:=Aa i;omega
   rw[Bn,if_pos h];exact ⟨_,_,_,_,rfl⟩
  ·have t: ¬ ((32 :Int) < (x.size:Int)):=by omega
   go_wp2_with fail
   have g:=Aj (b:=w.heap.size) o NLN (.int .i64 3) (.int .i64 0) (.string x) (.int .i64 j);obtain ⟨c,g1,g2,g3,_⟩:=AE (Aw d (.int .i64 3) (.int .i64 0) (.string x) (.int .i64 j));simp only[BN] at c g1 g2 g3;refine bodyPost_ret (Au Tryz.results26 rfl c g1 g2 g3) rfl ⟨?_,g⟩;have h:AK Ed ((Ak s).drop j)=a - j:=by have:=Aa i;omega
   rw[Bn,h,if_neg (by omega),← Do (((Ak s).drop j).take (a - j)),← Aa z,Aa r];simp only[D0,BE];rw[show j+(a - j)=a by omega];rfl
 ·have r:=Ab f;clear f;by_cases I: 32 < a - j
  ·have t:((32 :Int) < (x.size:Int)):=by omega
   go_wp2_with fail
   have g:=Aj (b:=w.heap.size) (o.setCell (p:=⟨w.heap.size+1,0,none⟩) (by show w.heap.size≤w.heap.size+1;omega) (.int .i64 4)) NLN (.int .i64 4) (.int .i64 0) (.string x) (.int .i64 j);obtain ⟨c,g1,g2,g3,_⟩:=AE (Aw (d.setFar (p:=⟨w.heap.size+1,0,none⟩) (by show w.heap.size≠w.heap.size+1;omega) (.int .i64 4)) (.int .i64 4) (.int .i64 0) (.string x) (.int .i64 j));simp only[BN] at c g1 g2 g3;refine bodyPost_ret (Au Tryz.results26 rfl c g1 g2 g3) rfl ⟨?_,g⟩;have h: 32 < AK Ed ((Ak s).drop j):=by have:=Aa i;omega
   rw[Bn,if_pos h];exact ⟨_,_,_,_,rfl⟩
  ·have t: ¬ ((32 :Int) < (x.size:Int)):=by omega
   go_wp2_with fail
   have g:=Aj (b:=w.heap.size) (o.setCell (p:=⟨w.heap.size+1,0,none⟩) (by show w.heap.size≤w.heap.size+1;omega) (.int .i64 4)) NLN (.int .i64 4) (.int .i64 0) (.string x) (.int .i64 j);obtain ⟨c,g1,g2,g3,_⟩:=AE (Aw (d.setFar (p:=⟨w.heap.size+1,0,none⟩) (by show w.heap.size≠w.heap.size+1;omega) (.int .i64 4)) (.int .i64 4) (.int .i64 0) (.string x) (.int .i64 j));simp only[BN] at c g1 g2 g3;refine bodyPost_ret (Au Tryz.results26 rfl c g1 g2 g3) rfl ⟨?_,g⟩;have h:AK Ed ((Ak s).drop j)=a - j:=by have:=Aa i;omega
   rw[Bn,h,if_neg (by omega),← Do (((Ak s).drop j).take (a - j)),← Aa z,Aa r];simp only[D0,BE];rw[show j+(a - j)=a by omega];rfl
def Sy.wt:Sy→Nat
 | .policy=>3 | .decision=>1 | .expr=>6 | .orMore=>1 | .and_=>5 | .andMore=>1 | .not_=>4 | .compared=>1 | .sum=>3 | .sumMore=>1
 | .term=>2 | .termMore=>1 | .unary=>1 | .primary=>1 | .scopes=>2 | .scopesMore=>1 | .scope=>1 | .t _=>1
def LH:List Sy→Nat
 | []=>0
 | x ::st=>x.wt+LH st
theorem Ng:∀ (a b:List Sy),LH (a ++b)=LH a+LH b
 | [],b=>by simp[LH]
 | x ::a,b=>by rw[List.cons_append,LH,LH,Ng a b];omega
theorem Sm:∀ (st:List Sy),st.length≤LH st
 | []=>by simp[LH]
 | x ::st=>by
  have:=Sm st;have h1: 1≤x.wt:=by cases x <;> simp[Sy.wt]
  rw[List.length_cons,LH];omega
theorem XZ {x:Sy}{t:List UInt8}{m:List Sy}(h:Ae x t=some m):LH m≤x.wt∨(t≠ []∧(∃ a,m= .t t ::a)∧LH m≤x.wt+15):=by
 cases x with
 | t s=>cases h
 | scope=>cases h
 | and_=>cases h;left;decide
 | sum=>cases h;left;decide
 | term=>cases h;left;decide
 | policy=>
  simp only[Ae] at h;split at h
  ·rename_i e;cases h;subst e;right;exact ⟨by decide,⟨_,rfl⟩,by decide⟩
  ·split at h
   ·rename_i e;cases h;subst e;right;exact ⟨by decide,⟨_,rfl⟩,by decide⟩
   ·cases h;left;decide
 | decision=>
  simp only[Ae] at h;split at h
  ·rename_i e;cases h;subst e;right;exact ⟨by decide,⟨_,rfl⟩,by decide⟩
  ·cases h;left;decide
 | expr=>
  simp only[Ae] at h;split at h
  ·rename_i e;cases h;subst e;right;exact ⟨by decide,⟨_,rfl⟩,by decide⟩
  ·cases h;left;decide
 | orMore=>
  simp only[Ae] at h;split at h
  ·rename_i e;cases h;subst e;right;exact ⟨by decide,⟨_,rfl⟩,by decide⟩
  ·cases h;left;decide
 | andMore=>
  simp only[Ae] at h;split at h
  ·rename_i e;cases h;subst e;right;exact ⟨by decide,⟨_,rfl⟩,by decide⟩
  ·cases h;left;decide
 | not_=>
  simp only[Ae] at h;split at h
  ·rename_i e;cases h;subst e;right;exact ⟨by decide,⟨_,rfl⟩,by decide⟩
  ·cases h;left;decide
 | compared=>
  simp only[Ae] at h;split at h
  ·rename_i e;cases h;right;exact ⟨fun h0=>(by rw[h0] at e;revert e;decide),⟨_,rfl⟩,by simp[LH,Sy.wt]⟩
  ·cases h;left;decide
 | sumMore=>
  simp only[Ae] at h;split at h
  ·rename_i e;cases h;right;exact ⟨fun h0=>(by rw[h0] at e;revert e;decide),⟨_,rfl⟩,by simp[LH,Sy.wt]⟩
  ·cases h;left;decide
 | termMore=>
  simp only[Ae] at h;split at h
  ·rename_i e;cases h;right;exact ⟨fun h0=>(by rw[h0] at e;revert e;decide),⟨_,rfl⟩,by simp[LH,Sy.wt]⟩
  ·cases h;left;decide
 | unary=>
  simp only[Ae] at h;split at h
  ·rename_i e;cases h;subst e;right;exact ⟨by decide,⟨_,rfl⟩,by decide⟩
  ·cases h;left;decide
 | primary=>
  simp only[Ae] at h;split at h
  ·rename_i e;cases h;subst e;right;exact ⟨by decide,⟨_,rfl⟩,by decide⟩
  ·split at h
   ·rename_i e;cases h;subst e;right;exact ⟨by decide,⟨_,rfl⟩,by decide⟩
   ·split at h
    ·rename_i e;cases h;subst e;right;exact ⟨by decide,⟨_,rfl⟩,by decide⟩
    ·split at h
     ·cases h;left;simp[LH,Sy.wt]
     ·cases h;left;decide
 | scopes=>
  simp only[Ae] at h;split at h
  ·cases h;left;decide
  ·cases h;left;decide
 | scopesMore=>
  simp only[Ae] at h;split at h
  ·rename_i e;cases h;subst e;right;exact ⟨by decide,⟨_,rfl⟩,by decide⟩
  ·cases h;left;decide
def Nh (B:Nat) (st:List Sy) (ts:List Af):Prop:=
 LH st+14 * ts.length≤B∨(ts≠ []∧(∃ st',st= .t (G8 ts) ::st')∧LH st+14 * ts.length≤B+15)
theorem Nh.len {B:Nat}{st:List Sy}{a:List Af}(h:Nh B st a):st.length≤B+15:=by
 have:=Sm st;rcases h with h | ⟨_,_,h⟩ <;> omega
theorem Nh.exp {B:Nat}{x:Sy}{st m:List Sy}{a:List Af}(h:Nh B (x ::st) a)(he:Ae x (G8 a)=some m):Nh B (m ++st) a:=by
 have h1:LH (x ::st)+14 * a.length≤B:=by
  rcases h with h | ⟨_,⟨c,e⟩,_⟩
  ·exact h
  ·injection e with e1 e2;rw[e1] at he;cases he
 rw[LH] at h1;rcases XZ he with h2 | ⟨h2,⟨b,h3⟩,h4⟩
 ·exact .inl (by rw[Ng];omega)
 ·refine .inr ⟨fun e=>h2 (by rw[e];rfl),⟨b ++st,by rw[h3];rfl⟩,by rw[Ng];omega⟩
theorem Nh.pop {B:Nat}{x:Sy}{st:List Sy}{t:Af}{r:List Af}(h:Nh B (x ::st) (t ::r)):Nh B st r:=by
 have hx: 1≤x.wt:=by cases x <;> simp[Sy.wt]
 refine .inl ?_;rcases h with h | ⟨_,_,h⟩ <;> (rw[LH,List.length_cons] at h;omega)
def WL:Sy→Prop
 | .t s=>s∈Ck∨s=Kk∨s=EC∨s=DW
 | _=>True
instance (x:Sy):Decidable (WL x):=by cases x <;> (unfold WL;infer_instance)
theorem Ve {x:Sy}{t:List UInt8}{m:List Sy}(h:Ae x t=some m):∀ y∈m,WL y:=by
 have a:∀ k,t∈AW k→WL (.t t):=fun k hk=> .inl (Id hk);cases x with
 | t s=>cases h
 | scope=>cases h
 | and_=>cases h;decide
 | sum=>cases h;decide
 | term=>cases h;decide
 | compared=>
  simp only[Ae] at h;split at h
  ·rename_i e;cases h;intro y hy;simp only[List.mem_cons,List.mem_nil_iff,or_false] at hy;rcases hy with rfl | rfl;exact a _ e;trivial
  ·cases h;decide
 | sumMore=>
  simp only[Ae] at h;split at h
  ·rename_i e;cases h;intro y hy;simp only[List.mem_cons,List.mem_nil_iff,or_false] at hy;rcases hy with rfl | rfl | rfl;exact a _ e;trivial;trivial
  ·cases h;decide
 | termMore=>
  simp only[Ae] at h;split at h
  ·rename_i e;cases h;intro y hy;simp only[List.mem_cons,List.mem_nil_iff,or_false] at hy;rcases hy with rfl | rfl | rfl;exact a _ e;trivial;trivial
  ·cases h;decide
 | primary=>
  simp only[Ae] at h;split at h
  ·cases h;decide
  ·split at h
   ·cases h;decide
   ·split at h
    ·cases h;decide
    ·split at h
     ·rename_i e;cases h;intro y hy;rw[List.mem_singleton.1 hy];rcases e with rfl | rfl | rfl | rfl <;> decide
     ·cases h;decide
 | policy=>
  simp only[Ae] at h;split at h
  ·cases h;decide
  ·split at h <;> (cases h;decide)
 | _=>
  simp only[Ae] at h;split at h <;> (cases h;decide)
def Vf (T:List Af):Option (List Af)→Int
 | none=>-1
 | some q=>(T.length:Int) - (q.length:Int)
set_option maxHeartbeats 800000
theorem TB (a:Option Addr)(n c:Nat)(d:List ByteArray)(s:ByteArray)(w:World)(h:Bg w a n c d):
  Calls Tryz.prog 82 #[.slice a n c,.string s] w fun e w'=>e= .returned (.bool (QK d s))∧w'=w:=by
 have r:n≤9223372036854775807:=by have:=h.cap;have:=h.small;unfold maxLen at this;omega
 go_enter Tryz.func82,Tryz.ntmps82
 go_wp2
 go_loop [6,9] (fun _ i=>∃ k:Nat,k≤n∧i= .int .i64 k∧∀ j,j < k→Xw (EP d j) s=false) (fun _ i=>n - (intOf i).toNat)
 case atStart=>exact ⟨0,Nat.zero_le _,rfl,fun j f=>by omega⟩
 case round=>
  obtain ⟨k,hk,rfl,g⟩:=hrel;have l:=Ab g;clear g;by_cases o:k < n
  ·obtain ⟨b,t,p,_,hc⟩:=h.cells k o;subst p;cases m:((EP d k).toList== s.toList)
   ·go_wp2
    go_round
    case rel=>
     refine ⟨k+1,by omega,by go_num,fun j f=>?_⟩
     by_cases e:j=k
     ·subst e;exact m
     ·exact Aa l j (by omega)
    case measure=>simp[intOf];omega
   ·have q:=Ab (WX d s k (by have:=h.len;omega) m);go_wp2
    go_ret
    exact ⟨Ay (Aa q).symm,rfl⟩
  ·go_wp2
   go_ret
   exact ⟨Ay (Ua d s fun j f=>Aa l j (by have:=h.len;omega)).symm,rfl⟩
end Go.Proofs.YtdldimphcpojoaaGreatDoor
