/-
  ZA, ZB, JA, QS0, MemS, APS, WD, TG. Own work.
-/
import Derived.Test.YtchakjeegneeoaaGreatDoorMXAD
import Derived.Test.YtchakjeegneeoaaGreatDoorMXAH
import Derived.Test.YtchakjeegneeoaaGreatDoorMXAM
import Derived.Test.YtchakjeegneeoaaGreatDoorMXAE
import Derived.Test.YtchakjeegneeoaaGreatDoorMXAC
import Derived.Test.YtchakjeegneeoaaGreatDoorMXAB
import Derived.Laws.AppendOwnNone
import Derived.Test.YtchakjeegneeoaaGreatDoorMXAF
import Derived.Lib.SmallJoins
namespace Go.Proofs.YtchakjeegneeoaaGreatDoor
set_option maxRecDepth 100000
set_option maxHeartbeats 6400000
open Go.RowKit
set_option linter.unusedVariables false
def DB (op:Int):List Int × Int:=
 if op=1 then ([],2)
 else if op=2 then ([],3)
 else if op=3 then ([],1)
 else if op=4 then ([],4)
 else if op=8 then ([2],2)
 else if op=9 then ([1],1)
 else if op=10 then ([4],2)
 else if op=11 then ([2,2],2)
 else if op=12 then ([2,2],2)
 else if op=13 then ([2,2],2)
 else if op=14 then ([2,2],2)
 else if op=15 then ([2,2],2)
 else if op=16 then ([4,4],4)
 else if op=17 then ([4,4],4)
 else if op=18 then ([4,4],4)
 else if op=19 then ([0,0],1)
 else if op=20 then ([0,0],1)
 else if op=21 then ([2,2],1)
 else if op=22 then ([2,2],1)
 else if op=23 then ([3,4],1)
 else if op=24 then ([4,4],1)
 else if op=25 then ([1,1],1)
 else if op=26 then ([1,1],1)
 else if op=27 then ([1,0,0],0)
 else ([1,0,0],0)
theorem Abl (w:World)(t:TypeId)(L:List Int)(a:L.length≤1048576):BT (w.alloc (.cells (L.map (Value.int .i64)).toArray t)) (some ⟨w.heap.size,0,none⟩) L.length L.length L:=by
 refine ⟨rfl,a,fun j b=>⟨w.heap.size,0,rfl,by simp, ?_⟩⟩;rw[zX,(Al.new w (L.map (Value.int .i64)).toArray t).cell j];simp[b]
theorem Y4 (w:World):BT w none 0 0 []:=⟨rfl,by omega,fun j h=>absurd h (by simp)⟩
def G8 (op:Int):Prop:=(1≤op∧op≤4)∨(8≤op∧op≤27)
def Abm (op:Int) (w:World) (r:Ending) (w':World):Prop:=(∃ x n c,r= .returned (.tuple #[.slice x n c,.int .i64 (DB op).2])∧BT w' x n c (DB op).1)∧Below w.heap.size w w'
theorem AdU {a:Func}{b:Array Value}{w:World}{t:TypeId}(op:Int)(c:∀ V:World,(results a b).run Tryz.prog V= .ok (.tuple #[.slice (some ⟨w.heap.size,0,none⟩) (DB op).1.length (DB op).1.length,.int .i64 (DB op).2]) V)(d:(DB op).1.length≤3):bodyPost Tryz.prog a (Abm op w) Exit.ret { tmps:=b,defers:= [] } (w.alloc (.cells ((DB op).1.map (Value.int .i64)).toArray t)):=
 bodyPost_ret (c _) rfl ⟨⟨_,_,_,rfl,Abl w t _ (by omega)⟩,(Below.refl w.heap.size w).alloc NLN _⟩
theorem Y5 (op:Int)(h:G8 op)(w:World):Calls Tryz.prog 135 #[.int .i64 op] w (Abm op w):=by
 have h:op=1∨op=2∨op=3∨op=4∨op=8∨op=9∨op=10∨op=11∨op=12∨op=13∨op=14∨op=15∨op=16∨op=17∨op=18∨op=19∨op=20∨op=21∨op=22∨op=23∨op=24∨op=25∨op=26∨op=27:=by unfold G8 at h;omega
 rcases h with rfl | rfl | rfl | rfl | h
 case' inr.inr.inr.inr=>
  rcases h with rfl | rfl | rfl | rfl | rfl | rfl | rfl | rfl | rfl | rfl | rfl | rfl | rfl | rfl | rfl | rfl | rfl | rfl | rfl | rfl
  all_goals
   go_enter Tryz.func135,Tryz.ntmps135
   go_wp2_with fail
   exact AdU _ (fun V=>by simp[results,Tryz.results135,go_sem,DB]) (by decide)
 all_goals
  go_enter Tryz.func135,Tryz.ntmps135
  go_wp2_with fail
  exact bodyPost_ret (v:= .tuple #[.slice none 0 0,.int .i64 (DB _).2]) (by simp[results,Tryz.results135,go_sem,DB]) rfl ⟨⟨_,_,_,rfl,Y4 w⟩,BRN⟩
set_option maxHeartbeats 1600000
theorem NB (n:Int)(w:World):Calls Tryz.prog 105 #[.int .i64 n] w fun r w'=>r= .returned (.int .i64 (Dk n))∧w'=w:=by
 by_cases h1:n < 2
 ·have a:=Ab (show Dk n=3 by rw[Dk,if_pos h1]);go_enter Tryz.func105,Tryz.ntmps105
  go_wp2_with fail
  go_ret
  exact ⟨by rw[Aa a];rfl,rfl⟩
 by_cases h2:n < 4
 ·have a:=Ab (show Dk n=2 by rw[Dk,if_neg h1,if_pos h2]);go_enter Tryz.func105,Tryz.ntmps105
  go_wp2_with fail
  go_ret
  exact ⟨by rw[Aa a];rfl,rfl⟩
 ·have a:=Ab (show Dk n=4 by rw[Dk,if_neg h1,if_neg h2]);go_enter Tryz.func105,Tryz.ntmps105
  go_wp2_with fail
  go_ret
  exact ⟨by rw[Aa a];rfl,rfl⟩
def EZ:Int→List Int→List Int→Option Int
 |any, [],_=>some any
 |any,w ::ws,ks=>match ks with
  | []=>none
  |k ::ks=>if w=0 then (if any=0 then EZ k ws ks else if k=any then EZ any ws ks else none) else if k=w then EZ any ws ks else none
def Cr (op:Int) (K:List Int):Int:=match EZ 0 (DB op).1 K with
 |none=>0
 |some any=>if (DB op).2=0 then any else (DB op).2
theorem Xn {any:Int}{W K:List Int}{k:Nat}(h1:k < W.length)(h2:k < K.length):EZ any (W.drop k) (K.drop k)=
  if W[k]=0 then (if any=0 then EZ K[k] (W.drop (k+1)) (K.drop (k+1)) else if K[k]=any then EZ any (W.drop (k+1)) (K.drop (k+1)) else none) else if K[k]=W[k] then EZ any (W.drop (k+1)) (K.drop (k+1)) else none:=by
 rw[zg h1,zg h2,EZ]
theorem Vg (op:Int)(h:G8 op)(a:Option Addr)(n c:Nat)(K:List Int)(w:World)(y:BT w a n c K)(z:(DB op).1.length≤n):
  Calls Tryz.prog 106 #[.int .i64 op,.slice a n c] w fun r w'=>r= .returned (.int .i64 (Cr op K))∧Below w.heap.size w w':=by
 have A:=Ab (Y5 op h w);obtain ⟨W,t⟩:∃ W,W=(DB op).1:=⟨_,rfl⟩
 obtain ⟨o,B⟩:∃ o,o=(DB op).2:=⟨_,rfl⟩
 have C:=Ab (show Cr op K=match EZ 0 W K with | none=>0 | some any=>if o=0 then any else o by rw[t,B];rfl)
 unfold Abm at A;rw[← t,← B] at A;rw[← t] at z;have N:=Ab z;have J:=Ab y.len;have Q:=y.small;clear t B z h;go_enter Tryz.func106,Tryz.ntmps106
 go_wp2_with fail
 refine (Aa A).mono ?_;rintro r L ⟨⟨x,m,c1,rfl,E⟩,g⟩;have M:=Ab E.len;have O:=y.below g NLN;have R:=E.small;dsimp only;go_wp2_with fail
 go_loopw [7,17] (fun v i wr=>∃ (k:Nat) (any:Int),k≤m∧v= .int .i64 any∧i= .int .i64 k∧Below L.heap.size L wr∧Hid (EZ 0 W K=EZ any (W.drop k) (K.drop k))) (fun _ i _=>m - (intOf i).toNat)
 case atStart=>exact ⟨0,0,by omega,rfl,rfl,BRN,Ab rfl⟩
 case round=>
  obtain ⟨k,any,hk,rfl,rfl,j,H⟩:=hrel;by_cases I:k < m
  ·have S:(k:Int) < (m:Int):=by omega
   have h1:k < W.length:=by rw[Aa M];exact I
   have h2:k < K.length:=by have:=Aa N;rw[Aa J];omega
   have T:(k:Int) < (n:Int):=by have:=Aa J;omega
   obtain ⟨b1,U,rfl,V,c0⟩:=(E.below j NLN).cells k h1;obtain ⟨b2,X,rfl,Y,c2⟩:=(O.below j NLN).cells k h2;have f:=Ab ((Aa H).trans (Xn h1 h2));have l:=Ab (show (if W[k]=0 then (if any=0 then EZ K[k] (W.drop (k+1)) (K.drop (k+1)) else if K[k]=any then EZ any (W.drop (k+1)) (K.drop (k+1)) else none) else if K[k]=W[k] then EZ any (W.drop (k+1)) (K.drop (k+1)) else none)=none→Cr op K=0 from fun e=>by rw[Aa C,Aa H,Xn h1 h2,e]);have p:=Ab I;generalize EZ 0 W K=F at f C;generalize W[k]=u at c0 f l;generalize K[k]=v at c2 f l;clear I h1 h2;by_cases q:u=0
   ·subst q;have Z:((0 :Int)== 0)=true:=rfl;by_cases s:any=0
    ·subst s;have aa:(v != v)=false:=by simp
     have b:=Ab ((Aa f).trans (by rw[if_pos rfl,if_pos rfl]));clear f l;go_wp2_with fail
     go_roundw
     case rel=>exact ⟨k+1,v,Aa p,rfl,by go_num,j,b⟩
     case measure=>have:=Aa p;simp[intOf];omega
    ·have ab:(any== 0)=false:=zB.2 s;by_cases d:v=any
     ·have ev:(v != any)=false:=by simp[d]
      have b:=Ab ((Aa f).trans (by rw[if_pos rfl,if_neg s,if_pos d]));clear f l s d;go_wp2_with fail
      go_roundw
      case rel=>exact ⟨k+1,any,Aa p,rfl,by go_num,j,b⟩
      case measure=>have:=Aa p;simp[intOf];omega
     ·have ev:(v != any)=true:=zS.2 d;have b:=Ab (Aa l (by rw[if_pos rfl,if_neg s,if_neg d]));clear f l s d;go_wp2_with fail
      go_ret
      exact ⟨by rw[Aa b];rfl,g.trans (j.mono g.size)⟩
   ·have ac:(u== 0)=false:=zB.2 q;by_cases d:v=u
    ·have ev:(v != u)=false:=by simp[d]
     have b:=Ab ((Aa f).trans (by rw[if_neg q,if_pos d]));clear f l q d;go_wp2_with fail
     go_roundw
     case rel=>exact ⟨k+1,any,Aa p,rfl,by go_num,j,b⟩
     case measure=>have:=Aa p;simp[intOf];omega
    ·have ev:(v != u)=true:=zS.2 d;have b:=Ab (Aa l (by rw[if_neg q,if_neg d]));clear f l q d;go_wp2_with fail
     go_ret
     exact ⟨by rw[Aa b];rfl,g.trans (j.mono g.size)⟩
  ·have e:k=m:=by omega
   subst e;have b:=Ab (show Cr op K=if o=0 then any else o by
    rw[Aa C,Aa H,Z5 (by rw[Aa M];omega)];rfl)
   by_cases h0:o=0
   ·subst h0;have b:=Ab ((Aa b).trans (if_pos rfl));go_wp2_with fail
    go_ret
    exact ⟨by rw[Aa b];rfl,g.trans (j.mono g.size)⟩
   ·have ad:(o== 0)=false:=zB.2 h0;have P:=Ab h0;clear h0;go_wp2_with fail
    go_ret
    exact ⟨by rw[Aa b,if_neg (Aa P)];rfl,g.trans (j.mono g.size)⟩
theorem Ds.inv {N:List Nd}{i:Nat}{f:Ex}(u:Ds N i f){x:Nd}(hx:N[i]? =some x):
  (x.op=1∧f= .int i x.num)∨(x.op=2∧f= .text i x.text)∨(x.op=3∧f= .bool i (decide (x.num=1)))∨(x.op=4∧∃ a n c,f= .set i a n c x.names)∨(x.op=5∧f= .name i x.text)∨(x.op=6∧f= .attr i x.num)∨(x.op=7∧f= .lett i x.num)∨
  ((8≤x.op∧x.op≤10)∧∃ (k:Nat) (e:Ex),x.kids= [(k:Int)]∧Ds N k e∧f= .un i x.op e)∨
  ((11≤x.op∧x.op≤26)∧∃ (k l:Nat) (e g:Ex),x.kids= [(k:Int),(l:Int)]∧Ds N k e∧Ds N l g∧f= .bin i x.op e g)∨
  (x.op=27∧∃ (k l m:Nat) (e g h:Ex),x.kids= [(k:Int),(l:Int),(m:Int)]∧Ds N k e∧Ds N l g∧Ds N m h∧f= .ite i e g h):=by
 have same:∀ {y:Nd},N[i]? =some y→y=x:=fun k=>Option.some.inj (k.symm.trans hx);cases u with
 |int h b hk=>obtain rfl:=same h;exact .inl ⟨b,rfl⟩
 |text h b hk=>obtain rfl:=same h;exact .inr (.inl ⟨b,rfl⟩)
 |bool h b hk=>obtain rfl:=same h;exact .inr (.inr (.inl ⟨b,rfl⟩))
 |set h b hk a n c=>obtain rfl:=same h;exact .inr (.inr (.inr (.inl ⟨b,a,n,c,rfl⟩)))
 |name h b hk=>obtain rfl:=same h;exact .inr (.inr (.inr (.inr (.inl ⟨b,rfl⟩))))
 |attr h b hk=>obtain rfl:=same h;exact .inr (.inr (.inr (.inr (.inr (.inl ⟨b,rfl⟩)))))
 |lett h b hk=>obtain rfl:=same h;exact .inr (.inr (.inr (.inr (.inr (.inr (.inl ⟨b,rfl⟩))))))
 |un h b hk hi t=>obtain rfl:=same h;exact .inr (.inr (.inr (.inr (.inr (.inr (.inr (.inl ⟨b,_,_,hk,t,rfl⟩)))))))
 |bin h b hk hi t u=>obtain rfl:=same h;exact .inr (.inr (.inr (.inr (.inr (.inr (.inr (.inr (.inl ⟨b,_,_,_,_,hk,t,u,rfl⟩))))))))
 |ite h b hk hi t u v=>obtain rfl:=same h;exact .inr (.inr (.inr (.inr (.inr (.inr (.inr (.inr (.inr ⟨b,_,_,_,_,_,_,hk,t,u,v,rfl⟩))))))))
theorem Bg.news {w:World}{b a n c:Nat}{d:List ByteArray}(hq:Bg w (some ⟨b,a,none⟩) n c d):∀ j u,(d.map Value.string)[j]? =some u→w.cell? ((⟨b,a,none⟩:Addr).add j)=some u:=fun j u f=>by
 rw[zh,Option.map_eq_some_iff] at f;obtain ⟨s,hs,rfl⟩:=f;have g:j < d.length:=(ze.1 hs).1;obtain ⟨b1,k,h,_,hc⟩:=hq.cells j (by have:=hq.len;omega);simp only[Option.some.injEq,Addr.mk.injEq,and_true] at h;obtain ⟨rfl,rfl⟩:=h;have i:(⟨b,a,none⟩:Addr).add j=⟨b,a+j,none⟩:=by by_cases e:j=0 <;> simp[Addr.add,e]
 rw[i,hc,Cv _ j g];rw[zH g] at hs;cases hs;rfl
theorem Bg.newsG {w:World}{b:Addr}{n c:Nat}{a:List ByteArray}(hq:Bg w (some b) n c a):∀ j u,(a.map Value.string)[j]? =some u→w.cell? (b.add j)=some u:=fun j u d=>by
 have g:j < a.length:=by
  have:=(ze.1 d).1;simpa using this
 obtain ⟨b1,h,f,_,_⟩:=hq.cells j (by have:=hq.len;omega);cases f;exact Bg.news hq j u d
set_option maxHeartbeats 6400000
def LG (L:List UInt8):Array Value:=(L.map fun c=>Value.int .u8 (c.toNat:Int)).toArray
theorem Qt {L:List UInt8}{k:Nat}{x:UInt8}(h:L[k]? =some x):(LG L)[k]? =some (.int .u8 (x.toNat:Int)):=by
 simp[LG,h]
def GW (L:List UInt8) (k:Nat) (c:UInt8):Prop:=∀ i,i < k→L[i]? ≠some c
theorem GW.next {L:List UInt8}{k:Nat}{c x:UInt8}(h:GW L k c)(hx:L[k]? =some x)(a:((c.toNat:Int)==(x.toNat:Int))=false):GW L (k+1) c:=fun i hi e=>by
 by_cases hk:i=k
 ·subst hk;rw[hx] at e;rw[zB] at a;exact a (by rw[Option.some.inj e])
 ·exact h i (by omega) e
theorem GW.all {L:List UInt8}{c:UInt8}(h:GW L L.length c):L.contains c=false:=by
 rw[← Bool.not_eq_true,Z2];intro a;obtain ⟨i,hi,e⟩:=Z1 a;exact h i hi (by rw[zH hi,e])
theorem Us {L:List UInt8}{k:Nat}{c x:UInt8}(hx:L[k]? =some x)(a:((c.toNat:Int)==(x.toNat:Int))=true):L.contains c=true:=by
 rw[zN] at a;have e:c=x:=UInt8.toNat_inj.1 (by omega);rw[e,Z2];exact z5 hx
theorem YK {s:ByteArray}{j:Nat}(h: ¬ j+1 < s.size):Dp.contains (((Ap s).drop j).take 2)=false:=by
 rw[← Bool.not_eq_true,Z2];intro a;have b:(((Ap s).drop j).take 2).length≤1:=by rw[zb,zp,Av];omega
 have:∀ x∈Dp,x.length=2:=by decide
 have:=this _ a;omega
theorem Ut {s:ByteArray}{j:Nat}(h:j < s.size):s.extract j (j+1)=AB [s[j]]:=by
 rw[Sa,BC s j h,show j+1 - j=1 by omega];rfl
theorem V6 (s:ByteArray)(j:Nat)(w:World)(hs:s.size≤1048576)(K:j < s.size)(L:JG (s[j].toNat:Int)=false)(hd:dgI (s[j].toNat:Int)=false)(hq: ¬ (s[j].toNat:Int)=34):
  Calls Tryz.prog 43 #[.string s,.int .i64 j] w fun e w'=>G7 j (Bl s[j] ((Ap s).drop j)) e∧Below w.heap.size w w':=by
 have aa:(j:Int) < (s.size:Int):=by omega
 have ab:=zB.2 hq;obtain ⟨W,M,N,B,O,P⟩:=I9 w j;have Q:=Ab L;have R:=Ab hd;clear L hd;obtain ⟨c0,c1,c2,c3,l⟩:=AX B;have C:=B.set 0 (.int .i64 5);have E:=N.setFar (p:=⟨w.heap.size+1,0,none⟩) (by show w.heap.size≠w.heap.size+1;omega) (.int .i64 5);have F:=O.setCell (p:=⟨w.heap.size+1,0,none⟩) (by show w.heap.size≤w.heap.size+1;omega) (.int .i64 5);have q:(W.setCell ⟨w.heap.size+1,0,none⟩ (.int .i64 5)).heap.size=w.heap.size+2:=by simp[P]
 simp only[z4,zw] at C;by_cases h2:j+1 < s.size
 ·have U:(j:Int)+1 < (s.size:Int):=by omega
  have ac:(j:Int)+2≤(s.size:Int):=by omega
  have S0:=E.alloc (.cells #[.string ⟨#[61,62]⟩,.string ⟨#[61,61]⟩,.string ⟨#[33,61]⟩,.string ⟨#[60,61]⟩] 9);have S1:=C.alloc (.cells #[.string ⟨#[61,62]⟩,.string ⟨#[61,61]⟩,.string ⟨#[33,61]⟩,.string ⟨#[60,61]⟩] 9);have H:=F.alloc (by omega) (.cells #[.string ⟨#[61,62]⟩,.string ⟨#[61,61]⟩,.string ⟨#[33,61]⟩,.string ⟨#[60,61]⟩] 9);have I:Al ((W.setCell ⟨w.heap.size+1,0,none⟩ (.int .i64 5)).alloc (.cells #[.string ⟨#[61,62]⟩,.string ⟨#[61,61]⟩,.string ⟨#[33,61]⟩,.string ⟨#[60,61]⟩] 9)) (W.setCell ⟨w.heap.size+1,0,none⟩ (.int .i64 5)).heap.size (LH Dp) 9:=Al.new (W.setCell ⟨w.heap.size+1,0,none⟩ (.int .i64 5)) (LH Dp) 9;rw[q] at I;have sz:((W.setCell ⟨w.heap.size+1,0,none⟩ (.int .i64 5)).alloc (.cells #[.string ⟨#[61,62]⟩,.string ⟨#[61,61]⟩,.string ⟨#[33,61]⟩,.string ⟨#[60,61]⟩] 9)).heap.size=w.heap.size+3:=by rw[World.size_alloc,q]
  go_enter Tryz.func43,Tryz.ntmps43
  go_wp2_with (first | (go_at_call 66;refine (AW _ _).mono ?_;rintro e w' ⟨rfl,d⟩;rw[Aa Q,d];clear d) | (go_at_call 69;refine (BQ _ _).mono ?_;rintro e w' ⟨rfl,d⟩;rw[Aa R,d];clear d))
  clear M;generalize (W.setCell ⟨w.heap.size+1,0,none⟩ (.int .i64 5)).alloc (.cells #[.string ⟨#[61,62]⟩,.string ⟨#[61,61]⟩,.string ⟨#[33,61]⟩,.string ⟨#[60,61]⟩] 9)=o at S0 S1 H I sz ⊢;clear E C F q N B O P c0 c1 c2 c3 l;obtain ⟨c0,c1,c2,c3,l⟩:=AX S1;obtain ⟨r,d1,d2,d3,t⟩:=AX S0;have S:=Ab (show Ap (s.extract j (j+2))=((Ap s).drop j).take 2 by rw[BR,show j+2 - j=2 by omega]);go_loop [173] (fun i=>∃ k:Nat,k≤4∧i= .int .i64 k∧GX Dp k (Ap (s.extract j (j+2)))) (fun i=>4 - (intOf i).toNat)
  case atStart=>exact ⟨0,by omega,rfl,fun i hi=>by omega⟩
  case round=>
   obtain ⟨k,hk,rfl,a⟩:=hrel;by_cases m:k < 4
   ·have T:(k:Int) < 4:=by omega
    obtain ⟨x,hx⟩:∃ x,Dp[k]? =some x:=⟨Dp[k]'m,zH m⟩
    have hc:=(I.cell k).trans (Qu hx);rcases zk ((s.extract j (j+2)).toList==(AB x).toList) with h | h
    ·have V:=Ab (show ((Ap s).drop j).take 2=x by rw[← Aa S];exact Kw h);have c:=Ab (Qv hx);clear a hx;go_wp2_with fail
     have f:=Ao (b:=w.heap.size) (H.setCell (p:=⟨w.heap.size+1,2,none⟩) (by show w.heap.size≤w.heap.size+1;omega) (.string (AB x))) NLN (.int .i64 5) (.int .i64 0) (.string (AB x)) (.int .i64 j);obtain ⟨g0,g1,g2,g3,_⟩:=AX (AD (S0.setFar (p:=⟨w.heap.size+1,2,none⟩) (by show w.heap.size≠w.heap.size+1;omega) (.string (AB x))) (.int .i64 5) (.int .i64 0) (.string (AB x)) (.int .i64 j));simp only[CH] at g0 g1 g2 g3;refine bodyPost_ret (Aw Tryz.results43 rfl g0 g1 g2 g3) rfl ⟨?_,f⟩;rw[Bl,Aa V,if_pos (Aa c)];simp only[G7];rw[zd];rfl
    ·have c:=Ab (a.next hx (Jo h));clear a hx;go_wp2
     go_round
     case rel=>exact ⟨k+1,by omega,by go_num,Aa c⟩
     case measure=>simp[intOf];omega
   ·have u:k=4:=by omega
    subst u;have v:=Ab (show Dp.contains (((Ap s).drop j).take 2)=false by rw[← Aa S];exact GX.all a);clear a c0 c1 c2 c3 l r d1 d2 d3 t;have g:=Al.alloc S0 (.cells #[.int .u8 60,.int .u8 43,.int .u8 45,.int .u8 42,.int .u8 47,.int .u8 37,.int .u8 124,.int .u8 38,.int .u8 92,.int .u8 40,.int .u8 41,.int .u8 123,.int .u8 125,.int .u8 44,.int .u8 59,.int .u8 61] 5 (16,17));have y:=Al.alloc S1 (.cells #[.int .u8 60,.int .u8 43,.int .u8 45,.int .u8 42,.int .u8 47,.int .u8 37,.int .u8 124,.int .u8 38,.int .u8 92,.int .u8 40,.int .u8 41,.int .u8 123,.int .u8 125,.int .u8 44,.int .u8 59,.int .u8 61] 5 (16,17));have n:=Below.alloc H (by omega) (.cells #[.int .u8 60,.int .u8 43,.int .u8 45,.int .u8 42,.int .u8 47,.int .u8 37,.int .u8 124,.int .u8 38,.int .u8 92,.int .u8 40,.int .u8 41,.int .u8 123,.int .u8 125,.int .u8 44,.int .u8 59,.int .u8 61] 5 (16,17));have z:∀ k,(o.alloc (.cells #[.int .u8 60,.int .u8 43,.int .u8 45,.int .u8 42,.int .u8 47,.int .u8 37,.int .u8 124,.int .u8 38,.int .u8 92,.int .u8 40,.int .u8 41,.int .u8 123,.int .u8 125,.int .u8 44,.int .u8 59,.int .u8 61] 5 (16,17))).cell? ⟨w.heap.size+3,k,none⟩=(LG El)[k]? :=fun k=>by
     rw[← sz];exact World.cell?_alloc_mark (o) (LG El) 5 (16,17) k
    have J:(convert 127 127 (.slice (some ⟨w.heap.size+3,0,none⟩) 16 16)).run Tryz.prog (o.alloc (.cells #[.int .u8 60,.int .u8 43,.int .u8 45,.int .u8 42,.int .u8 47,.int .u8 37,.int .u8 124,.int .u8 38,.int .u8 92,.int .u8 40,.int .u8 41,.int .u8 123,.int .u8 125,.int .u8 44,.int .u8 59,.int .u8 61] 5))= .ok (.slice (some ⟨w.heap.size+3,0,none⟩) 16 16) (o.alloc (.cells #[.int .u8 60,.int .u8 43,.int .u8 45,.int .u8 42,.int .u8 47,.int .u8 37,.int .u8 124,.int .u8 38,.int .u8 92,.int .u8 40,.int .u8 41,.int .u8 123,.int .u8 125,.int .u8 44,.int .u8 59,.int .u8 61] 5 (16,17))):=
     Go.Joins.run_convert_bytes_const_at (o) 127 5 #[.int .u8 60,.int .u8 43,.int .u8 45,.int .u8 42,.int .u8 47,.int .u8 37,.int .u8 124,.int .u8 38,.int .u8 92,.int .u8 40,.int .u8 41,.int .u8 123,.int .u8 125,.int .u8 44,.int .u8 59,.int .u8 61] 16 16 (w.heap.size+3) sz.symm Tryz.underlying127 Tryz.underlying5
    obtain ⟨r,d1,d2,d3,t⟩:=AX g;obtain ⟨c0,c1,c2,c3,l⟩:=AX y;go_wp2_with fail
    clear J;have A:=Ab z;clear z;generalize o.alloc (.cells #[.int .u8 60,.int .u8 43,.int .u8 45,.int .u8 42,.int .u8 47,.int .u8 37,.int .u8 124,.int .u8 38,.int .u8 92,.int .u8 40,.int .u8 41,.int .u8 123,.int .u8 125,.int .u8 44,.int .u8 59,.int .u8 61] 5 (16,17))=X at g y n A r d1 d2 d3 t c0 c1 c2 c3 l ⊢;go_loop [193] (fun i=>∃ k:Nat,k≤16∧i= .int .i64 k∧GW El k s[j]) (fun i=>16 - (intOf i).toNat)
    case atStart=>exact ⟨0,by omega,rfl,fun i hi=>by omega⟩
    case round=>
     obtain ⟨k,hk,rfl,a⟩:=hrel;by_cases m:k < 16
     ·have T:(k:Int) < 16:=by omega
      obtain ⟨x,hx⟩:∃ x,El[k]? =some x:=⟨El[k]'m,zH m⟩
      have hc:=(Aa A k).trans (Qt hx);rcases zk ((s[j].toNat:Int)==(x.toNat:Int)) with h | h
      ·have c:=Ab (Us hx h);have Y:(x.toNat:Int)=(s[j].toNat:Int):=(zN.1 h).symm;have Z:(j:Int)+1≤(s.size:Int):=by omega
       clear a hx;go_wp2_with fail
       have f:=Ao (b:=w.heap.size) (n.setCell (p:=⟨w.heap.size+1,2,none⟩) (by show w.heap.size≤w.heap.size+1;omega) (.string (s.extract j (j+1)))) NLN (.int .i64 5) (.int .i64 0) (.string (s.extract j (j+1))) (.int .i64 j);obtain ⟨g0,g1,g2,g3,_⟩:=AX (AD (g.setFar (p:=⟨w.heap.size+1,2,none⟩) (by show w.heap.size≠w.heap.size+1;omega) (.string (s.extract j (j+1)))) (.int .i64 5) (.int .i64 0) (.string (s.extract j (j+1))) (.int .i64 j));simp only[CH] at g0 g1 g2 g3;refine bodyPost_ret (Aw Tryz.results43 rfl g0 g1 g2 g3) rfl ⟨?_,f⟩;rw[Bl,if_neg (by rw[Aa v];decide),if_pos (Aa c),Ut K];simp only[G7];rw[zd];rfl
      ·have c:=Ab (a.next hx h);clear a hx;go_wp2
       go_round
       case rel=>exact ⟨k+1,by omega,by go_num,Aa c⟩
       case measure=>simp[intOf];omega
     ·have u:k=16:=by omega
      subst u;have c:=Ab (GW.all a);clear a;go_wp2_with fail
      have f:=Ao (b:=w.heap.size) n NLN (.int .i64 5) (.int .i64 0) (.string ⟨#[]⟩) (.int .i64 j);obtain ⟨g0,g1,g2,g3,_⟩:=AX (AD g (.int .i64 5) (.int .i64 0) (.string ⟨#[]⟩) (.int .i64 j));simp only[CH] at g0 g1 g2 g3;refine bodyPost_ret (Aw Tryz.results43 rfl g0 g1 g2 g3) rfl ⟨?_,f⟩;rw[Bl,if_neg (by rw[Aa v];decide),if_neg (by rw[Aa c];decide)];exact ⟨_,_,_,_,rfl⟩
 ·have U: ¬ ((j:Int)+1 < (s.size:Int)):=by omega
  have v:=Ab (YK h2);clear c0 c1 c2 c3 l;obtain ⟨ad,e1,e2,e3,ae⟩:=AX B;have g:=Al.alloc E (.cells #[.int .u8 60,.int .u8 43,.int .u8 45,.int .u8 42,.int .u8 47,.int .u8 37,.int .u8 124,.int .u8 38,.int .u8 92,.int .u8 40,.int .u8 41,.int .u8 123,.int .u8 125,.int .u8 44,.int .u8 59,.int .u8 61] 5 (16,17));have y:=Al.alloc C (.cells #[.int .u8 60,.int .u8 43,.int .u8 45,.int .u8 42,.int .u8 47,.int .u8 37,.int .u8 124,.int .u8 38,.int .u8 92,.int .u8 40,.int .u8 41,.int .u8 123,.int .u8 125,.int .u8 44,.int .u8 59,.int .u8 61] 5 (16,17));have n:=Below.alloc F (by omega) (.cells #[.int .u8 60,.int .u8 43,.int .u8 45,.int .u8 42,.int .u8 47,.int .u8 37,.int .u8 124,.int .u8 38,.int .u8 92,.int .u8 40,.int .u8 41,.int .u8 123,.int .u8 125,.int .u8 44,.int .u8 59,.int .u8 61] 5 (16,17));have z:∀ k,((W.setCell ⟨w.heap.size+1,0,none⟩ (.int .i64 5)).alloc (.cells #[.int .u8 60,.int .u8 43,.int .u8 45,.int .u8 42,.int .u8 47,.int .u8 37,.int .u8 124,.int .u8 38,.int .u8 92,.int .u8 40,.int .u8 41,.int .u8 123,.int .u8 125,.int .u8 44,.int .u8 59,.int .u8 61] 5 (16,17))).cell? ⟨w.heap.size+2,k,none⟩=(LG El)[k]? :=fun k=>by
   rw[← q];exact World.cell?_alloc_mark (W.setCell ⟨w.heap.size+1,0,none⟩ (.int .i64 5)) (LG El) 5 (16,17) k
  have J:(convert 127 127 (.slice (some ⟨w.heap.size+2,0,none⟩) 16 16)).run Tryz.prog ((W.setCell ⟨w.heap.size+1,0,none⟩ (.int .i64 5)).alloc (.cells #[.int .u8 60,.int .u8 43,.int .u8 45,.int .u8 42,.int .u8 47,.int .u8 37,.int .u8 124,.int .u8 38,.int .u8 92,.int .u8 40,.int .u8 41,.int .u8 123,.int .u8 125,.int .u8 44,.int .u8 59,.int .u8 61] 5))= .ok (.slice (some ⟨w.heap.size+2,0,none⟩) 16 16) ((W.setCell ⟨w.heap.size+1,0,none⟩ (.int .i64 5)).alloc (.cells #[.int .u8 60,.int .u8 43,.int .u8 45,.int .u8 42,.int .u8 47,.int .u8 37,.int .u8 124,.int .u8 38,.int .u8 92,.int .u8 40,.int .u8 41,.int .u8 123,.int .u8 125,.int .u8 44,.int .u8 59,.int .u8 61] 5 (16,17))):=
   Go.Joins.run_convert_bytes_const_at (W.setCell ⟨w.heap.size+1,0,none⟩ (.int .i64 5)) 127 5 #[.int .u8 60,.int .u8 43,.int .u8 45,.int .u8 42,.int .u8 47,.int .u8 37,.int .u8 124,.int .u8 38,.int .u8 92,.int .u8 40,.int .u8 41,.int .u8 123,.int .u8 125,.int .u8 44,.int .u8 59,.int .u8 61] 16 16 (w.heap.size+2) q.symm Tryz.underlying127 Tryz.underlying5
  obtain ⟨r,d1,d2,d3,t⟩:=AX g;obtain ⟨c0,c1,c2,c3,l⟩:=AX y;go_enter Tryz.func43,Tryz.ntmps43
  go_wp2_with (first | (go_at_call 66;refine (AW _ _).mono ?_;rintro e w' ⟨rfl,d⟩;rw[Aa Q,d];clear d) | (go_at_call 69;refine (BQ _ _).mono ?_;rintro e w' ⟨rfl,d⟩;rw[Aa R,d];clear d))
  clear M;clear J;have A:=Ab z;clear z;generalize (W.setCell ⟨w.heap.size+1,0,none⟩ (.int .i64 5)).alloc (.cells #[.int .u8 60,.int .u8 43,.int .u8 45,.int .u8 42,.int .u8 47,.int .u8 37,.int .u8 124,.int .u8 38,.int .u8 92,.int .u8 40,.int .u8 41,.int .u8 123,.int .u8 125,.int .u8 44,.int .u8 59,.int .u8 61] 5 (16,17))=X at g y n A r d1 d2 d3 t c0 c1 c2 c3 l ⊢;go_loop [193] (fun i=>∃ k:Nat,k≤16∧i= .int .i64 k∧GW El k s[j]) (fun i=>16 - (intOf i).toNat)
  case atStart=>exact ⟨0,by omega,rfl,fun i hi=>by omega⟩
  case round=>
   obtain ⟨k,hk,rfl,a⟩:=hrel;by_cases m:k < 16
   ·have T:(k:Int) < 16:=by omega
    obtain ⟨x,hx⟩:∃ x,El[k]? =some x:=⟨El[k]'m,zH m⟩
    have hc:=(Aa A k).trans (Qt hx);rcases zk ((s[j].toNat:Int)==(x.toNat:Int)) with h | h
    ·have c:=Ab (Us hx h);have Y:(x.toNat:Int)=(s[j].toNat:Int):=(zN.1 h).symm;have Z:(j:Int)+1≤(s.size:Int):=by omega
     clear a hx;go_wp2_with fail
     have f:=Ao (b:=w.heap.size) (n.setCell (p:=⟨w.heap.size+1,2,none⟩) (by show w.heap.size≤w.heap.size+1;omega) (.string (s.extract j (j+1)))) NLN (.int .i64 5) (.int .i64 0) (.string (s.extract j (j+1))) (.int .i64 j);obtain ⟨g0,g1,g2,g3,_⟩:=AX (AD (g.setFar (p:=⟨w.heap.size+1,2,none⟩) (by show w.heap.size≠w.heap.size+1;omega) (.string (s.extract j (j+1)))) (.int .i64 5) (.int .i64 0) (.string (s.extract j (j+1))) (.int .i64 j));simp only[CH] at g0 g1 g2 g3;refine bodyPost_ret (Aw Tryz.results43 rfl g0 g1 g2 g3) rfl ⟨?_,f⟩;rw[Bl,if_neg (by rw[Aa v];decide),if_pos (Aa c),Ut K];simp only[G7];rw[zd];rfl
    ·have c:=Ab (a.next hx h);clear a hx;go_wp2
     go_round
     case rel=>exact ⟨k+1,by omega,by go_num,Aa c⟩
     case measure=>simp[intOf];omega
   ·have u:k=16:=by omega
    subst u;have c:=Ab (GW.all a);clear a;go_wp2_with fail
    have f:=Ao (b:=w.heap.size) n NLN (.int .i64 5) (.int .i64 0) (.string ⟨#[]⟩) (.int .i64 j);obtain ⟨g0,g1,g2,g3,_⟩:=AX (AD g (.int .i64 5) (.int .i64 0) (.string ⟨#[]⟩) (.int .i64 j));simp only[CH] at g0 g1 g2 g3;refine bodyPost_ret (Aw Tryz.results43 rfl g0 g1 g2 g3) rfl ⟨?_,f⟩;rw[Bl,if_neg (by rw[Aa v];decide),if_neg (by rw[Aa c];decide)];exact ⟨_,_,_,_,rfl⟩
end Go.Proofs.YtchakjeegneeoaaGreatDoor
