/-
  TM, TB. Own work.
-/
import Derived.Test.YtffkofkjpckmpaaGreatDoorMXAI
import Derived.Test.YtffkofkjpckmpaaGreatDoorMXAB
import Derived.Test.YtffkofkjpckmpaaGreatDoorMXAK
namespace Go.Proofs.YtffkofkjpckmpaaGreatDoor
open Go.RowKit
set_option linter.unusedVariables false
def JK (t:Ae):List Value:= [.int .i64 t.kind,.int .i64 t.num,.string t.text,.int .i64 (t.at_:Int)]
def EN (T:List Ae):List Value:=T.flatMap JK
theorem Tm:∀ (T:List Ae),(EN T).length=T.length * 4
 | []=>rfl
 |t ::T=>by
  have:=Tm T;simp only[EN,zi,zB,List.length_cons] at this ⊢;simp only[JK,List.length_cons,List.length_nil];omega
theorem KF (T:List Ae)(t:Ae):EN (T ++ [t])=EN T ++JK t:=by simp[EN]
theorem Im:∀ (T:List Ae) (j:Nat) (h:j < T.length),(EN T)[j * 4]? =some (.int .i64 T[j].kind)∧(EN T)[j * 4+1]? =some (.int .i64 T[j].num)∧(EN T)[j * 4+2]? =some (.string T[j].text)∧(EN T)[j * 4+3]? =some (.int .i64 (T[j].at_:Int))
 |t ::T,0,_=>⟨rfl,rfl,rfl,rfl⟩
 |t ::T,j+1,h=>by
  have b:=Im T j (by simpa using h);have e:EN (t ::T)=JK t ++EN T:=rfl;have e1:∀ i,(JK t ++EN T)[(j+1) * 4+i]? =(EN T)[j * 4+i]? :=fun i=>by
   rw[yC (by simp[JK];omega)]
   congr 1
   simp[JK];omega
  have a:=e1 0;rw[zr,zr] at a;rw[e,a,e1 1,e1 2,e1 3];simpa using b
def ZN (T:List Ae):Prop:=∀ t∈T,t.text.size≤maxLen
structure LU (w:World) (lo hi:Nat) (a:Option Addr) (n c:Nat) (T:List Ae):Prop where
 own:w.ownsRow lo 42 4 (.slice a n c) n (EN T)
 lt:∀ x,a=some x→x.block < hi
 sizes:ZN T
 top:hi≤w.heap.size
theorem LU.len {w:World}{lo hi n c:Nat}{a:Option Addr}{T:List Ae}(h:LU w lo hi a n c T):T.length=n:=by
 have:=h.own.1;rw[Tm] at this;omega
theorem Fj {w w':World}{lo n c:Nat}{a:Option Addr}{d:List Value}(h:w.ownsRow lo 42 4 (.slice a n c) n d)(f:∀ x,a=some x→w'.heap[x.block]? =w.heap[x.block]?):w'.ownsRow lo 42 4 (.slice a n c) n d:=by
 refine ⟨h.1, ?_⟩;rcases h.2 with h2 | ⟨g,cap,i,b,h3,j,h4⟩
 ·exact .inl h2
 ·refine .inr ⟨g,cap,i,b,h3, ?_,h4⟩;simp only[Value.slice.injEq] at b;rw[← j];exact f ⟨g,0,none⟩ b.1
theorem LU.form {w:World}{lo hi n c:Nat}{a:Option Addr}{T:List Ae}(h:LU w lo hi a n c T)(f: 0 < n):∃ g,a=some ⟨g,0,none⟩∧lo≤g∧g < hi∧g < w.heap.size:=by
 rcases h.own.2 with ⟨_,h0⟩ | ⟨g,cap,i,b,h3,d,_⟩
 ·omega
 ·simp only[Value.slice.injEq] at b;exact ⟨g,b.1,h3,h.lt _ b.1,(yD.1 d).1⟩
theorem LU.small {w:World}{lo hi n c:Nat}{a:Option Addr}{T:List Ae}(h:LU w lo hi a n c T):n≤9223372036854775807:=by
 rcases h.own.2 with ⟨_,h0⟩ | ⟨g,cap,b,d,h3,f,h4,h5,_⟩
 ·omega
 ·unfold maxLen at h5;omega
theorem LU.cells {w:World}{lo hi n c g:Nat}{T:List Ae}(h:LU w lo hi (some ⟨g,0,none⟩) n c T)(j:Nat)(a:j < T.length):
  w.cell? ⟨g,j * 4,none⟩=some (.int .i64 T[j].kind)∧w.cell? ⟨g,j * 4+1,none⟩=some (.int .i64 T[j].num)∧w.cell? ⟨g,j * 4+2,none⟩=some (.string T[j].text)∧w.cell? ⟨g,j * 4+3,none⟩=some (.int .i64 (T[j].at_:Int)):=by
 obtain ⟨b,e1,e2,e3⟩:=Im T j a;have hl:=h.len;exact ⟨(h.own.cellAt _ (by omega)).trans b,(h.own.cellAt _ (by omega)).trans e1,(h.own.cellAt _ (by omega)).trans e2,(h.own.cellAt _ (by omega)).trans e3⟩
theorem LU.of {w:World}{lo n c:Nat}{a:Option Addr}{T:List Ae}(h:w.ownsRow lo 42 4 (.slice a n c) n (EN T))(hs:ZN T):LU w lo w.heap.size a n c T:=
 ⟨h,fun x hx=>by subst hx;exact (h.lt _ rfl).2,hs,NLN⟩
set_option maxHeartbeats 3200000
theorem KX (s:ByteArray)(k:Nat)(h:k < s.size)(a:(s[k].toNat:Int)=32∨(s[k].toNat:Int)=10∨(s[k].toNat:Int)=9):Dj false ((Aj s).drop k)=Dj false ((Aj s).drop (k+1)):=by
 rw[BI s k h,Dj,if_pos];rcases a with h | h | h
 ·exact .inl (UInt8.toNat_inj.1 (by have:(32 :UInt8).toNat=32:=rfl;omega))
 ·exact .inr (.inl (UInt8.toNat_inj.1 (by have:(10 :UInt8).toNat=10:=rfl;omega)))
 ·exact .inr (.inr (UInt8.toNat_inj.1 (by have:(9 :UInt8).toNat=9:=rfl;omega)))
theorem Acr {c:UInt8}(h1: ¬ (c.toNat:Int)=32)(h2: ¬ (c.toNat:Int)=10)(h3: ¬ (c.toNat:Int)=9): ¬ (c=32∨c=10∨c=9):=by
 rintro (h | h | h)
 ·subst h;exact h1 rfl
 ·subst h;exact h2 rfl
 ·subst h;exact h3 rfl
theorem Td (s:ByteArray)(k:Nat)(h:k < s.size)(a:(s[k].toNat:Int)=35):Dj false ((Aj s).drop k)=Dj true ((Aj s).drop k):=by
 have e:s[k]=35:=UInt8.toNat_inj.1 (by have:(35 :UInt8).toNat=35:=rfl;omega);rw[BI s k h,e];generalize (Aj s).drop (k+1)=r;simp[Dj]
theorem Pv (s:ByteArray)(k:Nat)(h:k < s.size)(h1: ¬ (s[k].toNat:Int)=32)(h2: ¬ (s[k].toNat:Int)=10)(h3: ¬ (s[k].toNat:Int)=9)(h4: ¬ (s[k].toNat:Int)=35):Dj false ((Aj s).drop k)=(Aj s).drop k:=by
 rw[BI s k h,Dj,if_neg (Acr h1 h2 h3),if_neg (fun e=>h4 (by rw[e];rfl))]
theorem U3 (s:ByteArray)(k:Nat)(h:k < s.size)(h1: ¬ (s[k].toNat:Int)=10):Dj true ((Aj s).drop k)=Dj true ((Aj s).drop (k+1)):=by
 rw[BI s k h,Dj,if_neg (fun e=>h1 (by rw[e];rfl))]
theorem ZM (s:ByteArray)(k:Nat)(h:k < s.size)(h1:(s[k].toNat:Int)=10):Dj true ((Aj s).drop k)=Dj false ((Aj s).drop k):=by
 have e:s[k]=10:=UInt8.toNat_inj.1 (by have:(10 :UInt8).toNat=10:=rfl;omega);rw[BI s k h,e];generalize (Aj s).drop (k+1)=r;simp[Dj]
theorem Mb (a:Bool)(s:ByteArray)(k:Nat)(h:s.size≤k):Dj a ((Aj s).drop k)= []:=by
 rw[List.drop_of_length_le (by rw[At];exact h)];cases a <;> rfl
theorem LH (s:ByteArray)(j:Nat)(w:World)(hs:s.size≤maxLen)(l:j≤s.size):
  Calls Tryz.prog 33 #[.string s,.int .i64 j] w fun e w'=>(∃ k:Nat,e= .returned (.int .i64 k)∧j≤k∧k≤s.size∧Dj false ((Aj s).drop j)=(Aj s).drop k∧Dj false ((Aj s).drop k)=(Aj s).drop k)∧w'=w:=by
 unfold maxLen at hs;go_enter Tryz.func33,Tryz.ntmps33
 go_wp2
 go_loop [1] (fun i=>∃ k:Nat,j≤k∧k≤s.size∧i= .int .i64 k∧Dj false ((Aj s).drop j)=Dj false ((Aj s).drop k)) (fun i=>s.size - (intOf i).toNat)
 case atStart=>exact ⟨j,NLN,l,rfl,rfl⟩
 case round=>
  obtain ⟨k,g,hk,rfl,he⟩:=hrel;have b:=Ab he;clear he;by_cases c:k < s.size
  ·have m:(k:Int) < (s.size:Int):=by omega
   by_cases h1:(s[k].toNat:Int)=32
   ·have a:=Ab (KX s k c (.inl h1));go_wp2
    go_round
    case rel=>exact ⟨k+1,by omega,by omega,by go_num,by rw[Aa b,Aa a]⟩
    case measure=>simp[intOf];omega
   by_cases h2:(s[k].toNat:Int)=10
   ·have a:=Ab (KX s k c (.inr (.inl h2)));go_wp2
    go_round
    case rel=>exact ⟨k+1,by omega,by omega,by go_num,by rw[Aa b,Aa a]⟩
    case measure=>simp[intOf];omega
   by_cases h3:(s[k].toNat:Int)=9
   ·have a:=Ab (KX s k c (.inr (.inr h3)));go_wp2
    go_round
    case rel=>exact ⟨k+1,by omega,by omega,by go_num,by rw[Aa b,Aa a]⟩
    case measure=>simp[intOf];omega
   by_cases h4:(s[k].toNat:Int)=35
   ·have a:=Ab (Td s k c h4);have o:=Ab (U3 s k c h2);go_wp2
    go_loop [1] (fun i=>∃ q:Nat,k≤q∧q≤s.size∧i= .int .i64 q∧Dj true ((Aj s).drop k)=Dj true ((Aj s).drop q)) (fun i=>s.size - (intOf i).toNat)
    case atStart=>exact ⟨k,NLN,hk,rfl,rfl⟩
    case round=>
     obtain ⟨q,p,hq,rfl,hi⟩:=hrel;have f:=Ab hi;clear hi;by_cases h:q < s.size
     ·have n:(q:Int) < (s.size:Int):=by omega
      by_cases h10:(s[q].toNat:Int)=10
      ·have d:=Ab (ZM s q h h10);have r:q≠k:=fun e=>by subst e;omega
       go_wp2
       go_round
       case rel=>exact ⟨q,by omega,by omega,by go_num,by rw[Aa b,Aa a,Aa f,Aa d]⟩
       case measure=>simp[intOf];omega
      ·have d:=Ab (U3 s q h h10);go_wp2
       go_round
       case rel=>exact ⟨q+1,by omega,by omega,by go_num,by rw[Aa f,Aa d]⟩
       case measure=>simp[intOf];omega
     ·have n: ¬ ((q:Int) < (s.size:Int)):=by omega
      have d:=Ab ((Mb true s q (by omega)).trans (Mb false s q (by omega)).symm);go_wp2
      go_round
      case rel=>exact ⟨q,by omega,by omega,by go_num,by rw[Aa b,Aa a,Aa f,Aa d]⟩
      case measure=>simp[intOf];omega
   ·have a:=Ab (Pv s k c h1 h2 h3 h4);have e1:=zA.2 h1;have e2:=zA.2 h2;have e3:=zA.2 h3;have e4:=zA.2 h4;go_wp2
    go_ret
    exact ⟨⟨k,rfl,g,hk,by rw[Aa b,Aa a],Aa a⟩,rfl⟩
  ·have m: ¬ ((k:Int) < (s.size:Int)):=by omega
   have a:=Ab (Mb false s k (by omega));go_wp2
   go_ret
   have e:(Aj s).drop k= []:=List.drop_of_length_le (by rw[At];omega);exact ⟨⟨k,rfl,g,hk,by rw[Aa b,Aa a,e],by rw[Aa a,e]⟩,rfl⟩
end Go.Proofs.YtffkofkjpckmpaaGreatDoor
