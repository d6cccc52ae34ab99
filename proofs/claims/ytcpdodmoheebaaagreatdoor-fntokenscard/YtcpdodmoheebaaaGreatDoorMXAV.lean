/-
  KTO, KTQ. Own work.
-/
import Derived.Test.YtcpdodmoheebaaaGreatDoorMXAU
import Derived.Test.YtcpdodmoheebaaaGreatDoorMXAM
import Derived.Test.YtcpdodmoheebaaaGreatDoorMXAF
import Derived.Test.YtcpdodmoheebaaaGreatDoorMXAN
import Derived.Test.YtcpdodmoheebaaaGreatDoorMXAK
namespace Go.Proofs.YtcpdodmoheebaaaGreatDoor
set_option maxHeartbeats 800000
open Go.RowKit
set_option linter.unusedVariables false
theorem IM {w:World}{a:Option Addr}{n c:Nat}{N:List Nd}{L:List St}{s:ByteArray}(h1:Dx w a n c N)(f:∀ x∈N,x.num≤9223372036854775807)(h:FZ N L s):s.size≤30000000000:=by
 rcases h with ⟨_,rfl⟩ | ⟨b,g⟩
 ·have:(⟨#[]⟩:ByteArray).size=0:=rfl
  omega
 ·have P:=GZ b
  obtain ⟨Es,hl,d,i⟩:=G5 h1 P.fields f P.kids
  have e:s=EQ Es L:=FZ.one (.inr ⟨b,g⟩) (.inr ⟨b,Es,hl,d,rfl⟩)
  have h2:=Fa (w:=w) (Es:=Es) (L:=L) (Jo P hl d i)
  have h3:=P.m
  rw [e]
  omega
theorem JR (a:Option Addr)(n c:Nat)(d:List ByteArray)(w:World)(h:Bd w a n c d)(h1:n≤100)(h2:∀ x∈d,x.size≤1000)(i:ByteArray)(h3:i.size≤10):
  Calls Tryz.prog 18 #[.slice a n c,.string i] w fun e w'=>(∃ t:ByteArray,e= .returned (.string t)∧t.size≤200000)∧w'=w:=by
 have l:=Ab h.len
 have m:=Ab h2
 clear h2
 go_enter Tryz.func18,Tryz.ntmps18
 go_wp2
 go_loop [5,6,7,10] (fun s _ _ f=>∃ (k:Nat) (g:ByteArray),k≤n∧f= .int .i64 k∧s= .string g∧g.size≤1100 * k) (fun _ _ _ f=>n - (intOf f).toNat)
 case atStart=>exact ⟨0,⟨#[]⟩,Nat.zero_le _,rfl,rfl,Nat.le_refl _⟩
 case round=>
  obtain ⟨k,g,u,rfl,rfl,v⟩:=hrel
  by_cases o:k < n
  ·obtain ⟨b,y,p,_,hc⟩:=h.cells k o
   subst p
   have j:k < d.length:=by have:=Aa l;omega
   have q:(CK d k).size≤1000:=by rw [BE _ k j];exact Aa m _ (List.getElem_mem j)
   generalize CK d k=x at hc q
   by_cases h0:k=0
   ·have r: ¬ ((0 :Int) < (k:Int)):=by omega
    clear h0
    go_wp2
    go_round
    case rel=>exact ⟨k+1,_,by omega,by go_num,rfl,by rw [Ae];omega⟩
    case measure=>simp [intOf];omega
   ·have r:(0 :Int) < (k:Int):=by omega
    clear h0
    go_wp2
    go_round
    case rel=>exact ⟨k+1,_,by omega,by go_num,rfl,by rw [Ae,Ae];omega⟩
    case measure=>simp [intOf];omega
  ·go_wp2
   go_ret
   exact ⟨⟨_,rfl,by omega⟩,rfl⟩
theorem Ln (b:Nat)(a:Option Addr)(n c:Nat)(w:World)(h:Ba w b a n c):
  Calls Tryz.prog 14 #[.pointer (some ⟨b,0,none⟩)] w fun e w'=>∃ r:Int,e= .returned (.int .i64 r)∧0≤r∧r≤255∧(n=0→r=0)∧Ba w' b a n c∧As b (b+1) w w':=by
 by_cases d:n=0
 ·subst d
  obtain ⟨p,h⟩:=h
  have f:=h.row.cell 0
  have c1:=h.row.cell 1
  simp at f c1
  have k:((0 :Nat):Int)≤(p:Int):=by omega
  have l:(0 :Int)≤(p:Int):=by omega
  go_enter Tryz.func14,Tryz.ntmps14
  go_wp2
  go_quiet (fail)
  go_wp2
  go_ret
  exact ⟨_,rfl,by omega,by omega,fun _=>rfl,⟨p,h.after (below_drewN (Below.refl (b+1) w) _) (by omega)⟩,As.drewN w _⟩
 ·refine (AK b a n c w h).mono ?_
  rintro e m ⟨r,rfl,g,i,h1,j⟩
  exact ⟨r,rfl,g,i,fun e=>absurd e d,h1,j⟩
set_option maxHeartbeats 3200000
theorem F4 (s:ByteArray)(w:World)(hs:s.size≤4000)(i:Be false (Ad s)= []):
  Calls Tryz.prog 8 #[.string s] w fun e w'=>e= .returned (.bool true)∧w'=w:=by
 go_enter Tryz.func8,Tryz.ntmps8
 go_wp2
 go_loop [3] (fun c=>∃ k:Nat,k≤s.size+1∧c= .int .i64 k∧Be false ((Ad s).drop k)= []) (fun c=>s.size+1 - (intOf c).toNat)
 case atStart=>exact ⟨0,by omega,rfl,by rw [List.drop_zero];exact i⟩
 case round=>
  obtain ⟨k,o,rfl,he⟩:=hrel
  have f:=Ab he
  clear he i
  by_cases d:k < s.size
  ·have m:(k:Int) < (s.size:Int):=by omega
   by_cases h1:(s[k].toNat:Int)=32
   ·have b:=Ab (Ct s k d (.inl h1))
    go_wp2
    go_round
    case rel=>exact ⟨k+1,by omega,by go_num,by rw [← Aa b,Aa f]⟩
    case measure=>simp [intOf];omega
   by_cases h2:(s[k].toNat:Int)=10
   ·have b:=Ab (Ct s k d (.inr (.inl h2)))
    go_wp2
    go_round
    case rel=>exact ⟨k+1,by omega,by go_num,by rw [← Aa b,Aa f]⟩
    case measure=>simp [intOf];omega
   by_cases h3:(s[k].toNat:Int)=9
   ·have b:=Ab (Ct s k d (.inr (.inr h3)))
    go_wp2
    go_round
    case rel=>exact ⟨k+1,by omega,by go_num,by rw [← Aa b,Aa f]⟩
    case measure=>simp [intOf];omega
   by_cases h4:(s[k].toNat:Int)=35
   ·have b:=Ab (Fb s k d h4)
    go_wp2
    go_loop [3] (fun c=>∃ a:Nat,k≤a∧a≤s.size∧c= .int .i64 a∧Be true ((Ad s).drop a)= []) (fun c=>s.size - (intOf c).toNat)
    case atStart=>exact ⟨k,Nat.le_refl _,by omega,rfl,by rw [← Aa b,Aa f]⟩
    case round=>
     obtain ⟨a,p,q,rfl,j⟩:=hrel
     have l:=Ab j
     clear j
     by_cases g:a < s.size
     ·have n:(a:Int) < (s.size:Int):=by omega
      by_cases h10:(s[a].toNat:Int)=10
      ·have h:=Ab ((g0 s a g h10).trans (Ct s a g (.inr (.inl h10))))
       have r:a≠k:=fun e=>by subst e;omega
       go_wp2
       go_round
       case rel=>exact ⟨a+1,by omega,by go_num,by rw [← Aa h,Aa l]⟩
       case measure=>simp [intOf];omega
      ·have h:=Ab (Gx s a g h10)
       go_wp2
       go_round
       case rel=>exact ⟨a+1,by omega,by omega,by go_num,by rw [← Aa h,Aa l]⟩
       case measure=>simp [intOf];omega
     ·have n: ¬ ((a:Int) < (s.size:Int)):=by omega
      go_wp2
      go_round
      case rel=>exact ⟨a+1,by omega,by go_num,DG false s (a+1) (by omega)⟩
      case measure=>simp [intOf];omega
   ·exfalso
    have b:=Ed s k d h1 h2 h3 h4
    rw [Aa f,AD s k d] at b
    cases b
  ·have m: ¬ ((k:Int) < (s.size:Int)):=by omega
   go_wp2
   go_ret
   exact ⟨rfl,rfl⟩
theorem Jp (c:UInt8):AU c=decide ((48 :Int)≤(c.toNat:Int)∧(c.toNat:Int)≤57):=by
 rw [AU,dgI]
theorem JS (s:ByteArray)(k m:Int)(c:List UInt8)(j b:Nat)(w:World)(hs:s.size≤4000)(F:j < s.size)(o:AT ((Ad s).drop j)= .tok k m c b):
  Calls Tryz.prog 7 #[.agg #[.int .i64 k,.int .i64 m,.string (Bo c),.int .i64 (j:Int)],.string s] w fun e w'=>e= .returned (.int .i64 (b:Int))∧Below w.heap.size w w':=by
 have f:=AD s j F
 have q:=o
 rw [f] at q
 have n:=Ab (JJ q)
 have z:(Bo c).size=c.length:=by rw [← Ag,DF]
 have A:=Cm ((Ad s).drop j)
 rw [o] at A
 obtain ⟨K,G,H⟩: 1≤b∧b≤((Ad s).drop j).length∧c.length≤b:=A
 rw [List.length_drop,Ag] at G
 clear o q
 have g:=(Below.refl w.heap.size w).alloc (Nat.le_refl _) (.cells #[.int .i64 k,.int .i64 m,.string (Bo c),.int .i64 (j:Int)] 30)
 have l:=Ao.new w #[.int .i64 k,.int .i64 m,.string (Bo c),.int .i64 (j:Int)] 30
 have r:=Ab z
 have hx:(Bo c).size≤4000:=by omega
 clear z H
 generalize Bo c=t at g l r hx ⊢
 rcases Aa n with ⟨u,e⟩ | ⟨u,e⟩ | ⟨h1,h2,e⟩
 ·subst u
  obtain ⟨v,c1,c2,c3,-⟩:=An l
  have he:=Ab (show (b:Int)=((t.size:Int)+2) by have:=Aa r;omega)
  clear e n
  go_enter Tryz.func7,Tryz.ntmps7
  go_wp2_with fail
  go_ret
  exact ⟨by rw [Aa he];rfl,g⟩
 ·subst u
  obtain ⟨v,c1,c2,c3,-⟩:=An l
  rw [← f] at e
  have I:Hid (Bl AU s j=j+b):=Ab (by rw [Bu,← e])
  clear e n f
  go_enter Tryz.func7,Tryz.ntmps7
  go_wp2_with fail
  generalize w.alloc (.cells #[.int .i64 1,.int .i64 m,.string t,.int .i64 (j:Int)] 30)=L at g v c1 c2 c3 l ⊢
  go_loop [5] (fun x=>∃ a:Nat,x= .int .i64 a∧a≤b∧Bl AU s (j+a)=j+b) (fun x=>b - (intOf x).toNat)
  case atStart=>exact ⟨0,rfl,Nat.zero_le _,Aa I⟩
  case round=>
   obtain ⟨a,rfl,M,B⟩:=hrel
   have y:=Ab B
   clear B
   by_cases h1:j+a < s.size
   ·have J:(j:Int)+(a:Int) < (s.size:Int):=by omega
    cases d:AU s[j+a] with
    | true=>
     have C:=BG (p:=AU) h1 d
     have i:=Ab (C.symm.trans (Aa y))
     have D:=Ab (show a < b by
      have h2:=(Gy (p:=AU) (s:=s) (j:=j+a+1) (by omega)).1
      have h3:=Aa i
      omega)
     rw [Jp] at d
     have ⟨d1,d2⟩:=of_decide_eq_true d
     clear C d
     go_wp2_with fail
     refine ⟨⟨a+1,by go_num,Aa D,Aa i⟩,?_⟩
     have:=Aa D
     simp [intOf]
     omega
    | false=>
     have i:=Ab ((BH (p:=AU) h1 d).symm.trans (Aa y))
     rw [Jp] at d
     have f:=of_decide_eq_false d
     have E:=Ab (show (b:Int)=(a:Int) by have h2:=Aa i;omega)
     clear i d
     by_cases d1:(48 :Int)≤(s[j+a].toNat:Int)
     ·have d2: ¬ ((s[j+a].toNat:Int)≤57):=fun h=>f ⟨d1,h⟩
      clear f
      go_wp2_with fail
      go_ret
      exact ⟨by rw [Aa E];rfl,g⟩
     ·clear f
      go_wp2_with fail
      go_ret
      exact ⟨by rw [Aa E];rfl,g⟩
   ·have J: ¬ ((j:Int)+(a:Int) < (s.size:Int)):=by omega
    have i:=Ab (show (b:Int)=(a:Int) by
     have h2:=Aa y
     rw [Cf (by omega)] at h2
     omega)
    go_wp2_with fail
    go_ret
    exact ⟨by rw [Aa i];rfl,g⟩
 ·obtain ⟨v,c1,c2,c3,-⟩:=An l
  have e1:=beq_eq_false_iff_ne.2 h1
  have e2:=beq_eq_false_iff_ne.2 h2
  have he:=Ab (show (b:Int)=(t.size:Int) by have:=Aa r;omega)
  clear e n
  go_enter Tryz.func7,Tryz.ntmps7
  go_wp2_with fail
  go_ret
  exact ⟨by rw [Aa he];rfl,g⟩
end Go.Proofs.YtcpdodmoheebaaaGreatDoor
