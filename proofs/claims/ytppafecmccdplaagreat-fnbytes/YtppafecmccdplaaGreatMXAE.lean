import Derived.Test.YtppafecmccdplaaGreatMXAB
import Derived.Test.YtppafecmccdplaaGreatNames
open Go.Proofs.Tryz
open Go.Value renaming int->U,string->Q
open Bool renaming true->R,false->jA
open Go.Proofs.Tryz renaming prog->jL
namespace Go.Proofs.YtppafecmccdplaaGreat
set_option maxHeartbeats 1600000
open Go.RowKit
set_option linter.unusedVariables false
variable {s:ByteArray}{L:List (List UInt8)}{x:List UInt8}{k:Nat}{c:UInt8}
theorem Dl (c:Int)(w:World):
  Calls jL 113 #[U .u8 c] w fun e w'=>e= .returned (.bool (ltI c))/\w'=w:=by
 go_enter func113,ntmps113
 go_wp2
 all_goals
  go_ret
  refine⟨Ag ?_,rfl⟩;rw[zY]
  simp_all[ltI]
  try omega
theorem Km (c:Int)(w:World):
  Calls jL 124 #[U .u8 c] w fun e w'=>e= .returned (.bool (dgI c))/\w'=w:=by
 go_enter func124,ntmps124
 go_wp2
 all_goals
  go_ret
  refine⟨Ag ?_,rfl⟩;rw[zY]
  simp_all[dgI]
  try omega
theorem Ad0 (h:Vb c=R):ltI (c.toNat:Int)=R\/(ltI (c.toNat:Int)=jA/\dgI (c.toNat:Int)=R)\/(ltI (c.toNat:Int)=jA/\dgI (c.toNat:Int)=jA/\(c.toNat:Int)=95):=by
 rw[Vb,wdI]at h;cases h1:ltI (c.toNat:Int)
 ·cases a:dgI (c.toNat:Int)
  ·rw[h1,a]at h;simp at h;exact .inr (.inr ⟨rfl,rfl,by omega⟩)
  ·exact .inr (.inl ⟨rfl,rfl⟩)
 ·exact .inl rfl
theorem Abm (h:Vb c=jA):ltI (c.toNat:Int)=jA/\dgI (c.toNat:Int)=jA/\¬ (c.toNat:Int)=95:=by
 rw[Vb,wdI]at h;simp only[Bool.or_eq_false_iff,decide_eq_false_iff_not]at h;exact⟨h.1.1,h.1.2,h.2⟩
theorem Ua (s:ByteArray)(j:Nat)(w:World)(hs:s.size<=maxLen)(l:j<=s.size):
  Calls jL 114 #[Q s,U .i64 j] w fun e w'=>e= .returned (U .i64 (Of Vb s j:Nat))/\w'=w:=by
 unfold maxLen at hs;go_enter func114,ntmps114
 go_wp2
 go_loop [1] (fun i=>∃k:Nat,j<=k/\k<=s.size/\i=U .i64 k/\Of Vb s j=Of Vb s k) (fun i=>s.size-(intOf i).toNat)
 case atStart=>exact⟨j,NLN,l,rfl,rfl⟩
 case round=>
  obtain⟨k,o,hk,rfl,he⟩:=hrel;have d:=Ab he;clear he;by_cases h:k<s.size
  ·have m:(k:Int)<(s.size:Int):=by omega
   cases a:Vb s[k]
   ·have b:=Ab (Abi h a);obtain⟨h1,c,n⟩:=Abm a;have f:=Ab h1;have g:=Ab c;clear a h1 c;go_wp2_with (first|(go_at_call 113;refine(Dl _ _).mono ?_;rintro e w' ⟨rfl,rfl⟩;rw[Aa f])|(go_at_call 124;refine(Km _ _).mono ?_;rintro e w' ⟨rfl,rfl⟩;rw[Aa g]))
    go_ret
    exact⟨UG (by rw[Aa d,Aa b]),rfl⟩
   ·have b:=Ab (Abh h a);rcases Ad0 a with h1|⟨h1,c⟩|⟨h1,c,n⟩
    ·have f:=Ab h1;clear a h1;go_wp2_with (go_at_call 113;refine(Dl _ _).mono ?_;rintro e w' ⟨rfl,rfl⟩;rw[Aa f])
     go_round
     case rel=>exact⟨k+1,by omega,by omega,by go_num,by rw[Aa d,Aa b]⟩
     case measure=>simp[intOf];omega
    ·have f:=Ab h1;have g:=Ab c;clear a h1 c;go_wp2_with (first|(go_at_call 113;refine(Dl _ _).mono ?_;rintro e w' ⟨rfl,rfl⟩;rw[Aa f])|(go_at_call 124;refine(Km _ _).mono ?_;rintro e w' ⟨rfl,rfl⟩;rw[Aa g]))
     go_round
     case rel=>exact⟨k+1,by omega,by omega,by go_num,by rw[Aa d,Aa b]⟩
     case measure=>simp[intOf];omega
    ·clear a h1 c;go_wp2_with (first|(go_at_call 113;refine(Dl _ _).mono ?_;rintro e w' ⟨rfl,rfl⟩;rw[show ltI 95=jA from by decide])|(go_at_call 124;refine(Km _ _).mono ?_;rintro e w' ⟨rfl,rfl⟩;rw[show dgI 95=jA from by decide]))
     go_round
     case rel=>exact⟨k+1,by omega,by omega,by go_num,by rw[Aa d,Aa b]⟩
     case measure=>simp[intOf];omega
  ·have b:=Ab (AdY (p:=Vb) (s:=s) (j:=k) (by omega));have m: ¬ ((k:Int)<(s.size:Int)):=by omega
   go_wp2
   go_ret
   exact⟨UG (by rw[Aa d,Aa b]),rfl⟩
def UY (L:List (List UInt8)):Array Value:=(L.map fun l=>Value.string (ofL l)).toArray
theorem Abn (h:L[k]? =some x):(UY L)[k]? =some (Q (ofL x)):=by
 simp[UY,h]
theorem UZ (h:(s.toList==(ofL x).toList)=R):LY s=x:=by
 rw[zF,zy,zy]at h;exact h
theorem SR (h:(s.toList==(ofL x).toList)=jA):LY s≠x:=by
 rw[zA,zy,zy]at h;exact h
def Mb (L:List (List UInt8)) (k:Nat) (l:List UInt8):Prop:=∀i,i<k->L[i]? ≠some l
theorem Mb.next {l x:List UInt8}(h:Mb L k l)(hx:L[k]? =some x)(a:l≠x):Mb L (k+1) l:=fun i hi e=>by
 by_cases hk:i=k
 ·subst hk;rw[hx]at e;exact a (Option.some.inj e).symm
 ·exact h i (by omega) e
theorem Mb.all {l:List UInt8}(h:Mb L L.length l):L.contains l=jA:=by
 rw[<-Bool.not_eq_true,List.contains_iff_mem];intro hm;obtain⟨i,hi,e⟩:=z9 hm;exact h i hi (by rw[zL hi,e])
theorem Abo (h:L[k]? =some x):L.contains x=R:=by
 rw[List.contains_iff_mem];exact zu h
theorem YP (s:ByteArray)(w:World):
  Calls jL 115 #[Q s] w fun e w'=>e= .returned (.bool (Abl (LY s)))/\An w w':=by
 have R:Ah (w.alloc (.cells #[Q ⟨#[108,101,116]⟩,Q ⟨#[119,104,101,110]⟩,Q ⟨#[101,108,115,101]⟩,Q ⟨#[100,101,110,121]⟩,Q ⟨#[103,114,97,110,116]⟩,Q ⟨#[105,102]⟩,Q ⟨#[116,104,101,110]⟩,Q ⟨#[110,111,116]⟩,Q ⟨#[97,110,100]⟩,Q ⟨#[111,114]⟩,Q ⟨#[105,110]⟩,Q ⟨#[119,105,116,104,105,110]⟩,Q ⟨#[115,105,122,101]⟩,Q ⟨#[116,114,117,101]⟩,Q ⟨#[102,97,108,115,101]⟩] 9)) w.heap.size (UY Oh) 9:=Ah.new w (UY Oh) 9;have c:=AN w (.cells #[Q ⟨#[108,101,116]⟩,Q ⟨#[119,104,101,110]⟩,Q ⟨#[101,108,115,101]⟩,Q ⟨#[100,101,110,121]⟩,Q ⟨#[103,114,97,110,116]⟩,Q ⟨#[105,102]⟩,Q ⟨#[116,104,101,110]⟩,Q ⟨#[110,111,116]⟩,Q ⟨#[97,110,100]⟩,Q ⟨#[111,114]⟩,Q ⟨#[105,110]⟩,Q ⟨#[119,105,116,104,105,110]⟩,Q ⟨#[115,105,122,101]⟩,Q ⟨#[116,114,117,101]⟩,Q ⟨#[102,97,108,115,101]⟩] 9);go_enter func115,ntmps115
 go_wp2
 generalize w.alloc (.cells #[Q ⟨#[108,101,116]⟩,Q ⟨#[119,104,101,110]⟩,Q ⟨#[101,108,115,101]⟩,Q ⟨#[100,101,110,121]⟩,Q ⟨#[103,114,97,110,116]⟩,Q ⟨#[105,102]⟩,Q ⟨#[116,104,101,110]⟩,Q ⟨#[110,111,116]⟩,Q ⟨#[97,110,100]⟩,Q ⟨#[111,114]⟩,Q ⟨#[105,110]⟩,Q ⟨#[119,105,116,104,105,110]⟩,Q ⟨#[115,105,122,101]⟩,Q ⟨#[116,114,117,101]⟩,Q ⟨#[102,97,108,115,101]⟩] 9)=f at R c|-;go_loop [7] (fun i=>∃k:Nat,k<=15/\i=U .i64 k/\Mb Oh k (LY s)) (fun i=>15-(intOf i).toNat)
 case atStart=>exact⟨0,by omega,rfl,fun i hi=>by omega⟩
 case round=>
  obtain⟨k,hk,rfl,a⟩:=hrel;by_cases d:k<15
  ·have g:(k:Int)<15:=by omega
   obtain⟨x,hx⟩:∃x,Oh[k]? =some x:=⟨Oh[k]'d,zL d⟩
   have hc:=(R.cell k).trans (Abn hx);rcases Bool.eq_false_or_eq_true (s.toList==(ofL x).toList)with h|h
   ·have b:=Ab (show Abl (LY s)=true by rw[UZ h];exact Abo hx);clear a hx;go_wp2
    go_ret
    exact⟨Ag (Aa b).symm,c⟩
   ·have b:=Ab (a.next hx (SR h));clear a hx;go_wp2
    go_round
    case rel=>exact⟨k+1,by omega,by go_num,Aa b⟩
    case measure=>simp[intOf];omega
  ·have e:k=15:=by omega
   subst e;have b:=Ab (show Abl (LY s)=jA from Mb.all a);clear a;go_wp2
   go_ret
   exact⟨Ag (Aa b).symm,c⟩
end Go.Proofs.YtppafecmccdplaaGreat
