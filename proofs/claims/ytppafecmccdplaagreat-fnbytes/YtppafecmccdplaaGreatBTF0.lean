import Derived.Test.YtppafecmccdplaaGreatBTD
import Derived.Test.YtppafecmccdplaaGreatMXAJ
open Go.Proofs.Tryz renaming prog->jL
namespace Go.Proofs.YtppafecmccdplaaGreat
open Go.RowKit
set_option linter.unusedVariables false
section
variable (B R gb : Nat) (a : Option Addr) (n c : Nat) (zs : List Int) (k : Nat)
structure Fit (d m:Nat) (s:Gs):Prop where
 ins:s.I.length+m*mI d<=80000
 pool:s.P.length+m*mI d<=80000
 st:s.st.length+m*2 ^ d<=80000
 sl:s.sl.length=k
def AbS (d:Nat):Prop:=∀(m:Nat) (s:Gs) (w:World),m<=40->GS B R gb a n c zs k s w->Fit k d m s->Calls jL 55 #[.pointer (some ⟨gb,0,none⟩),.int .i64 m,.int .i64 ((3-d:Nat):Int)] w (GA B R gb a n c zs k w (Mf (Hj zs k d) zs k s.st.length (3-d) m s))
def BrC (d:Nat):Prop:=∀(s:Gs) (w:World),GS B R gb a n c zs k s w->1<=s.st.length->Fit k d 1 s->Calls jL 86 #[.pointer (some ⟨gb,0,none⟩),.int .i64 ((3-d:Nat):Int)] w (GA B R gb a n c zs k w (Hj zs k d s))
end
theorem Aak (t:Int)(h: 8<=t)(h':t<=24): 1<=(CG t).1.length/\(CG t).1.length<=2:=by
 rcases(show t=8\/t=9\/t=10\/t=11\/t=12\/t=13\/t=14\/t=15\/t=16\/t=17\/t=18\/t=19\/t=20\/t=21\/t=22\/t=23\/t=24 by omega)with rfl|rfl|rfl|rfl|rfl|rfl|rfl|rfl|rfl|rfl|rfl|rfl|rfl|rfl|rfl|rfl|rfl<;>decide
theorem Fit.next {k d m:Nat}{s a:Gs}{low:Nat}(h:Fit k d (m+1) s)(g:Grw (mI d) (2 ^ d) low s a):Fit k d m a:=by
 have h1:=h.ins;have b:=h.pool;have c:=h.st;have f:=g.ins;have i:=g.pool;have j:=g.st;rw[Nat.add_mul,Nat.one_mul]at h1 b c;exact⟨by omega,by omega,by omega,g.sl.trans h.sl⟩
end Go.Proofs.YtppafecmccdplaaGreat
