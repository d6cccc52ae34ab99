/-
  Sets, Laws0. Own work.
-/
import Derived.Test.YtffkofkjpckmpaaGreatDoorMXAC
import Derived.WalkKit
import Derived.RegionTactic
import Derived.ChangeAlike
import Derived.Deep.QuietTactic
import Derived.BigQuiet
import Derived.WalkSpells
import Derived.WalkLawsBesides
namespace Go.Proofs.YtffkofkjpckmpaaGreatDoor
open Go.RowKit
def D0 (ss:List ByteArray) (k:Nat):ByteArray:=ss.getD k ByteArray.empty
theorem Cw (a:List ByteArray)(k:Nat)(h:k < a.length):D0 a k=a[k]:=by
 simp[D0,List.getD,h]
structure BL (w:World) (a:Option Addr) (n c:Nat) (ss:List ByteArray):Prop where
 len:n=ss.length
 cap:n≤c
 small:c≤maxLen
 sizes:∀ j,j < n→(D0 ss j).size≤maxLen
 cells:∀ j,j < n→∃ b off,a=some ⟨b,off,none⟩∧b < w.heap.size∧w.cell? ⟨b,off+j,none⟩=some (.string (D0 ss j))
theorem BL.below {w w':World}{B:Nat}{a:Option Addr}{n c:Nat}{d:List ByteArray}(h:BL w a n c d)(f:Below B w w')(k:w.heap.size≤B):BL w' a n c d:=
 ⟨h.len,h.cap,h.small,h.sizes,fun j l=>by
  obtain ⟨b,g,m,i,hc⟩:=h.cells j l;exact ⟨b,g,m,zY i f.size,by rw[← hc];exact f.cell (p:=⟨b,g+j,none⟩) (zY i k)⟩⟩
theorem BL.at {w:World}{a:Option Addr}{n c:Nat}{g:List ByteArray}(h:BL w a n c g)(k: 0 < n):
  ∃ b d,a=some ⟨b,d,none⟩∧b < w.heap.size∧∀ j,j < n→w.cell? ⟨b,d+j,none⟩=some (.string (D0 g j)):=by
 obtain ⟨b,d,i,l,_⟩:=h.cells 0 k;refine ⟨b,d,i,l,fun j m=>?_⟩;obtain ⟨p,q,f,_,o⟩:=h.cells j m;rw[i] at f;simp only[Option.some.injEq,Addr.mk.injEq,and_true] at f;obtain ⟨rfl,rfl⟩:=f;exact o
def sl (a b:ByteArray):Bool:=Op.bytesLess a.toList b.toList
theorem JY:∀ (x y:List UInt8),Op.bytesLess x y=decide (x < y)
 | [], []=>by simp[Op.bytesLess]
 |_ ::_, []=>by simp[Op.bytesLess]
 | [],_ ::_=>by simp[Op.bytesLess]
 |a ::x,b ::y=>by
  rw[Op.bytesLess,JY x y];simp only[List.cons_lt_cons_iff];by_cases h1:a < b <;> by_cases h2:a=b <;> by_cases h3:x < y <;> simp[h1,h2,h3]
theorem Mg (a b:ByteArray):sl a b=true↔a.data.toList < b.data.toList:=by
 rw[sl,JY,zZ,zZ];simp
theorem GP {a b c:ByteArray}(h:sl a b=true)(k:sl b c=true):sl a c=true:=by
 rw[Mg] at *;exact List.lt_trans h k
theorem DG (a:ByteArray):sl a a=false:=by
 rw[Z2];intro h;rw[Mg] at h;exact List.lt_irrefl _ h
theorem Ij {a b:ByteArray}(h:a.data.toList=b.data.toList):a=b:=by
 cases a with | mk x=>cases b with | mk y=>cases x;cases y;simp at h;subst h;rfl
theorem TN (a b:ByteArray)(h1:sl a b=false)(h2:sl b a=false):a=b:=by
 apply Ij;rw[Z2] at h1 h2;rw[Ne,Mg] at h1 h2;exact List.le_antisymm (List.not_lt.1 h2) (List.not_lt.1 h1)
theorem Mh {a b:ByteArray}(h:sl a b=true):sl b a=false:=by
 rw[Z2];intro k;have:=GP h k;rw[DG] at this;cases this
def Fz (ss:List ByteArray):Bool:=decide (ss.Pairwise fun a b=>sl a b=true)
def Ks (ss:List ByteArray):Bool:=ss.all vnB
def EK (ss:List ByteArray):Bool:=decide (ss.length≤64) && (Ks ss && Fz ss)
theorem Ta (a:List ByteArray):Ks a=true↔∀ j,j < a.length→vnB (D0 a j)=true:=by
 rw[Ks,z1];constructor
 ·intro h j b;rw[Cw a j b];exact h _ (zP b)
 ·intro h x hx;obtain ⟨j,b,rfl⟩:=yE hx;rw[← Cw a j b];exact h j b
theorem We (a:List ByteArray)(h:∀ j,j < a.length→vnB (D0 a j)=true):Ks a=true:=(Ta a).2 h
theorem Tb (a:List ByteArray)(j:Nat)(b:j < a.length)(h:vnB (D0 a j)=false):Ks a=false:=by
 rw[Z2];intro k;rw[(Ta a).1 k j b] at h;cases h
theorem Np (a:List ByteArray):Fz a=true↔∀ i j,i < j→j < a.length→sl (D0 a i) (D0 a j)=true:=by
 rw[Fz,zF,List.pairwise_iff_getElem];constructor
 ·intro h i j c b;rw[Cw a i (by omega),Cw a j b];exact h i j (by omega) b c
 ·intro h i j hi b c;rw[← Cw a i hi,← Cw a j b];exact h i j c b
theorem Tc (a:List ByteArray)(i j:Nat)(b:i < j)(c:j < a.length)(h:sl (D0 a i) (D0 a j)=false):Fz a=false:=by
 rw[Z2];intro k;rw[(Np a).1 k i j b c] at h;cases h
theorem ZL (a:List ByteArray)(n:Nat)(h:∀ i,0 < i→i < n→sl (D0 a (i - 1)) (D0 a i)=true):∀ d i,i+d+1 < n→sl (D0 a i) (D0 a (i+d+1))=true:=by
 intro d
 induction d with
 |zero=>intro i hi;have:=h (i+1) (by omega) hi;simpa using this
 |succ d b=>
  intro i hi;have h1:=b i (by omega);have h2:=h (i+(d+1)+1) (by omega) hi;rw[show i+(d+1)+1 - 1=i+d+1 from by omega] at h2;exact GP h1 h2
theorem QI (a:List ByteArray)(h:∀ i,0 < i→i < a.length→sl (D0 a (i - 1)) (D0 a i)=true):Fz a=true:=by
 rw[Np];intro i j b c;have:=ZL a a.length h (j - i - 1) i (by omega);rw[show i+(j - i - 1)+1=j from by omega] at this;exact this
theorem Pu (a:List ByteArray)(h: 64 < a.length):EK a=false:=by
 have: ¬ a.length≤64:=by omega
 simp[EK,this]
theorem Ja (a:List ByteArray)(h:a.length≤64):EK a=(Ks a && Fz a):=by
 simp[EK,h]
theorem ER {k:IntKind}{a b:Int}(h:a=b):Ending.returned (.int k a)= .returned (.int k b):=by rw[h]
theorem BL.of_owns {w:World}{k e:Nat}{a:Option Addr}{n c:Nat}{b:List ByteArray}(h:w.ownsRow k e 1 (.slice a n c) n (b.map Value.string))(hs:∀ j,j < n→(D0 b j).size≤maxLen):
  BL w a n c b:=by
 have f:b.length=n:=by simpa using h.1
 have l:=h;rcases h.2 with ⟨d,h0⟩ | ⟨g,cap,q,d,r,m,o,p,s,t⟩
 ·simp only[Value.slice.injEq] at d;obtain ⟨rfl,rfl,rfl⟩:=d;exact ⟨f.symm,NLN,zN _,hs,fun j i=>by omega⟩
 ·simp only[Value.slice.injEq,true_and] at d;obtain ⟨rfl,rfl⟩:=d;refine ⟨f.symm,o,p,hs,fun j i=>⟨g,0,rfl, ?_, ?_⟩⟩
  ·exact (yD.1 m).1
  ·have:=l.cellAt j (by omega);rw[zW,this,Cw b j (by omega)];simp[f,i]
theorem Mf:(Tryz.prog.info? 9).map (fun i=>(i.zero,i.size,i.bytes))=some (some (.string ByteArray.empty),1,16):=by kernel_rfl
end Go.Proofs.YtffkofkjpckmpaaGreatDoor
