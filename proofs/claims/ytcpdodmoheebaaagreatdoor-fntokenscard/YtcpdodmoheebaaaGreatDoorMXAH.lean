/-
  VPC, VPE, VPF, VPG, VPH, QE0. Own work.
-/
import Derived.Test.YtcpdodmoheebaaaGreatDoorVPB
import Derived.Test.YtcpdodmoheebaaaGreatDoorMXAC
import Derived.Test.YtcpdodmoheebaaaGreatDoorMXAE
import Derived.Test.YtcpdodmoheebaaaGreatDoorMXAD
import Derived.Test.YtcpdodmoheebaaaGreatDoorMXAK
namespace Go.Proofs.YtcpdodmoheebaaaGreatDoor
open Go.RowKit
set_option linter.unusedVariables false
def MV (x:Nd):Bool:=
 if x.op=1 then decide (0≤x.num) && decide (x.text.size=0) && decide (x.names.length=0)
 else if x.op=2 then BP x.text && decide (x.num=0) && decide (x.names.length=0)
 else if x.op=3 then decide (x.num=0∨x.num=1) && decide (x.text.size=0) && decide (x.names.length=0)
 else if x.op=4 then Ff x.names && decide (x.num=0) && decide (x.text.size=0)
 else if x.op=5 then BA x.text && decide (x.num=0) && decide (x.names.length=0)
 else if x.op=6∨x.op=7 then false
 else decide (x.num=0) && decide (x.text.size=0) && decide (x.names.length=0)
theorem Jb (x:Nd):AI x=(decide ((x.kids.length:Int)=Dl x.op) && MV x):=rfl
theorem Dh {w:World}{b:Nat}{c d f g:Value}{t:TypeId}(a:Ao w b #[c,d,f,g] t):w.cell? ⟨b,0,none⟩=some c∧w.cell? ⟨b,1,none⟩=some d∧w.cell? ⟨b,2,none⟩=some f∧w.cell? ⟨b,3,none⟩=some g∧∀ j,w.frozen? ⟨b,j,none⟩=false:=
 ⟨by simpa using a.cell 0,by simpa using a.cell 1,by simpa using a.cell 2,by simpa using a.cell 3,fun j=>a.frozen j⟩
structure Ku (w:World) (a:Option Addr) (n c:Nat) (L:List St):Prop where
 len:L.length=n
 small:n≤1048576
 sizes:∀ s∈L,s.name.size≤1048576
 cells:∀ j,(h:j < L.length)→∃ b off,a=some ⟨b,off,none⟩∧b < w.heap.size∧w.cell? ⟨b,off+j * 4,none⟩=some (.int .i64 L[j].kind)∧w.cell? ⟨b,off+j * 4+1,none⟩=some (.string L[j].name)∧w.cell? ⟨b,off+j * 4+2,none⟩=some (.int .i64 L[j].cond)∧w.cell? ⟨b,off+j * 4+3,none⟩=some (.int .i64 L[j].grant)
theorem Ku.below {w w':World}{B:Nat}{a:Option Addr}{n c:Nat}{L:List St}(h:Ku w a n c L)(d:Below B w w')(m:w.heap.size≤B):Ku w' a n c L:=
 ⟨h.len,h.small,h.sizes,fun j i=>by
  obtain ⟨b,f,k,hl,l,c1,c2,c3⟩:=h.cells j i
  have g:b < B:=by omega
  exact ⟨b,f,k,Nat.lt_of_lt_of_le hl d.size,(d.cell (p:=⟨b,f+j * 4,none⟩) g).trans l,(d.cell (p:=⟨b,f+j * 4+1,none⟩) g).trans c1,(d.cell (p:=⟨b,f+j * 4+2,none⟩) g).trans c2,(d.cell (p:=⟨b,f+j * 4+3,none⟩) g).trans c3⟩⟩
theorem L3:(Tryz.prog.info? 3).map (fun a=>(a.zero,a.size,a.bytes))=some (some (.int .i64 0),1,8):=by kernel_rfl
def Bk (L:List Int):List Value:=L.map (Value.int .i64)
theorem CT (w:World)(a:Value)(t:TypeId)(b:Nat)(c:b=w.heap.size):∀ j u,([a]:List Value)[j]? =some u→(w.alloc (.cells #[a] t)).cell? ((⟨b,0,none⟩:Addr).add j)=some u:=fun j u h=>by
 subst c
 have d:j=0:=by
  have:=(List.getElem?_eq_some_iff.1 h).1
  simp at this
  exact this
 subst d
 rw [← h]
 simp [Addr.add]
theorem Ao.grown {w w':World}{b:Nat}{a:Array Value}{t:TypeId}{row:Option Nat}(h:Ao w b a t)(c:w.grownBy w' row)(d:some b=row→False):Ao w' b a t:=⟨(c.block b h.lt d).trans h.out⟩
def KX (w:World) (b o:Nat) (x:Nd):Prop:=∃ an nn cn ak nk ck,w.cell? ⟨b,o,none⟩=some (.int .i64 x.op)∧w.cell? ⟨b,o+1,none⟩=some (.int .i64 x.num)∧w.cell? ⟨b,o+2,none⟩=some (.string x.text)∧w.cell? ⟨b,o+3,none⟩=some (.slice an nn cn)∧w.cell? ⟨b,o+4,none⟩=some (.slice ak nk ck)∧Bd w an nn cn x.names∧D2 w ak nk ck x.kids
structure Dx (w:World) (a:Option Addr) (n c:Nat) (L:List Nd):Prop where
 len:L.length=n
 small:n≤1048576
 sizes:∀ x∈L,x.text.size≤1048576
 cells:∀ j,(h:j < L.length)→∃ b off,a=some ⟨b,off,none⟩∧b < w.heap.size∧KX w b (off+j * 5) L[j]
theorem KX.below {w w':World}{B b a:Nat}{x:Nd}(h:KX w b a x)(hl:b < w.heap.size)(c:Below B w w')(f:w.heap.size≤B):KX w' b a x:=by
 obtain ⟨an,nn,g,i,j,k,l,c1,c2,c3,c4,m,n⟩:=h
 have d:b < B:=by omega
 exact ⟨an,nn,g,i,j,k,(c.cell (p:=⟨b,a,none⟩) d).trans l,(c.cell (p:=⟨b,a+1,none⟩) d).trans c1,(c.cell (p:=⟨b,a+2,none⟩) d).trans c2,(c.cell (p:=⟨b,a+3,none⟩) d).trans c3,(c.cell (p:=⟨b,a+4,none⟩) d).trans c4,m.below c f,n.below c f⟩
theorem Dx.below {w w':World}{B:Nat}{a:Option Addr}{n c:Nat}{L:List Nd}(h:Dx w a n c L)(d:Below B w w')(f:w.heap.size≤B):Dx w' a n c L:=
 ⟨h.len,h.small,h.sizes,fun j g=>by
  obtain ⟨b,i,k,hl,hc⟩:=h.cells j g
  exact ⟨b,i,k,Nat.lt_of_lt_of_le hl d.size,hc.below hl d f⟩⟩
theorem FD (L:List Nd):L.all AI=true↔∀ j,(h:j < L.length)→AI L[j]=true:=by
 rw [List.all_eq_true]
 constructor
 ·intro h j a;exact h _ (List.getElem_mem a)
 ·intro h x hx
  obtain ⟨j,a,rfl⟩:=List.getElem_of_mem hx
  exact h j a
end Go.Proofs.YtcpdodmoheebaaaGreatDoor
