/-
  Nodes in memory. Own work.
-/
import Derived.Test.YtchakjeegneeoaaGreatDoorMXAM
import Derived.Test.YtchakjeegneeoaaGreatDoorMXAD
import Derived.Test.YtchakjeegneeoaaGreatDoorMXAH
namespace Go.Proofs.YtchakjeegneeoaaGreatDoor
open Go.RowKit
set_option linter.unusedVariables false
def AcD (w:World) (b o:Nat) (x:Nd):Prop:=∃ an nn cn ak nk ck,w.cell? ⟨b,o,none⟩=some (.int .i64 x.op)∧w.cell? ⟨b,o+1,none⟩=some (.int .i64 x.num)∧w.cell? ⟨b,o+2,none⟩=some (.string x.text)∧w.cell? ⟨b,o+3,none⟩=some (.slice an nn cn)∧w.cell? ⟨b,o+4,none⟩=some (.slice ak nk ck)∧Bg w an nn cn x.names∧BT w ak nk ck x.kids
structure GQ (w:World) (a:Option Addr) (n c:Nat) (L:List Nd):Prop where
 len:L.length=n
 small:n≤1048576
 sizes:∀ x∈L,x.text.size≤1048576
 cells:∀ j,(h:j < L.length)→∃ b off,a=some ⟨b,off,none⟩∧b < w.heap.size∧AcD w b (off+j * 5) L[j]
theorem AcD.below {w w':World}{B b o:Nat}{x:Nd}(h:AcD w b o x)(l:b < w.heap.size)(a:Below B w w')(hB:w.heap.size≤B):AcD w' b o x:=by
 obtain ⟨an,nn,d,f,g,i,c0,c1,c2,c3,c4,j,k⟩:=h;have c:b < B:=by omega
 exact ⟨an,nn,d,f,g,i,(a.cell (p:=⟨b,o,none⟩) c).trans c0,(a.cell (p:=⟨b,o+1,none⟩) c).trans c1,(a.cell (p:=⟨b,o+2,none⟩) c).trans c2,(a.cell (p:=⟨b,o+3,none⟩) c).trans c3,(a.cell (p:=⟨b,o+4,none⟩) c).trans c4,j.below a hB,k.below a hB⟩
theorem GQ.below {w w':World}{B:Nat}{a:Option Addr}{n c:Nat}{L:List Nd}(h:GQ w a n c L)(d:Below B w w')(hB:w.heap.size≤B):GQ w' a n c L:=
 ⟨h.len,h.small,h.sizes,fun j g=>by
  obtain ⟨b,i,k,f,hc⟩:=h.cells j g;exact ⟨b,i,k,zM f d.size,hc.below f d hB⟩⟩
structure Jl (w:World):Prop where
 lt: 12 < w.heap.size
 cells:∀ k,w.cell? ⟨12,k,none⟩=Je[k]?
theorem Jl.below {w w':World}{B:Nat}(h:Jl w)(a:Below B w w')(hB:w.heap.size≤B):Jl w':=
 ⟨zM h.lt a.size,fun k=>(a.cell (p:=⟨12,k,none⟩) (zM h.lt hB)).trans (h.cells k)⟩
theorem II {a w':World}{b:Nat}{op num:Int}{text:ByteArray}{an c:Option Addr}{nn d f g:Nat}{t:TypeId}(R:Al a b #[.int .i64 op,.int .i64 num,.string text,.slice an nn d,.slice c f g] t)(h:Below a.heap.size a w'):
  w'.cell? ⟨b,0,none⟩=some (.int .i64 op)∧w'.cell? ⟨b,1,none⟩=some (.int .i64 num)∧w'.cell? ⟨b,2,none⟩=some (.string text)∧w'.cell? ⟨b,3,none⟩=some (.slice an nn d)∧w'.cell? ⟨b,4,none⟩=some (.slice c f g):=by
 obtain ⟨c0,c1,c2,c3,c4,_⟩:=Gr (R.after h NLN);exact ⟨c0,c1,c2,c3,c4⟩
theorem G0 (L:List Nd):L.all As=true↔∀ j,(h:j < L.length)→As L[j]=true:=by
 rw[z6];constructor
 ·intro h j a;exact h _ (zO a)
 ·intro h x hx;obtain ⟨j,a,rfl⟩:=Z1 hx;exact h j a
end Go.Proofs.YtchakjeegneeoaaGreatDoor
