/-
  VPH, ONA. Own work.
-/
import Derived.Test.YtffkofkjpckmpaaGreatDoorMXAL
import Derived.Test.YtffkofkjpckmpaaGreatDoorMXAJ
import Derived.Test.YtffkofkjpckmpaaGreatDoorMXAN
import Derived.Test.YtffkofkjpckmpaaGreatDoorMXAR
namespace Go.Proofs.YtffkofkjpckmpaaGreatDoor
open Go.RowKit
set_option linter.unusedVariables false
def Abr (w:World) (b o:Nat) (x:Nd):Prop:=∃ an nn cn ak nk ck,w.cell? ⟨b,o,none⟩=some (.int .i64 x.op)∧w.cell? ⟨b,o+1,none⟩=some (.int .i64 x.num)∧w.cell? ⟨b,o+2,none⟩=some (.string x.text)∧w.cell? ⟨b,o+3,none⟩=some (.slice an nn cn)∧w.cell? ⟨b,o+4,none⟩=some (.slice ak nk ck)∧BL w an nn cn x.names∧IP w ak nk ck x.kids
structure IZ (w:World) (a:Option Addr) (n c:Nat) (L:List Nd):Prop where
 len:L.length=n
 small:n≤1048576
 sizes:∀ x∈L,x.text.size≤1048576
 cells:∀ j,(h:j < L.length)→∃ b off,a=some ⟨b,off,none⟩∧b < w.heap.size∧Abr w b (off+j * 5) L[j]
theorem Abr.below {w w':World}{B b a:Nat}{x:Nd}(h:Abr w b a x)(hl:b < w.heap.size)(c:Below B w w')(f:w.heap.size≤B):Abr w' b a x:=by
 obtain ⟨an,nn,g,i,j,k,l,c1,c2,c3,c4,m,n⟩:=h;have d:b < B:=by omega
 exact ⟨an,nn,g,i,j,k,(c.cell (p:=⟨b,a,none⟩) d).trans l,(c.cell (p:=⟨b,a+1,none⟩) d).trans c1,(c.cell (p:=⟨b,a+2,none⟩) d).trans c2,(c.cell (p:=⟨b,a+3,none⟩) d).trans c3,(c.cell (p:=⟨b,a+4,none⟩) d).trans c4,m.below c f,n.below c f⟩
theorem IZ.below {w w':World}{B:Nat}{a:Option Addr}{n c:Nat}{L:List Nd}(h:IZ w a n c L)(d:Below B w w')(f:w.heap.size≤B):IZ w' a n c L:=
 ⟨h.len,h.small,h.sizes,fun j g=>by
  obtain ⟨b,i,k,hl,hc⟩:=h.cells j g;exact ⟨b,i,k,zY hl d.size,hc.below hl d f⟩⟩
structure CU (w:World):Prop where
 lt: 10 < w.heap.size
 cells:∀ k,w.cell? ⟨10,k,none⟩=EL[k]?
theorem CU.below {w w':World}{B:Nat}(h:CU w)(a:Below B w w')(b:w.heap.size≤B):CU w':=
 ⟨zY h.lt a.size,fun k=>(a.cell (p:=⟨10,k,none⟩) (zY h.lt b)).trans (h.cells k)⟩
theorem Ig {a w':World}{b:Nat}{op num:Int}{text:ByteArray}{an c:Option Addr}{nn d f g:Nat}{t:TypeId}(R:Am a b #[.int .i64 op,.int .i64 num,.string text,.slice an nn d,.slice c f g] t)(h:Below a.heap.size a w'):
  w'.cell? ⟨b,0,none⟩=some (.int .i64 op)∧w'.cell? ⟨b,1,none⟩=some (.int .i64 num)∧w'.cell? ⟨b,2,none⟩=some (.string text)∧w'.cell? ⟨b,3,none⟩=some (.slice an nn d)∧w'.cell? ⟨b,4,none⟩=some (.slice c f g):=by
 obtain ⟨i,c1,c2,c3,c4,_⟩:=QQ (R.after h NLN);exact ⟨i,c1,c2,c3,c4⟩
theorem GK (L:List Nd):L.all Aw=true↔∀ j,(h:j < L.length)→Aw L[j]=true:=by
 rw[z1];constructor
 ·intro h j a;exact h _ (zP a)
 ·intro h x hx;obtain ⟨j,a,rfl⟩:=yE hx;exact h j a
end Go.Proofs.YtffkofkjpckmpaaGreatDoor
