/-
  QG, QH, QJ, VPL, VPM0, VPJ, VPU. Own work.
-/
import Derived.Test.YtcpdodmoheebaaaGreatDoorMXAN
import Derived.Lib.LaidTab
import Derived.Lib.SmallJoins
import Derived.Test.YtcpdodmoheebaaaGreatDoorMXAH
import Derived.Test.YtcpdodmoheebaaaGreatDoorMXAE
import Derived.Test.YtcpdodmoheebaaaGreatDoorMXAQ
import Derived.Test.YtcpdodmoheebaaaGreatDoorMXAP
namespace Go.Proofs.YtcpdodmoheebaaaGreatDoor
open Go.RowKit
set_option linter.unusedVariables false
abbrev MI (w:World):Prop:=Lib.TabIs Tryz.prog w "internal/strconv.uint64pow10" .u64 Lib.pow10Tab
theorem MJ: Tryz.prog.globalNamed "internal/strconv.uint64pow10" =some 13:=by kernel_rfl
theorem MI.below {w w':World}{B:Nat}(h:MI w)(a:Below B w w')(b:w.heap.size≤B):MI w':=Joins.tab_stays MJ h (a.mono b) (Nat.le_refl _)
def MQ (op:Int) (pr:Int→ByteArray):ByteArray:=
 if op=8 then ⟨#[45]⟩ ++pr 7 else if op=9 then ⟨#[110,111,116,32]⟩ ++pr 3 else ⟨#[115,105,122,101,40]⟩ ++pr 0 ++⟨#[41]⟩
theorem Ms (a op:Int)(k:Ex):(Ex.un a op k).pr=MQ op k.put:=by
 rw [Ex.pr,MQ,Bz]
 rfl
def Mt (op:Int) (p q:Int→ByteArray):ByteArray:=p (Jt op) ++(⟨#[32]⟩ ++A7 op ++⟨#[32]⟩) ++q (BB op+1)
theorem L8 (a op:Int)(l r:Ex):(Ex.bin a op l r).pr=Mt op l.put r.put:=rfl
inductive Kw (Es:List Ex) (i:Nat) (x:Nd) (an:Option Addr) (nn cn:Nat):Ex→Prop
 | int (ho:x.op=1):Kw Es i x an nn cn (.int i x.num)
 | text (ho:x.op=2):Kw Es i x an nn cn (.text i x.text)
 | bool (ho:x.op=3):Kw Es i x an nn cn (.bool i (decide (x.num=1)))
 | set (ho:x.op=4):Kw Es i x an nn cn (.set i an nn cn x.names)
 | name (ho:x.op=5):Kw Es i x an nn cn (.name i x.text)
 | attr (ho:x.op=6):Kw Es i x an nn cn (.attr i x.num)
 | lett (ho:x.op=7):Kw Es i x an nn cn (.lett i x.num)
 | un {k:Nat} {e:Ex} (ho: 8≤x.op∧x.op≤10) (hk:x.kids= [(k:Int)]) (h1:Es[k]? =some e):Kw Es i x an nn cn (.un i x.op e)
 | bin {k l:Nat} {e f:Ex} (ho: 11≤x.op∧x.op≤26) (hk:x.kids= [(k:Int),(l:Int)]) (h1:Es[k]? =some e) (h2:Es[l]? =some f):Kw Es i x an nn cn (.bin i x.op e f)
 | ite {k l m:Nat} {e f g:Ex} (ho:x.op=27) (hk:x.kids= [(k:Int),(l:Int),(m:Int)]) (h1:Es[k]? =some e) (h2:Es[l]? =some f) (h3:Es[m]? =some g):Kw Es i x an nn cn (.ite i e f g)
def GB (N:List Nd) (L:List St):Bool:=match Cv (N.map Nd.kids) N.length [] 0 with
 | none=>false
 | some S=>decide (AH S=L.flatMap AG)
theorem IW {w:World}{b:Nat}{a c:Value}{t:TypeId}(d:Ao w b #[a,c] t):w.cell? ⟨b,0,none⟩=some a∧w.cell? ⟨b,1,none⟩=some c:=⟨d.cell 0,d.cell 1⟩
set_option linter.unusedSimpArgs false
structure JB (w:World) (a:Option Addr) (n c:Nat) (L:List Int):Prop where
 len:L.length=n
 cap:n≤c
 small:c≤maxLen
 cells:∀ j,(h:j < L.length)→∃ b off,a=some ⟨b,off,none⟩∧b < w.heap.size∧w.cell? ⟨b,off+j,none⟩=some (.int .i64 L[j])
def JC (w:World) (b o:Nat) (x:Nd):Prop:=∃ an nn cn ak nk ck,w.cell? ⟨b,o,none⟩=some (.int .i64 x.op)∧w.cell? ⟨b,o+1,none⟩=some (.int .i64 x.num)∧w.cell? ⟨b,o+2,none⟩=some (.string x.text)∧w.cell? ⟨b,o+3,none⟩=some (.slice an nn cn)∧w.cell? ⟨b,o+4,none⟩=some (.slice ak nk ck)∧Bd w an nn cn x.names∧JB w ak nk ck x.kids
structure Ml (w:World) (a:Option Addr) (n c:Nat) (L:List Nd):Prop where
 len:L.length=n
 cap:n≤c
 small:c≤maxLen
 sizes:∀ x∈L,x.text.size≤maxLen
 cells:∀ j,(h:j < L.length)→∃ b off,a=some ⟨b,off,none⟩∧b < w.heap.size∧JC w b (off+j * 5) L[j]
structure Mm (w:World) (a:Option Addr) (n c:Nat) (L:List St):Prop where
 len:L.length=n
 cap:n≤c
 small:c≤maxLen
 sizes:∀ s∈L,s.name.size≤maxLen
 cells:∀ j,(h:j < L.length)→∃ b off,a=some ⟨b,off,none⟩∧b < w.heap.size∧w.cell? ⟨b,off+j * 4,none⟩=some (.int .i64 L[j].kind)∧w.cell? ⟨b,off+j * 4+1,none⟩=some (.string L[j].name)∧w.cell? ⟨b,off+j * 4+2,none⟩=some (.int .i64 L[j].cond)∧w.cell? ⟨b,off+j * 4+3,none⟩=some (.int .i64 L[j].grant)
theorem JB.below {w w':World}{B:Nat}{a:Option Addr}{n c:Nat}{L:List Int}(h:JB w a n c L)(d:Below B w w')(l:w.heap.size≤B):JB w' a n c L:=
 ⟨h.len,h.cap,h.small,fun j g=>by
  obtain ⟨b,f,i,hl,k⟩:=h.cells j g
  exact ⟨b,f,i,Nat.lt_of_lt_of_le hl d.size,(d.cell (p:=⟨b,f+j,none⟩) (by show b < B;omega)).trans k⟩⟩
theorem JC.below {w w':World}{B b a:Nat}{x:Nd}(h:JC w b a x)(hl:b < w.heap.size)(c:Below B w w')(f:w.heap.size≤B):JC w' b a x:=by
 obtain ⟨an,nn,g,i,j,k,l,c1,c2,c3,c4,m,n⟩:=h
 have d:b < B:=by omega
 exact ⟨an,nn,g,i,j,k,(c.cell (p:=⟨b,a,none⟩) d).trans l,(c.cell (p:=⟨b,a+1,none⟩) d).trans c1,(c.cell (p:=⟨b,a+2,none⟩) d).trans c2,(c.cell (p:=⟨b,a+3,none⟩) d).trans c3,(c.cell (p:=⟨b,a+4,none⟩) d).trans c4,m.below c f,n.below c f⟩
theorem Ml.below {w w':World}{B:Nat}{a:Option Addr}{n c:Nat}{L:List Nd}(h:Ml w a n c L)(d:Below B w w')(f:w.heap.size≤B):Ml w' a n c L:=
 ⟨h.len,h.cap,h.small,h.sizes,fun j g=>by
  obtain ⟨b,i,k,hl,hc⟩:=h.cells j g
  exact ⟨b,i,k,Nat.lt_of_lt_of_le hl d.size,hc.below hl d f⟩⟩
theorem Mm.below {w w':World}{B:Nat}{a:Option Addr}{n c:Nat}{L:List St}(h:Mm w a n c L)(d:Below B w w')(m:w.heap.size≤B):Mm w' a n c L:=
 ⟨h.len,h.cap,h.small,h.sizes,fun j i=>by
  obtain ⟨b,f,k,hl,l,c1,c2,c3⟩:=h.cells j i
  have g:b < B:=by omega
  exact ⟨b,f,k,Nat.lt_of_lt_of_le hl d.size,(d.cell (p:=⟨b,f+j * 4,none⟩) g).trans l,(d.cell (p:=⟨b,f+j * 4+1,none⟩) g).trans c1,(d.cell (p:=⟨b,f+j * 4+2,none⟩) g).trans c2,(d.cell (p:=⟨b,f+j * 4+3,none⟩) g).trans c3⟩⟩
def LU (x:Nd):Prop:=x.text.size≤1048576∧x.names.length≤1048576∧MS x.names≤1048576∧x.kids.length≤1048576
end Go.Proofs.YtcpdodmoheebaaaGreatDoor
