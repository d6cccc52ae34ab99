import Derived.Test.YteiieikcjcfkkaaGreatDoorMXBJ
namespace Go.Proofs.YteiieikcjcfkkaaGreatDoor
open Go.RowKit
set_option linter.unusedVariables false
section
variable {aS aO aZ aW : Addr} {G : Nat -> Prop}
def Akb (eb:Nat) (la:Option Addr) (b:Nat):Prop:=b≠eb/\∀ad,la=some ad->ad.block≠b
end
section
variable {aS aO aZ aW : Addr} {G : Nat -> Prop}
end
section
variable {aS aO aZ aW : Addr}
end
section
variable {aS aO aZ aW : Addr}
theorem AbB {w0:World}{N:List Nd}{L:List St}(h:MU N L)(g:∀x∈N,x.names.length<=1048576/\Di x.num):Aar w0 N (fun e=>e.typed/\e.mem (fun b=>b<w0.heap.size) w0):=by
 intro k x an nn cn Es hx i j hf hS;obtain⟨e,c,l,n⟩:=Up hx (h.fields _ (zp hx)) (h.kids k _ hx) i j (fun e he=>(hf e he).1) (an:=an) (nn:=nn) (cn:=cn);refine⟨e,c,l,n,?_⟩;have d:=g x (zp hx);have a:∀{m:Nat} {e:Ex},Es[m]? =some e->e.mem (fun b=>b<w0.heap.size) w0:=fun h=>(hf _ (zp h)).2;cases c with
 |int=>exact d.2
 |text=>trivial
 |bool=>trivial
 |set=>
  refine⟨hS,d.1,fun p e h0=>?_⟩;obtain⟨b,r,f,o,_⟩:=hS.cells 0 h0;rw[e]at f;cases f;exact o
 |name=>trivial
 |attr=>trivial
 |lett=>trivial
 |un _ _ g1=>have q:=a g1;exact q
 |bin _ _ g1 g2=>exact⟨a g1,a g2⟩
 |ite _ _ g1 g2 g3=>exact⟨a g1,a g2,a g3⟩
end
end Go.Proofs.YteiieikcjcfkkaaGreatDoor
