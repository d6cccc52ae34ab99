import Derived.Test.YteiieikcjcfkkaaGreatDoorMXAI
open Go.Proofs.Tryz
open Option renaming none->T,some->X
open Go.Value renaming int->U,slice->Y,string->Q
open Go.IntKind renaming i64->V
open Go renaming World->Z,bodyPost_ret->jN,results->jR
open Go.Proofs.Tryz renaming prog->j4
namespace Go.Proofs.YteiieikcjcfkkaaGreatDoor
set_option maxRecDepth 100000
set_option maxHeartbeats 6400000
open Go.RowKit
set_option linter.unusedVariables false
variable {w:Z}
def CV:Ex->Nd
 |.int _ n=>⟨1,n,⟨#[]⟩,[],[]⟩
 |.text _ s=>⟨2,0,s,[],[]⟩
 |.bool _ b=>⟨3,if b then 1 else 0,⟨#[]⟩,[],[]⟩
 |.set _ _ _ _ ss=>⟨4,0,⟨#[]⟩,ss,[]⟩
 |.name _ s=>⟨5,0,s,[],[]⟩
 |.attr _ n=>⟨6,n,⟨#[]⟩,[],[]⟩
 |.lett _ n=>⟨7,n,⟨#[]⟩,[],[]⟩
 |.un _ op _=>⟨op,0,⟨#[]⟩,[],[]⟩
 |.bin _ op _ _=>⟨op,0,⟨#[]⟩,[],[]⟩
 |.ite .. =>⟨27,0,⟨#[]⟩,[],[]⟩
def NdA (x:Nd) (w:Z) (r:Ending) (w':Z):Prop:=(∃u cu,r= .returned (.agg #[U V x.op,U V x.num,Q x.text,Y u x.names.length cu,Y T 0 0])/\w'.ownsRow w.heap.size 9 1 (Y u x.names.length cu) x.names.length (x.names.map Q))/\Ah w w'
theorem LZ {b:Nat}{a c d f g:Value}{t:TypeId}(R:Ag w b #[a,c,d,f,g] t):w.cell? ⟨b,0,T⟩=X a/\w.cell? ⟨b,1,T⟩=X c/\w.cell? ⟨b,2,T⟩=X d/\w.cell? ⟨b,3,T⟩=X f/\w.cell? ⟨b,4,T⟩=X g:=⟨R.cell 0,R.cell 1,R.cell 2,R.cell 3,R.cell 4⟩
theorem Ajn {fn:Func}{b:Array Value}{a:Z}{x:Nd}(c:x.names=[])(d:Ah w a)(f:(jR fn b).run j4 a= .ok (.agg #[U V x.op,U V x.num,Q x.text,Y T 0 0,Y T 0 0]) a):bodyPost j4 fn (NdA x w) Exit.ret { tmps:=b,defers:= [] } a:=
 jN f rfl ⟨⟨T,0,by rw[c];rfl,by rw[c];exact World.ownsRow_nil _ _ _ _⟩,d⟩
theorem Ajo (e:Ex)(he:∀i a n c ss,e≠.set i a n c ss)(w:Z):Calls j4 173 #[e.val] w (NdA (CV e) w):=by
 have f:=fun o p:Obj=>(Av w o).alloc (by simp) p;obtain⟨S,v,hv⟩:=e.form;have ts:=tas S v;cases e
 case' set i a n c ss=>exact absurd rfl (he i a n c ss)
 case' bool i b=>cases b
 case' un i op k=>
  obtain⟨t,u,h⟩:=k.form;simp only[Ex.val,h]at hv|-
 case' bin i op k l=>
  obtain⟨t,u,h⟩:=k.form;obtain⟨g,j,d⟩:=l.form;simp only[Ex.val,h,d]at hv|-
 case' ite i k l m=>
  obtain⟨t,u,h⟩:=k.form;obtain⟨g,j,d⟩:=l.form;obtain⟨q,r,h2⟩:=m.form;simp only[Ex.val,h,d,h2]at hv|-
 all_goals
  try simp only[Ex.val]at hv|-
  cases hv;simp only[MT,Nat.reduceEqDiff,reduceIte]at ts;obtain⟨s,s1,s2,x,y,s5,z,A,B,C⟩:=ts;go_enter func173,ntmps173
  go_wp2_with fail
  exact Ajn rfl (f _ _) (by simp[jR,results173,go_sem,CV])
theorem AdS (i:Int)(a:Option Addr)(n c:Nat)(ss:List ByteArray)(w:Z)(hS:Ap w a n c ss)(s:ss.length<=1048576):Calls j4 173 #[.iface 218 (.agg #[U V i,Y a n c])] w (NdA (CV (.set i a n c ss)) w):=by
 have D:=A8 (S:=218) (T:=220) underlying220 zeroValue220 (by decide) 106;have a1:=A8 (S:=218) (T:=222) underlying222 zeroValue222 (by decide) 106;have a2:=A8 (S:=218) (T:=177) underlying177 zeroValue177 (by decide) 106;have E:=De (T:=218) underlying218 106;have g:=(Av w (.cells #[U V 0,U V 0,Q ⟨#[]⟩,Y none 0 0,Y none 0 0] 85)).alloc (by simp) (.cells #[U V i,Y a n c] 218);have m:=(Ag.new w #[U V 0,U V 0,Q ⟨#[]⟩,Y none 0 0,Y none 0 0] 85).alloc (.cells #[U V i,Y a n c] 218);have o:=Ab (Yu a n c ss _ (hS.below g NLN) s);clear hS;go_enter func173,ntmps173
 go_wp2_with fail
 refine(Aa o).mono ?_;rintro F G ⟨⟨x,b,rfl,k⟩,l⟩;have f:=m.after l NLN;obtain⟨H,I,x2,x3,J⟩:=LZ f;have K:=fun j=>f.frozen j;obtain⟨t,u,y,z,A⟩:=LZ ((((((f).set 0 (U V 4)).set 1 (U V 0)).set 2 (Q ⟨#[]⟩)).set 3 (Y x ss.length b)).set 4 (Y none 0 0));have r:=g.trans (l.mono (by simp;omega));have d:∀q,(Y x ss.length b).ownBlock=X q->q≠w.heap.size:=fun q hq h=>by have:=(k.lt q hq).1;simp at this;omega
 have B:=Ab ((((((r).setCell (p:=⟨w.heap.size,0,none⟩) NLN (U V 4)).setCell (p:=⟨w.heap.size,1,none⟩) NLN (U V 0)).setCell (p:=⟨w.heap.size,2,none⟩) NLN (Q ⟨#[]⟩)).setCell (p:=⟨w.heap.size,3,none⟩) NLN (Y x ss.length b)).setCell (p:=⟨w.heap.size,4,none⟩) NLN (Y none 0 0));have C:=Ab ((AW (AW (AW (AW (AW (LC (base':=w.heap.size) k (by simp;omega)) ⟨w.heap.size,0,none⟩ (U V 4) d) ⟨w.heap.size,1,none⟩ (U V 0) d) ⟨w.heap.size,2,none⟩ (Q ⟨#[]⟩) d) ⟨w.heap.size,3,none⟩ (Y x ss.length b) d) ⟨w.heap.size,4,none⟩ (Y none 0 0) d));clear m f g r l o k d;dsimp only;go_wp2_with fail
 refine jN (v:= .agg #[U V 4,U V 0,Q ⟨#[]⟩,Y x ss.length b,Y none 0 0]) (by simp[jR,results173,go_sem,t,u,y,z,A]) rfl ?_
 exact⟨⟨x,b,rfl,Aa C⟩,Aa B⟩
end Go.Proofs.YteiieikcjcfkkaaGreatDoor
