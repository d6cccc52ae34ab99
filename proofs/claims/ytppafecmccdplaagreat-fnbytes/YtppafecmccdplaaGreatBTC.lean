import Derived.Test.YtppafecmccdplaaGreatMXAH
import Derived.Test.YtppafecmccdplaaGreatLTD
open Go.Proofs.Tryz
open Option renaming none->T,some->Y
open Go.Value renaming int->U,slice->X,string->Q,pointer->jH
open Go.IntKind renaming i64->V
open Go.Proofs.Tryz renaming prog->jL
namespace Go.Proofs.YtppafecmccdplaaGreat
set_option maxRecDepth 100000
set_option maxHeartbeats 3200000
open Go.RowKit
set_option linter.unusedVariables false
theorem Ug:(jL.info? 44).map (fun i=>(i.zero,i.size,i.bytes))=Y (Y (.agg #[U V 0,U V 0,Q ByteArray.empty,X T 0 0]),4,56):=by kernel_rfl
section
variable {w w' : World} {B R gb : Nat} {a : Option Addr} {n c : Nat} {zs : List Int} {k : Nat} {s : Gs} {pv iv sv lv : Value} {nv : List Value}
theorem PT (h:GS B R gb a n c zs k s w)(ty:Int)(al:s.P.length<=90000)(hi:s.I.length<=90000):
  Calls jL 104 #[jH (Y ⟨gb,0,T⟩),U V ty] w (GA B R gb a n c zs k w fun x=>x=GX s ty):=by
 obtain⟨ao,y,z,lv,M,h⟩:=h;obtain⟨N,O,S,W,aa⟩:=info_parts Ug;have m:=AN w (.cells #[U V ty,U V 0,Q ⟨#[]⟩,X T 0 0] 44);have i:=Ah.new w #[U V ty,U V 0,Q ⟨#[]⟩,X T 0 0] 44;have d:=h.below m;have o:DY R gb w _:= .of m;have ab:=h.row.lt;clear m h;go_enter func104,ntmps104
 go_wp2_with fail
 generalize w.alloc (.cells #[U V ty,U V 0,Q ⟨#[]⟩,X T 0 0] 44)=b at d o i|-;generalize w.heap.size=j at i ab|-;obtain⟨g,cn,ac,-⟩:=Ae d.pool.own;subst ac;obtain⟨e0,e1,e2,e3⟩:=AC i;have A:b.cell? ⟨gb,1,T⟩=Y (X g s.P.length cn):=d.row.cell 1;have C:=d.row.frozen 1;have D:=World.news_of_block (heap_alloc_new b (.cells #[U V ty,U V 0,Q ⟨#[]⟩,X T 0 0] 44));have E:=(World.ownsRow.alloc d.pool.own (.cells #[U V ty,U V 0,Q ⟨#[]⟩,X T 0 0] 44)).drew;have l:Ah (b.alloc (.cells #[U V ty,U V 0,Q ⟨#[]⟩,X T 0 0] 44)).drew gb #[jH (Y ⟨R,0,T⟩),X g s.P.length cn,U V k,y,z,lv] 117:=⟨(d.row.alloc (.cells #[U V ty,U V 0,Q ⟨#[]⟩,X T 0 0] 44)).out⟩
 have ad:b.drew.cell? ⟨gb,1,T⟩=Y (X g s.P.length cn)/\b.drew.frozen? ⟨gb,1,T⟩=false:=⟨A,C⟩
 have d1:b.drew.cell? ⟨j,0,T⟩=Y (U V ty):=e0;have d2:b.drew.cell? ⟨j,1,T⟩=Y (U V 0):=e1;have d3:b.drew.cell? ⟨j,2,T⟩=Y (Q ⟨#[]⟩):=e2;have d4:b.drew.cell? ⟨j,3,T⟩=Y (X T 0 0):=e3;have ae:=l.cell 1;have F:(Value.slice g s.P.length cn).ownBlock≠Y gb:=Ac d.row d.pool.own (by decide);have ap:B<=b.heap.size:=d.low.2.2;clear e0 e1 e2 e3 A C;go_region_law (refine step_append_lies _ rfl _ _ 23 rfl B 44 N (.agg #[U V 0,U V 0,Q ByteArray.empty,X T 0 0]) 4 56 underlying23 O S W aa rfl (by decide) (X g s.P.length cn) s.P.length (Iz s.P M) rfl E ⟨b.heap.size,0,T⟩ 1 1 [U V ty,U V 0,Q ⟨#[]⟩,X T 0 0] rfl rfl D (by intro u hu;simp at hu;rcases hu with rfl|rfl|rfl|rfl<;>rfl) (by decide) (by unfold maxLen;omega) (by omega) (by simp;omega) _ rfl ?_;intro g7 c7 G H f hat af;have p:Ah G gb #[jH (Y ⟨R,0,T⟩),X g s.P.length cn,U V k,y,z,lv] 117:=⟨(f.block gb l.lt (fun e=>F e.symm)).trans l.out⟩;have J:=p.cell 1;have ag:=p.frozen 1)
 all_goals
  obtain⟨t,K,-⟩:=d.newP (g7:=g7) (c7:=c7) (v:=⟨ty,0,⟨#[]⟩,[]⟩) (u:= X T 0 0) (.cells #[U V ty,U V 0,Q ⟨#[]⟩,X T 0 0] 44) ⟨zE _,zE _,fun s hs=>absurd hs (by simp)⟩ (World.ownsRow_nil _ _ _ _) (fun q ah=>by cases ah) ⟨f.os,f.tape,f.output,f.size,f.block⟩ H (hat.imp id (fun e=>by rw[e];show(b.alloc _).heap.size=_;simp));have L:=o.trans K;clear H f hat af p l ae ad d1 d2 d3 d4 D E K;clear J ag;generalize G.setCell ⟨gb,1,T⟩ (X (Y ⟨g7,0,T⟩) (s.P.length+1) c7)=ai at t L|-;clear F i d o;have J:ai.cell? ⟨gb,1,T⟩=Y (X (Y ⟨g7,0,T⟩) (s.P.length+1) c7):=t.row.cell 1;go_wp2_with fail
  refine(Ii ⟨_,_,_,_,_,t⟩ 1 (s.P.length:Int) (by show s.I.length<=100000;omega)).mono ?_;rintro r aq ⟨rfl,x,rfl,aj,ak⟩;dsimp only;go_wp2_with fail
  go_end0
  exact⟨rfl,_,rfl,aj,L.trans ak⟩
end
end Go.Proofs.YtppafecmccdplaaGreat
