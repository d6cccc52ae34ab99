import Derived.Test.YtnjpihpohilnjaaGreatDoorMXAE
import Derived.Deep.DeepCutAuto
import Derived.Test.YtnjpihpohilnjaaGreatDoorMXAD
import Derived.Test.YtnjpihpohilnjaaGreatDoorMXAS
open List renaming length->T,length->ja
open Option renaming none->U,some->Q,some->jg
open Array renaming size->R,size->jh
open Go renaming World->jB,Value->jF,Addr->jG,TypeId->jV
open Bool renaming true->jD,false->jE
open ByteArray renaming empty->jW
namespace Go.Proofs.YtnjpihpohilnjaaGreatDoor
open Proofs.Tryz
open Value renaming int->V,int->jc,slice->Y,string->jC,ownBlock->jL,agg->jM,tuple->jQ
open IntKind renaming i64->X,i64->jd
open World renaming heap->Z,cell?->jI,setCell->jJ,alloc->jK,ownsRow->jO,drew->jR
open Addr renaming mk->jA,block->jT
open Obj renaming cells->jH
open Ending renaming returned->jN
open Proofs.Tryz renaming prog->jZ
open Go.RowKit
set_option linter.unusedVariables false
set_option maxRecDepth 100000
set_option maxHeartbeats 12800000
variable{ops:Array Oper}{text:K9}{b:Ex}{op num:Int}{ss:L4}{bs:L8}{PK:L2}{f:M6}{rest:List Oper}{lo hi g kc:Nat}{o:Obj}{ka:L3}{t:jV}{v:jF}{w0 d:jB}
def Pm (m:Nat) (P:M1) (s:Int) (I:M2):Prop:=
 if m / 2=0 then P=[]/\s=0/\I=List.replicate (20000+m % 2) ⟨24,0⟩
 else if m / 2=1 then P=List.replicate (4000+m % 2) ⟨1,0,⟨#[]⟩,[]⟩/\s=0/\I=[⟨24,0⟩]
 else P=[]/\s=600+((m % 2 :Nat):Int)/\I=[⟨24,0⟩]
def Agt (w:jB) (b o:Nat):Nat:=match jI w (jA b o U)with|some (Y _ n _)=>n|_=>0
section
variable{w w' W w7:jB}{tl th B b0 b1:Nat}{kN:Int}{P:M1}{I:M2}{pv iv:jF}{nv:L7}
theorem L5.appP (h:L5 w w' tl th B b0 b1 kN P I pv iv nv){v:Vl}(s:PU v)(hv:v.aB=[]){g7 c7:Nat}(hg:(jK w' o).grownBy w7<|jL pv)(u:jO w7 B 77 4 (Y (Q<|jA g7 0 U) (T P+1) c7) (T P+1)<|JX P nv++vl4 v (Y U 0 0)):
  L5 w (jJ w7 (jA b1 0 U)<|Y (Q<|jA g7 0 U) (T P+1) c7) tl th B b0 b1 kN (P++[v]) I (Y (Q<|jA g7 0 U) (T P+1) c7) iv (nv++[Y U 0 0])/\Ag w7 b1 #[pv,V X kN,iv] 26/\Ag w7 b0 #[Y U 0 0,V X 0,Y U 0 0] 26:=by
 have a:=h.lo;have b:=AE w' o;have d:AN (λq=>q=b1\/jL pv=Q q) w' w7:=⟨hg.os,hg.tape,hg.output,zB b.size hg.size,λk f l=>(hg.block k (zL f b.size) λe=>l<|.inr e.symm).trans<|b.block k f⟩
 have g:=Ck (h.row.aA b NLN) hg λe=>Ac h.row h.aI.aN Ob e.symm;have K:=d.setCell (p:=(jA b1 0 U)) (λ_=> .inl rfl)<|Y (Q<|jA g7 0 U) (T P+1) c7;obtain⟨f1,f2,m⟩:=h.bF (λq hq=>(h.aI.aN.lt q hq).1) K;refine⟨⟨g.set 0 _,⟨by simp[h.aI.len],?_,λj n r=>?_,λx hx=>?_⟩,h.ik K,f1,f2,⟨a.1,a.2.1,a.2.2.1,a.2.2.2.1,m⟩⟩,g,(h.bF (λq hq=>(h.aI.aN.lt q hq).1) d).1⟩
 .rw[PY P nv _ _ h.aI.len,zC,z1]
  grind [Ac,Ah]
 .by_cases c:j<T P
  .have i:j<T nv:=by rw[h.aI.len];exact c
   rw[zx c,zx i];have o:=h.aI.aB j c i;exact Ad o λq hq=>K.block q (o.lt q hq).2 (λe=>by
    obtain e|e:=e
    .exact Ac h.row o Ob Hb
    .exact Al h.aI.aN o Ob q e hq)
  .have e1:j=T P:=by simp at n;omega
   subst e1;have e2:(nv++[Value.slice U 0 0])[T P]'r=Y U 0 0:=by simp[<-h.aI.len]
   grind [Go.World.ownsRow_nil,z5]
 .obtain t|t:=zO.1 hx
  .exact h.aI.ok x t
  grind
theorem L5.slot (h:L5 w w' tl th B b0 b1 kN P I pv iv nv)(k:Int):L5 w (jJ w' (jA b1 1 U)<|V X k) tl th B b0 b1 k P I pv iv nv:=by
 have a:=h.lo;have K:=λv:jF=>(AN.refl (λq=>q=b1\/jL v=Q q) w').setCell (p:=(jA b1 1 U)) (λ_=> .inl rfl)<|V X k;obtain⟨f1,f2,b⟩:=h.bF (λq hq=>(h.aK.lt q hq).1)<|K iv;exact⟨h.row.set 1 _,h.pk<|K iv,h.ik<|K pv,f1,f2,⟨a.1,a.2.1,a.2.2.1,a.2.2.2.1,b⟩⟩
end
theorem Px {w:jB}{b o n c:Nat}{x:L3}(h:jI w (jA b o U)=Q (Y x n c)):Agt w b o=n:=by rw[Agt,h]
theorem AiA {Q:jB->Prop}{w:jB}(h:∀W,L5 w W 0 0 (R (Z w)+1) (R<|Z w) (R (Z w)+1+1) 0 [] [⟨24,0⟩] (Y U 0 0) (Y (jg ⟨R (Z w)+1,0,U⟩) 1 1) []->Q W):Q<|jK (jK (jK w<|jH #[Y U 0 0,V X 0,Y U 0 0] 26)<|jH #[V X 24,V X 0] 80)<|jH #[Y U 0 0,V X 0,Y (jg ⟨R (Z w)+1,0,U⟩) 1 1] 26:=by refine Mm (P:=Q) λW b c a d=>h W ⟨d,⟨rfl,H3,λj f=>H9 f Ox,λv hv=>H9 hv Ox⟩,⟨rfl,.inr ⟨R (Z w)+1,1,_,rfl,NLN,a.out,NLN,O2,rfl,rfl⟩⟩,c,AU.aH b NLN,⟨NLN,Oa,Oa,Oa,Nat.le_of_lt a.lt⟩⟩
theorem Agu (m:Nat)(hm:m<=5)(w:jB):Calls jZ 27 #[V jd m] w λr w'=>Adx 90000 (Pm m) w r w'/\Ai w w':=by
 obtain⟨aa,ab,ac,ad,ae⟩:=info_parts Ml;obtain⟨af,ag,ah,ai,aj⟩:=info_parts UB;obtain⟨N,l⟩:∃N:Nat,Hid (N=20000+m % 2):=⟨_,Ab rfl⟩
 obtain⟨y,n⟩:∃N:Nat,Hid (N=4000+m % 2):=⟨_,Ab rfl⟩
 have ak:=Ab (show m / 2=0->Pm m [] 0 (List.replicate N ⟨24,0⟩)from λe=>by unfold Pm;rw[H8 e,Aa l];exact⟨rfl,rfl,rfl⟩);have al:=Ab (show m / 2=1->Pm m (List.replicate y ⟨1,0,⟨#[]⟩,[]⟩) 0 [⟨24,0⟩]from λe=>by unfold Pm;rw[H7 Oa,H8 e,Aa n];exact⟨rfl,rfl,rfl⟩);rcases(Oa:(m=0\/m=1)\/(m=2\/m=3)\/(m=4\/m=5))with(rfl|rfl)|(rfl|rfl)|(rfl|rfl)
 all_goals
  clear hm;go_enter func27,ntmps27
  go_upto_region 2 with fail
  refine AiA (Q:=Code.wp _ _ _ _) λaA g=>?_
 iterate 2
  .go_wp2_with fail
   go_loopw [] (λwr=>∃ (i:Nat) (iv:jF),i<=N/\Hid (L5 w wr 0 0 (R (Z w)+1) (R<|Z w) (R (Z w)+1+1) 0 [] (List.replicate i ⟨24,0⟩) (Y U 0 0) iv [])) (λwr=>N-Agt wr (R (Z w)+1+1) 2)
   case atStart=>exact⟨1,_,Q7,Ab g⟩
   case round=>
    obtain⟨i,iv,hi,a⟩:=hrel;have h:=Aa a;obtain⟨I,b⟩:∃I,I=List.replicate i (⟨24,0⟩:Be):=⟨_,rfl⟩
    rw[<-b]at h;have o:T I=i:=by rw[b,List.length_replicate]
    have ao:T I<=20001:=Q7;have z:=Ab b;have G:=Ab o;clear a b;obtain⟨xi,ci,rfl,-⟩:=Ae h.aK;obtain⟨H,W,J⟩:=At h.row;have L:=Ab<|Px J;have ap:=h.lo.2.2.2.2;by_cases p:i<N
    .first
     |have q:(T I:Int)<20000:=Q7
     |have q:(T I:Int)<20001:=Q7
     have A:=Ab p;clear p o hi;go_wp2_with (at_builtin;refine G6 _ rfl _ _ 24 rfl (R (Z w)+1) 80 aa (jM #[V jd 0,V jd 0]) 2 16 underlying24 ab ac ad ae rfl Ob (Y xi (T I) ci) (T I) (Cr I) rfl (G1 h.aK _) ⟨R<|Z wr,0,U⟩ 1 1 [V jd 24,V jd 0] rfl rfl (G4<|G8 wr<|jH #[V jd 24,V jd 0] 80) ?c1 Ob ?d1 ?e1 ?f1 (R (Z wr)+1) Ox ?_)
     case c1=>first|exact⟨rfl,rfl⟩|(intro u hu;simp at hu;obtain rfl|rfl|rfl|rfl:=hu<;>rfl)|(intro u hu;simp at hu;obtain rfl|rfl:=hu<;>rfl)
     case d1=>unfold maxLen;omega
     case e1=>omega
     case f1=>first|omega|(simp;omega)
     intro g7 aq w7 B C hat O;obtain⟨D,t,S⟩:=h.app 24 0 C B;have ar:=λj=>t.frozen j;have au:=t.cell 2;have E:=Ab D;clear B C hat O D t S h;go_wp2
     go_roundw
     case rel=>exact⟨i+1,_,H2<|Aa A,Ab<|by rw[List.replicate_succ',<-Aa z];exact Aa E⟩
     case measure=>rw[Aa L,Px<|(Aa E).row.cell 2,Aa G];have:=Aa A;omega
    .first
     |have q: ¬ (T I:Int)<20001:=Q7
     |have q: ¬ (T I:Int)<20000:=Q7
     obtain⟨av,aw,ax⟩:=At h.out;have ay:=λj=>h.out.frozen j;have e:i=N:=Oa;have F:=Ab<|Aa ak Ob;rw[<-e,<-Aa z]at F;have a:=Ab h;clear p o hi e h;go_wp2_with fail
     obtain⟨⟨c,d,f⟩,a1,a2⟩:=(Aa a).cG (M:=90000) (xp:=U) (cp:=0) (Aa F) (zE _) Oa rfl;dsimp only[List.length_nil,List.length_cons,zY]at c d f a1 a2;exact G2 (v:= jM #[Y U 0 0,V jd 0,Y xi (T I) ci]) (by simp[results,results27,go_sem,c,d,f]) rfl ⟨a1,EV a2⟩
 iterate 2
  .go_wp2_with fail
   go_loopw [] (λwr=>∃ (i:Nat) (pv:jF) (nv:L7),i<=y/\Hid (L5 w wr 0 0 (R (Z w)+1) (R<|Z w) (R (Z w)+1+1) 0 (List.replicate i ⟨1,0,⟨#[]⟩,[]⟩) [⟨24,0⟩] pv (Y (jg ⟨R (Z w)+1,0,U⟩) 1 1) nv)) (λwr=>y-Agt wr (R (Z w)+1+1) 0)
   case atStart=>exact⟨0,_,_,Hc,Ab g⟩
   case round=>
    obtain⟨i,pv,nv,hi,a⟩:=hrel;have h:=Aa a;obtain⟨P,b⟩:∃P,P=List.replicate i (⟨1,0,⟨#[]⟩,[]⟩:Vl):=⟨_,rfl⟩
    rw[<-b]at h;have o:T P=i:=by rw[b,List.length_replicate]
    have ao:T P<=20001:=Hc;have z:=Ab b;have G:=Ab o;clear a b;obtain⟨xi,ci,rfl,-⟩:=Ae h.aI.aN;obtain⟨H,W,J⟩:=At h.row;have L:=Ab<|Px H;have ap:=h.lo.2.2.2.2;by_cases p:i<y
    .first
     |have q:(T P:Int)<4000:=Hc
     |have q:(T P:Int)<4001:=Hc
     have A:=Ab p;clear p o hi;go_wp2_with (at_builtin;refine G6 _ rfl _ _ 23 rfl (R (Z w)+1) 77 af (jM #[V jd 0,V jd 0,jC jW,Y U 0 0]) 4 56 underlying23 ag ah ai aj rfl Ob (Y xi (T P) ci) (T P) (JX P nv) rfl (G1 h.aI.aN _) ⟨R<|Z wr,0,U⟩ 1 1 [V jd 1,V jd 0,jC ⟨#[]⟩,Y U 0 0] rfl rfl (G4<|G8 wr<|jH #[V jd 1,V jd 0,jC ⟨#[]⟩,Y U 0 0] 77) ?c1 Ob ?d1 ?e1 ?f1 (R (Z wr)+1) Ox ?_)
     case c1=>first|exact⟨rfl,rfl⟩|(intro u hu;simp at hu;obtain rfl|rfl|rfl|rfl:=hu<;>rfl)|(intro u hu;simp at hu;obtain rfl|rfl:=hu<;>rfl)
     case d1=>unfold maxLen;omega
     case e1=>omega
     case f1=>first|omega|(simp;omega)
     intro g7 aq w7 B C hat O;obtain⟨D,t,S⟩:=h.appP (v:=⟨1,0,⟨#[]⟩,[]⟩) ⟨zE _,zE _,λs hs=>H9 hs Ox⟩ rfl C B;have ar:=λj=>t.frozen j;have au:=t.cell 0;have E:=Ab D;clear B C hat O D t S h;go_wp2
     go_roundw
     case rel=>exact⟨i+1,_,_,H2<|Aa A,Ab<|by rw[List.replicate_succ',<-Aa z];exact Aa E⟩
     case measure=>rw[Aa L,Px<|(Aa E).row.cell 0,Aa G];have:=Aa A;omega
    .first
     |have q: ¬ (T P:Int)<4001:=Hc
     |have q: ¬ (T P:Int)<4000:=Hc
     obtain⟨av,aw,ax⟩:=At h.out;have ay:=λj=>h.out.frozen j;have e:i=y:=Oa;have F:=Ab<|Aa al Ob;rw[<-e,<-Aa z]at F;have a:=Ab h;clear p o hi e h;go_wp2_with fail
     obtain⟨⟨c,d,f⟩,a1,a2⟩:=(Aa a).cG (M:=90000) (xi:=jg ⟨R (Z w)+1,0,U⟩) (ci:=1) (Aa F) Oa Ox rfl;dsimp only[List.length_nil,List.length_cons,zY]at c d f a1 a2;exact G2 (v:= jM #[Y xi (T P) ci,V jd 0,Y (jg ⟨R (Z w)+1,0,U⟩) 1 1]) (by simp[results,results27,go_sem,c,d,f]) rfl ⟨a1,EV a2⟩
 all_goals
  obtain⟨c0,c1,c2⟩:=At g.row;have f1:=g.row.frozen;obtain⟨H,W,J⟩:=At g.out;have f2:=g.out.frozen;have a:=Ab g;clear g;go_wp2_with fail
  have x:=λ(K:Int) (k:Nat) (az:Pm k [] K [⟨24,0⟩])=>((Aa a).slot K).cG (xp:=U) (cp:=0) (xi:=jg ⟨R (Z w)+1,0,U⟩) (ci:=1) (X:=Pm k) az (zE _) (M:=90000) Ox rfl;dsimp only[List.length_nil,List.length_cons,zY]at x
  first
  |exact G2 (v:= jM #[Y U 0 0,V jd 600,Y (jg ⟨R (Z w)+1,0,U⟩) 1 1]) (by obtain⟨⟨c,d,f⟩,-⟩:=x 600 4 ⟨rfl,rfl,rfl⟩;simp[results,results27,go_sem,c,d,f]) rfl ⟨(x 600 4 ⟨rfl,rfl,rfl⟩).2.1,EV (x 600 4 ⟨rfl,rfl,rfl⟩).2.2⟩
  |exact G2 (v:= jM #[Y U 0 0,V jd 601,Y (jg ⟨R (Z w)+1,0,U⟩) 1 1]) (by obtain⟨⟨c,d,f⟩,-⟩:=x 601 5 ⟨rfl,rfl,rfl⟩;simp[results,results27,go_sem,c,d,f]) rfl ⟨(x 601 5 ⟨rfl,rfl,rfl⟩).2.1,EV (x 601 5 ⟨rfl,rfl,rfl⟩).2.2⟩
theorem Ou {w:jB}{o:Oper}{a:Act}{Q:Exit->Act->jB->Prop}(f:o.guard=U)(s x:Operand)(t:jV)
  (l:o.op= .call { callee:= .builtin .append,args:=#[s,x],argTypes:=#[t,t] })(e:jV)(i:TypeInfo)(z:jF)(size b:Nat)(ht: jZ.underlying t=jg (.slice e))(hi: jZ.info? e=jg i)(m:i.zero=jg z)
  (p:i.size=size)(q:i.bytes=b)(r:z.cells.size=size)(v: 0<size)(lo n c:Nat)(d:L3)(ys:L7)(hs:a.eval s=Y U 0 0)(hx:a.eval x=Y d n c)(hq:jO w lo e size (Y d n c) n ys)(y:∀u∈ys,u.oneCell'=jD)(D:n<=maxLen)(A:n*b<=140737488355328)
  (h:∀v' w',jO w' (R<|Z w) e size v' n ys->Ai w w'->wpList jZ ops Q rest (a.put o.dst v') w'):wpList jZ ops Q (o ::rest) a w:=by
 obtain⟨hv,h0⟩|⟨g,cap,E,hv,F,hg,G,hm,H,I⟩:=hq.2
 .cases hv;have hy:ys=[]:=zd (by have:=hq.1;simpa using this)
  grind [Go.RowKit.Below.refl,Go.World.ownsRow_nil,Go.wpList_append_own_none]
 .cases hv;refine G7 _ f s x t l (R<|Z w) e i z size b ht hi m p q r v (Y U 0 0) 0 [] hs H3 (jA g 0 U) n c ys hx hq.1 (λj u hu=>?_) y Oa (by rw[zY];exact A) NLN (λv' w' B h3 _=>h v' w' (by simpa using B)<|BRN.grown h3 NLN λk C=>by cases C);have J:j<n*size:=by have:=(zP.1 hu).1;rw[hq.1]at this;exact this
  have K:((jA g 0 U):jG).add j=(jA g j U):=Qx
  grind [Go.World.ownsRow.cellAt]
theorem Aap:∀(P:M1) (nv:L7) (u:jF),u∈JX P nv->(∃z,u=V X z)\/(∃s,u=jC s)\/u∈nv
 |[],_,u,h=>by simp[JX]at h
 |x ::P,[],u,h=>by simp[JX]at h
 |x ::P,n ::nv,u,h=>by
  simp only[JX,vl4,List.cons_append,List.nil_append,zh]at h;obtain h|h|h|h|h:=h
  .grind
  .grind
  .grind
  .grind
  .obtain q|q|q:=Aap P nv u h
   all_goals grind
theorem Th.bH {w:jB}{B:Nat}{P:M1}{nv:L7}(h:Th w B v P nv):∀u∈JX P nv,u.oneCell'=jD:=λu hu=>by
 obtain⟨z,rfl⟩|⟨s,rfl⟩|q:=Aap P nv u hu
 .rfl
 .rfl
 .obtain⟨j,a,rfl⟩:=zw q;obtain⟨x,c,e⟩:=AA<|h.aB j (by rw[<-h.len];exact a) a;rw[e];rfl
theorem Adz (I:M2):∀u∈Cr I,u.oneCell'=jD:=λu hu=>by
 obtain⟨i,_,hi⟩:=List.mem_flatMap.1 hu;simp only[zh,List.not_mem_nil,or_false]at hi;obtain rfl|rfl:=hi<;>rfl
theorem Ti:∀(I:M2) (k:Nat) (a b:Int),k<T I->((Cr I).set (k*2)<|V X a).set (k*2+1) (V X b)=Cr (I.set k ⟨a,b⟩)
 |[],k,a,b,h=>Hr
 |i ::I,0,a,b,_=>rfl
 |i ::I,k+1,a,b,h=>by
  have:=Ti I k a b Q6;show((Value.int X i.op ::Value.int X i.aY ::Cr I).set ((k+1)*2) _).set ((k+1)*2+1) _=Value.int X i.op ::Value.int X i.aY ::Cr (I.set k ⟨a,b⟩)
  grind
theorem Tj:∀(I:M2) (z:Nat),Cr (I.take z)=(Cr I).take (z*2)
 |[],z=>by simp[Cr]
 |i ::I,0=>rfl
 |i ::I,z+1=>by
  show Value.int X i.op ::Value.int X i.aY ::Cr (I.take z)=(Value.int X i.op ::Value.int X i.aY ::Cr I).take ((z+1)*2);rw[(Oa:(z+1)*2=z*2+1+1),List.take_succ_cons,List.take_succ_cons,Tj I z]
theorem VN:∀(P:M1) (nv:L7) (j:Nat) (x:Vl) (a:j<T P) (b:T nv=T P) (hu:j<T nv),((((JX P nv).set (j*4)<|V X x.aC).set (j*4+1)<|V X x.num).set (j*4+2)<|jC x.text).set (j*4+3) nv[j]=JX (P.set j x) nv
 |y ::P,u ::nv,0,x,_,_,_=>by simp[JX,vl4]
 |y ::P,u ::nv,j+1,x,a,b,hu=>by
  have c:=VN P nv j x (by simpa using a) (by simpa using b) (by simpa using hu)
  grind [vl4,JX]
 |[],_,_,_,h,_,_=>H9 h Ox
 |_ ::_,[],_,_,_,h,_=>Hr
section
variable{w w' W w7:jB}{tl th B b0 b1:Nat}{kN:Int}{P:M1}{I:M2}{pv iv:jF}{nv:L7}
theorem L5.aR {R:Nat}{c:Array jF}(h:L5 w w' R (R+1) B b0 b1 kN P I pv iv nv)(d:Ag w' R c 64)(T:AU R (R+1) w' W):L5 w W R (R+1) B b0 b1 kN P I pv iv nv:=by
 have a:=h.lo;have k:∀{q:Nat} {b:Array jF} {t:jV},Ag w' q b t->t≠64->(Z W)[q]? =(Z w')[q]? :=λr ht=>T.block _ r.lt<|H2<|Bm r d ht;exact⟨⟨(k h.row Ob).trans h.row.out⟩,h.aI.aM λq b t r ht=>k r (by obtain rfl|rfl:=ht<;>decide),Ad h.aK λq hq=>by obtain⟨b,r⟩:=UC h.aK hq;exact k r Ob,⟨(k h.out Ob).trans h.out.out⟩,h.cP.trans T,⟨a.1,a.2.1,a.2.2.1,a.2.2.2.1,zB a.2.2.2.2 T.size⟩⟩
theorem L5.ins2 {g ci:Nat}(h:L5 w w' tl th B b0 b1 kN P I pv (Y (Q<|jA g 0 U) (T I) ci) nv)(k:Nat)(i:k<T I)(a b:Int):L5 w (jJ (jJ w' ⟨g,k*2,U⟩<|V X a) ⟨g,k*2+1,U⟩<|V X b) tl th B b0 b1 kN P (I.set k ⟨a,b⟩) pv (Y (Q<|jA g 0 U) (T I) ci) nv:=by
 have c:=h.lo;have K:=((AN.refl (λq=>q=b1\/jL (Value.slice (Q<|jA g 0 U) (T I) ci)=Q q) w').setCell (p:=⟨g,k*2,U⟩) (λ_=> .inr rfl)<|V X a).setCell (p:=⟨g,k*2+1,U⟩) (λ_=> .inr rfl)<|V X b;obtain⟨f1,f2,f⟩:=h.bF (λq hq=>(h.aK.lt q hq).1) K;have d:b1≠g:=λe=>Ac h.row h.aK Ob D7;refine⟨(h.row.aF (p:=⟨g,k*2,U⟩) d _).aF (p:=⟨g,k*2+1,U⟩) d _,h.pk K,?_,f1,f2,⟨c.1,c.2.1,c.2.2.1,c.2.2.2.1,f⟩⟩;have o:=(((h.aK.stored (k*2)<|V X a).1).stored (k*2+1)<|V X b).1
 grind [Ti]
theorem L5.cut {x:L3}{ci:Nat}(h:L5 w w' tl th B b0 b1 kN P I pv (Y x (T I) ci) nv)(z:Nat)(b:z<=T I):L5 w (jJ w' (jA b1 2 U)<|Y x z ci) tl th B b0 b1 kN P (I.take z) pv (Y x z ci) nv:=by
 have a:=h.lo;have K:=λv:jF=>(AN.refl (λq=>q=b1\/jL v=Q q) w').setCell (p:=(jA b1 2 U)) (λ_=> .inl rfl)<|Y x z ci;obtain⟨f1,f2,c⟩:=h.bF (λq hq=>(h.aK.lt q hq).1)<|K _;have o:=Iz h.aK (m:=z) b;refine⟨h.row.set 2 _,h.pk<|K _,?_,f1,f2,⟨a.1,a.2.1,a.2.2.1,a.2.2.2.1,c⟩⟩;rw[Tj,zg,Nat.min_eq_left b];exact Ah o (jA b1 2 U) _ λq hq e=>Ac h.row o Ob (by have e:q=b1:=e;rw[<-e];exact hq)
theorem L5.val {g cp:Nat}(h:L5 w w' tl th B b0 b1 kN P I (Y (Q<|jA g 0 U) (T P) cp) iv nv)(k:Nat)(d:k<T P)(hu:k<T nv)(x:Vl)(hx:x.aB=P[k].aB)(l:PU x):L5 w (jJ (jJ (jJ (jJ w' ⟨g,k*4,U⟩<|V X x.aC) ⟨g,k*4+1,U⟩<|V X x.num) ⟨g,k*4+2,U⟩<|jC x.text) ⟨g,k*4+3,U⟩ nv[k]) tl th B b0 b1 kN (P.set k x) I (Y (Q<|jA g 0 U) (T P) cp) iv nv:=by
 have a:=h.lo;have K:=((((AN.refl (λq=>q=b1\/jL (Value.slice (Q<|jA g 0 U) (T P) cp)=Q q) w').setCell (p:=⟨g,k*4,U⟩) (λ_=> .inr rfl)<|V X x.aC).setCell (p:=⟨g,k*4+1,U⟩) (λ_=> .inr rfl)<|V X x.num).setCell (p:=⟨g,k*4+2,U⟩) (λ_=> .inr rfl)<|jC x.text).setCell (p:=⟨g,k*4+3,U⟩) (λ_=> .inr rfl) nv[k];obtain⟨f1,f2,f⟩:=h.bF (λq hq=>(h.aI.aN.lt q hq).1) K;have b:b1≠g:=λe=>Ac h.row h.aI.aN Ob D7;refine⟨(((h.row.aF (p:=⟨g,k*4,U⟩) b _).aF (p:=⟨g,k*4+1,U⟩) b _).aF (p:=⟨g,k*4+2,U⟩) b _).aF (p:=⟨g,k*4+3,U⟩) b _,⟨by rw[zv];exact h.aI.len,?_,λj c i=>?_,λy hy=>?_⟩,h.ik K,f1,f2,⟨a.1,a.2.1,a.2.2.1,a.2.2.2.1,f⟩⟩
 .have o:=(((((((h.aI.aN.stored (k*4)<|V X x.aC).1).stored (k*4+1)<|V X x.num).1).stored (k*4+2)<|jC x.text).1).stored (k*4+3) nv[k]).1;rw[VN P nv k x d h.aI.len hu]at o
  grind
 .rw[zv]at c;have o:=h.aI.aB j c i;have e:(P.set k x)[j]'(by rw[zv];exact c)=if k=j then x else P[j]:=by rw[List.getElem_set]
  have en:((P.set k x)[j]'(by rw[zv];exact c)).aB=P[j].aB:=S4;rw[en];exact Ad o λq hq=>K.block q (o.lt q hq).2 (λe=>by
   obtain e|e:=e
   .exact Ac h.row o Ob Hb
   .exact Al h.aI.aN o Ob q e hq)
 .obtain t|t:=List.mem_or_eq_of_mem_set hy
  .exact h.aI.ok y t
  grind
end
def Ak2 (want st:L2) (w:jB) (r:Ending) (w':jB):Prop:=∃b:Bool,r=jN (.bool b)/\(b=jD↔UA want st)/\w'=w
def Oo (want st:L2) (z i:Nat):Prop:=(0<want.getD i 0->want.getD i 0=st.getD (z+i) 0)/\(want.getD i 0=0->st.getD (z+i) 0=st.getD z 0)
section
variable{w w':jB}{B Rr gb:Nat}{a:L3}{n c:Nat}{zs:L2}{k:Nat}{s:Gs}{pv iv sv lv:jF}{nv:L7}
theorem Aj3 (h:GS B Rr gb a n c zs k s w)(y:L3)(m d:Nat)(b:L2)(E:AP w y m d b)(hs:T s.st<=100000):
  Calls jZ 107 #[.pointer<|Q<|jA gb 0 U,Y y m d] w (Ak2 b s.st w):=by
 obtain⟨pv,iv,sv,lv,nv,h⟩:=h;obtain⟨x,cx,rfl,hx⟩:=Ae h.st;have c4:jI w (jA gb 4 U)=Q (Y x (T s.st) cx):=h.row.cell 4;have ai:=E.aJ;have r:=Ab E.len;have O:∀j,j<T s.st->∃g,x=Q (jA g 0 U)/\jI w (jA g j U)=Q (V X<|s.st.getD j 0):=λj F=>by
  obtain⟨g,e,-,hc⟩:=hx Oa;exact⟨g,e,hc j _<|by rw[Ak,zr,zM F,zj,zM F];rfl⟩
 have G:=Ab O;clear h hx O;by_cases hm:m<=T s.st
 .obtain⟨z,H⟩:∃z,z=T s.st-m:=⟨_,rfl⟩
  have P:=Ab (show UA b s.st↔∀i,i<m->Oo b s.st z i by
   unfold UA Oo;rw[Aa r,<-H];exact⟨λt=>t.2,λt=>⟨hm,t⟩⟩)
  generalize T s.st=L at c4 hs hm H G;have ez:IntKind.i64.wrap ((L:Int)-(m:Int))=(z:Int):=by rw[(Oa:(L:Int)-m=(z:Int))];simp[IntKind.wrap,IntKind.bits,IntKind.signed];omega
  have ad: ¬ (L:Int)<(m:Int):=Oa;have D:=Ab (Oa:z+m=L);clear H hm;go_enter func107,ntmps107
  go_wp2_with fail
  go_loop [27] (λi=>∃k:Nat,k<=m/\i=V X k/\Hid (∀j,j<k->Oo b s.st z j)) (λi=>m-(RowKit.intOf i).toNat)
  case atStart=>exact⟨0,Oa,rfl,Ab λj h=>H9 h Oa⟩
  case round=>
   obtain⟨i,hi,rfl,S⟩:=hrel;by_cases A:i<m
   .have aj:(i:Int)<(m:Int):=Oa;obtain⟨b1,ak,rfl,al,c1⟩:=E.cells i (by rw[Aa r];exact A);obtain⟨g,rfl,ae⟩:=Aa G z Hx;obtain⟨af,I,W⟩:=Aa G (z+i) Hx;obtain rfl:g=af:=by injection I with I;injection I
    have aa:=Ab (show b.getD i 0=b[i]'(by rw[Aa r];exact A) by rw[zj,zM<|by rw[Aa r];exact A];rfl);have J:IntKind.i64.wrap ((z:Int)+(i:Int))=((z+i:Nat):Int):=by have:=Aa D;simp[IntKind.wrap,IntKind.bits,IntKind.signed];omega
    have ag:((z+i:Nat):Int)<(L:Int):=Hx;have ao:(z:Int)<(L:Int):=Hx;have C:=Ab A;have p:=Ab (show Oo b s.st z i->∀j,j<i+1->Oo b s.st z j from λe j F=>by
     by_cases J:j=i
     .subst J;exact e
     .exact Aa S j Oa)
    have f:=Ab<|show ¬ Oo b s.st z i->¬ UA b s.st from λe t=>e<|(Aa P).1 t i A;generalize b[i]'(by rw[Aa r];exact A)=u at c1 aa;generalize hy:s.st.getD (z+i) 0=y at W;generalize hv:s.st.getD z 0=v at ae;have ab:=Ab hy;have ah:=Ab hv;clear hy hv;have q:Hid<|Oo b s.st z i↔if 0<u then u=y else if u=0 then y=v else True:=Ab (by
     unfold Oo;rw[Aa aa,Aa ah,<-Aa ab];split
     .exact⟨λt=>t.1 Q4,λt=>⟨λ_=>t,λK=>Oa⟩⟩
     .split
      .exact⟨λt=>t.2 Q4,λt=>⟨λK=>Oa,λ_=>t⟩⟩
      .exact⟨λ_=>trivial,λ_=>⟨λK=>Oa,λK=>Oa⟩⟩)
    generalize z+i=j at W J ag ab;rcases(Oa:u<0\/u=0\/0<u)with h0|h0|h0
    .have ac:(u==0)=jE:=zA.2 Oa;have M: ¬ 0<u:=Oa;have l:=Ab ((Aa p)<|(Aa q).2<|by rw[H7 M,H7 Oa];trivial);clear h0 p f q;go_wp2
     go_round
     case rel=>exact⟨i+1,Aa C,O1,l⟩
     case measure=>have:=Aa C;simp[RowKit.intOf];omega
    .have ac:(u==0)=jD:=zD.2 h0;have M: ¬ 0<u:=Oa;have o:=Ab ((Aa q).trans<|by rw[H7 M,H8 h0]);clear h0;by_cases e:y=v
     .have N:(y !=v)=jE:=Hk;have l:=Ab<|(Aa p)<|(Aa o).2 e;clear e p f q o;go_wp2
      go_round
      case rel=>exact⟨i+1,Aa C,O1,l⟩
      case measure=>have:=Aa C;simp[RowKit.intOf];omega
     .have N:(y !=v)=jD:=zV.2 e;have l:=Ab<|(Aa f) λt=>e<|(Aa o).1 t;clear e p f q o;go_wp2
      go_ret
      exact⟨jE,rfl,⟨λe=>O5,λe=>H9 e<|Aa l⟩,rfl⟩
    .have ac:(u==0)=jE:=zA.2 Oa;have o:=Ab ((Aa q).trans<|by rw[H8 h0]);by_cases e:u=y
     .have N:(u !=y)=jE:=Hk;have l:=Ab<|(Aa p)<|(Aa o).2 e;clear e p f q o;go_wp2
      go_round
      case rel=>exact⟨i+1,Aa C,O1,l⟩
      case measure=>have:=Aa C;simp[RowKit.intOf];omega
     .have N:(u !=y)=jD:=zV.2 e;have l:=Ab<|(Aa f) λt=>e<|(Aa o).1 t;clear e p f q o;go_wp2
      go_ret
      exact⟨jE,rfl,⟨λe=>O5,λe=>H9 e<|Aa l⟩,rfl⟩
   .have e:i=m:=Oa;subst e;have f:=Ab<|show UA b s.st from(Aa P).2<|Aa S;go_wp2
    go_ret
    exact⟨jD,rfl,⟨λ_=>Aa f,λ_=>rfl⟩,rfl⟩
 .have ad:(T s.st:Int)<(m:Int):=Oa;have f:=Ab (show ¬ UA b s.st from λt=>hm<|by have:=t.1;rw[Aa r]at this;exact this);clear hm;go_enter func107,ntmps107
  go_wp2
  go_ret
  exact⟨jE,rfl,⟨λe=>O5,λe=>H9 e<|Aa f⟩,rfl⟩
end
def Xa (k:Nat):K9:= [⟨#[118]⟩,⟨#[119]⟩,⟨#[98,97,115,101]⟩,⟨#[120,95,49]⟩].getD k ⟨#[]⟩
def WZ (k:Nat):K9:= [⟨#[118,48]⟩,⟨#[97,115,107,101,100]⟩,⟨#[110,111,119]⟩].getD k ⟨#[]⟩
def MJ (wild:Bool) (x:Int) (m:Nat):K9:=if wild=jD/\245<x then WZ (x % 3).toNat else Xa (x / 12 % 4).toNat++IH m
abbrev Lts:=List<|K9×Int
def NO (zs:L2) (wild:Bool) (L:Lts) (x:Int) (p:Nat) (N:L6) (q:Nat) (M:L6):Prop:=
 if x=254 then DpX zs L (64-(nx zs p).1 % 2).toNat (nx zs p).2 N q M else MI zs L wild 5 1 p N q M
def NP (zs:L2) (wild:Bool) (m:Nat) (L:Lts) (x:Int) (p:Nat) (N:L6) (q:Nat) (M:L6) (s:St) (K:Lts):Prop:=
 if x % 3=0 then MI zs L wild 4 (1+x / 3 % 4) p N q M/\s=⟨1,MJ wild x m,Fl M,-1⟩/\K=L++[(MJ wild x m,1+x / 3 % 4)]
 else if x % 3=1 then ∃q1 N1,NO zs wild L x p N q1 N1/\MI zs L wild 4 4 q1 N1 q M/\s=⟨2,⟨#[]⟩,Fl N1,Fl M⟩/\K=L
 else NO zs wild L x p N q M/\s=⟨2,⟨#[]⟩,Fl M,-1⟩/\K=L
def NN (zs:L2) (wild:Bool):Nat->Nat->L6->L9->Lts->Nat->L6->L9->Lts->Prop
 |0,p,N,S,L,q,M,Tt,K=>q=p/\M=N/\Tt=S/\K=L
 |k+1,p,N,S,L,q,M,Tt,K=>
  if 4<(T zs:Int)-(p:Int)then ∃p1 N1 s L1,NP zs wild (T S) L (nx zs p).1 (nx zs p).2 N p1 N1 s L1/\NN zs wild k p1 N1 (S++[s]) L1 q M Tt K
  else q=p/\M=N/\Tt=S/\K=L
def Ahd (zs:L2) (wild:Bool) (L:Lts) (x:Int) (p:Nat) (N:L6) (S:L9) (M:L6) (T:L9):Prop:=
 if 0<x % 3 then ∃q,MI zs L wild 3 4 p N q M/\T=S++[⟨3,⟨#[]⟩,-1,Fl M⟩]else M=N/\T=S++[⟨3,⟨#[]⟩,-1,-1⟩]
def VQ (zs:L2) (wild:Bool) (p:Nat) (M:L6) (T:L9):Prop:=
 ∃q N S L,NN zs wild 14 p [] [] [] q N S L/\Ahd zs wild L (nx zs q).1 (nx zs q).2 N S M T
section
variable{zs:L2}{wild:Bool}{L:Lts}{x:Int}{p p1 q q1 m:Nat}{N N1 M:L6}{S:L9}
theorem Ahc (e:x % 3=0)(h:MI zs L wild 4 (1+x / 3 % 4) p N q M){nm:K9}(a:nm=MJ wild x m):NP zs wild m L x p N q M ⟨1,nm,Fl M,-1⟩<|L++[(nm,1+x / 3 % 4)]:=by grind [NP]
theorem Acf (e:x % 3=1)(h:NO zs wild L x p N q1 N1)(a:MI zs L wild 4 4 q1 N1 q M):NP zs wild m L x p N q M ⟨2,⟨#[]⟩,Fl N1,Fl M⟩ L:=by grind [NP]
theorem Xb (e0: ¬ x % 3=0)(e: ¬ x % 3=1)(h:NO zs wild L x p N q M):NP zs wild m L x p N q M ⟨2,⟨#[]⟩,Fl M,-1⟩ L:=by grind [NP]
theorem AeF {y:Int}{a t:Nat}(e:x=254)(X:Hid<|nx zs p=(y,a))(ht:(t:Int)=64-y % 2)(h:DpX zs L t a N q M):NO zs wild L x p N q M:=by grind [NO,Aa]
theorem Xc (e: ¬ x=254)(h:MI zs L wild 5 1 p N q M):NO zs wild L x p N q M:=by grind [NO]
theorem KI {s:St}{K a:Lts}{b:Nat}{c:L6}{T:L9}(d:ja S<14)(hy: 4<(ja zs:Int)-(p:Int))(X:Hid<|nx zs p=(x,p1))(h:NP zs wild (ja S) L x p1 N q M s a)(f:NN zs wild (14-ja (S++[s])) q M (S++[s]) a b c T K):NN zs wild (14-ja S) p N S L b c T K:=by
 obtain⟨j,g⟩:∃j,14-ja S=j+1:=⟨14-ja S-1,Oa⟩
 grind [NN,Aa]
theorem Xd (h: ¬ T S<14\/¬ 4<(T zs:Int)-(p:Int)):NN zs wild (14-T S) p N S L p N S L:=by
 cases a: 14-T S with
 |zero=>exact⟨rfl,rfl,rfl,rfl⟩
 |succ j=>grind [NN]
end
def Bv (Es:L8) (k:Int):Nat:=if k= -1 then 0 else match Es[k.toNat]? with
 |some e=>e.aL
 |none=>0
def DJ (Es:L8) (L:L9):Nat:=(L.map λs=>Bv Es s.cond+Bv Es s.aG).sum
theorem Jx {Es:L8}{k:Int}{m:Nat}{e:Ex}(h:k=(m:Nat))(he:Es[m]? =Q e):Bv Es k=e.aL:=by grind [Bv]
theorem Ab4 (Es:L8)(L:L9)(k:Nat)(h:k<T L):DJ Es (L.take k)+(Bv Es L[k].cond+Bv Es L[k].aG)<=DJ Es L:=by grind [z8,DJ,List.getElem_cons_drop]
theorem OO {K:List L2}{a b:Nat}{d:List (Nat×Nat)}(h:Av K a d b):∀t,a<=t->t<b->∃c:List<|Nat×Nat,K[t]? =Q (Au c)/\∀p∈c,p.1<t:=by
 induction h with
 |nil a=>omega
 |@cons a t b c d f ht j k i2=>
   intro q l m;by_cases h3:q<t
   .grind
   by_cases g:q=t
   .subst g;exact⟨c,ht,λp i=>(f.lt p i).2⟩
   grind
theorem Aep {e:Ex} :∀{Es:L8},e∈Es->e.aL<=QS Es:=by intro Es;induction Es<;>intros<;>grind [QS,Ex.aL]
theorem QR:∀{L:L9},EG L=jD->∀s∈L,Kh s=jD:=by intro L;induction L<;>intros<;>grind [EG]
structure AkK (w:jB) (a:L3) (n c:Nat) (L:L2):Prop where
 len:T L=n
 cap:n<=c
 aJ:c<=maxLen
 cells:∀j,(h:j<T L)->∃b off,a=Q (jA b off U)/\b<R (Z w)/\jI w ⟨b,off+j,U⟩=Q (V X L[j])
def AlJ (w:jB) (b o:Nat) (x:Nd):Prop:=∃an nn cn ak nk ck,jI w (jA b o U)=Q (V X x.op)/\jI w ⟨b,o+1,U⟩=Q (V X x.num)/\jI w ⟨b,o+2,U⟩=Q (jC x.text)/\jI w ⟨b,o+3,U⟩=Q (Y an nn cn)/\jI w ⟨b,o+4,U⟩=Q (Y ak nk ck)/\Aq w an nn cn x.aB/\AkK w ak nk ck x.aD
def Wd (w:jB) (x:jG) (n:Nat) (t:jV):Prop:=∃q cs,x=(jA q 0 U)/\Ag w q cs t/\cs.size=n
theorem VZ {w:jB}{base:Nat}{e:jV}{size n c:Nat}{b:L7}(h:jO w base e size (Y (Q<|jA g 0 U) n c) n b):∃a,Ag w g a e/\a.size=c*size:=by
 obtain⟨hv,_⟩|⟨f,cap,a,hv,i,d,h3,j,h5,k⟩:=h.2
 .cases hv
 .cases hv;exact⟨a,⟨d⟩,h5⟩
def NdX (w:jB) (g:Nat) (cs:Array jF) (o:Nat) (x:Nd):Prop:=∃x1 nn x2 nk,cs[o]? =Q (V X x.op)/\cs[o+1]? =Q (V X x.num)/\cs[o+2]? =Q (jC x.text)/\cs[o+3]? =Q (Y (Q x1) nn nn)/\cs[o+4]? =Q (Y (Q x2) nk nk)/\Aq w (Q x1) nn nn x.aB/\AP w (Q x2) nk nk x.aD/\(Wd w x1 nn 9/\Wd w x2 nk 3)/\g<jT x1/\g<jT x2
def Hi (w:jB) (g:Nat) (N:L6):Prop:=∃cs,(Ag w g cs 170/\cs.size=T N*5)/\∀j,(hj:j<T N)->NdX w g cs (j*5) N[j]
set_option maxRecDepth 100000
set_option maxHeartbeats 3200000
def CQ (w W:jB):Prop:=∀b cs,Ag w b cs 9->Ag W b cs 9
theorem CQ.set {w:jB}{a:Array jF}(R:Ag w lo a t)(ht:t≠9)(j:Nat)(u:jF):CQ w<|jJ w (jA lo j U) u:=λb c r=>r.aF (λe=>ht (by
 have hF:b=lo:=e;subst hF;have e:=R.out.symm.trans r.out;simp only[Option.some.injEq,Obj.cells.injEq]at e;exact e.2.1)) u
def Tl (P:Nat->Prop) (w:jB):Ex->K5->Prop
 |.un _ op c,k=>k.op=op/\k.num=0/\k.text=⟨#[]⟩/\k.nn=0/\k.kn=1/\(∀b o,k.ka=Q (jA b o U)->P b)/\∃k1,AO w k.ka [k1]/\Tl P w c k1
 |.bin _ op l r,k=>k.op=op/\k.num=0/\k.text=⟨#[]⟩/\k.nn=0/\k.kn=2/\(∀b o,k.ka=Q (jA b o U)->P b)/\∃k1 k2,AO w k.ka [k1,k2]/\Tl P w l k1/\Tl P w r k2
 |.ite _ c t e,k=>k.op=27/\k.num=0/\k.text=⟨#[]⟩/\k.nn=0/\k.kn=3/\(∀b o,k.ka=Q (jA b o U)->P b)/\∃k1 k2 k3,AO w k.ka [k1,k2,k3]/\Tl P w c k1/\Tl P w t k2/\Tl P w e k3
 |e,k=>Tq w e k
theorem Tl.tq {P:Nat->Prop}{w:jB} :∀{e:Ex} {k:K5},Tl P w e k->Tq w e k
 |.un ..,k,⟨h1,h2,h3,h4,h5,_,k1,h6,h7⟩=>⟨h1,h2,h3,h4,h5,k1,h6,h7.tq⟩
 |.bin ..,k,⟨h1,h2,h3,h4,h5,_,k1,k2,h6,h7,h8⟩=>⟨h1,h2,h3,h4,h5,k1,k2,h6,h7.tq,h8.tq⟩
 |.ite ..,k,⟨h1,h2,h3,h4,h5,_,k1,k2,k3,h6,h7,h8,h9⟩=>⟨h1,h2,h3,h4,h5,k1,k2,k3,h6,h7.tq,h8.tq,h9.tq⟩
 |.int ..,k,h=>h
 |.text ..,k,h=>h
 |.bool ..,k,h=>h
 |.set ..,k,h=>h
 |.name ..,k,h=>h
 |.attr ..,k,h=>h
 |.lett ..,k,h=>h
theorem Tl.mono {P Q:Nat->Prop}{w:jB}(a:∀b,P b->Q b):∀{e:Ex} {k:K5},Tl P w e k->Tl Q w e k
 |.un ..,k,⟨h1,h2,h3,h4,h5,h0,k1,h6,h7⟩=>⟨h1,h2,h3,h4,h5,λb o e=>a b<|h0 b o e,k1,h6,h7.mono a⟩
 |.bin ..,k,⟨h1,h2,h3,h4,h5,h0,k1,k2,h6,h7,h8⟩=>⟨h1,h2,h3,h4,h5,λb o e=>a b<|h0 b o e,k1,k2,h6,h7.mono a,h8.mono a⟩
 |.ite ..,k,⟨h1,h2,h3,h4,h5,h0,k1,k2,k3,h6,h7,h8,h9⟩=>⟨h1,h2,h3,h4,h5,λb o e=>a b<|h0 b o e,k1,k2,k3,h6,h7.mono a,h8.mono a,h9.mono a⟩
 |.int ..,k,h=>h
 |.text ..,k,h=>h
 |.bool ..,k,h=>h
 |.set ..,k,h=>h
 |.name ..,k,h=>h
 |.attr ..,k,h=>h
 |.lett ..,k,h=>h
theorem T9 {w:jB}(l:R (Z w)<=R (Z d))(f:CQ w d){a:L3}{n c:Nat}(h:Aq w a n c ss)(z:ZS w a c):Aq d a n c ss/\ZS d a c:=
 ⟨⟨h.len,h.cap,h.aJ,h.bC,λj m=>by
  obtain⟨b,g,i,o,hc⟩:=h.cells j m;obtain⟨k,r⟩:=z.2 _ i;exact⟨b,g,i,zL o l,(G9 (w:=w) (a:=⟨b,g+j,U⟩)<|(f _ _ r).out.trans r.out.symm).trans hc⟩⟩,z.1,λp e=>by
  obtain⟨k,r⟩:=z.2 p e;exact⟨k,f _ _ r⟩⟩
theorem Gx {w a:jB}(g:R (Z w)<=R (Z a)){c:M6}(h:AO w ka c)(i:∀b o,ka=Q (jA b o U)->b<R (Z w)->(Z a)[b]? =(Z w)[b]?):AO a ka c:=λj k=>by
 obtain⟨b,d,e,f,h3⟩:=h j k;exact⟨b,d,e,zL f g,λr l=>(G9 (w:=w)<|i b d e f).trans<|h3 r l⟩
theorem JG {w a:jB}(b:R (Z w)<=R (Z a))(c:CQ w a){k:K5}(h:k.op=op/\k.num=num/\k.text=text/\k.kn=0/\Aq w k.an k.nn k.cn ss/\T ss<=1048576/\ZS w k.an k.cn):k.op=op/\k.num=num/\k.text=text/\k.kn=0/\Aq a k.an k.nn k.cn ss/\T ss<=1048576/\ZS a k.an k.cn:=by grind [T9]
theorem Tl.aM {P:Nat->Prop}{w f:jB}(a:R (Z w)<=R (Z f))(d:∀b,P b->b<R (Z w)->(Z f)[b]? =(Z w)[b]?)(c:CQ w f):∀{e:Ex} {k:K5},Tl P w e k->Tl P f e k
 |.un ..,k,⟨h1,h2,h3,h4,h5,h0,k1,h6,h7⟩=>⟨h1,h2,h3,h4,h5,h0,k1,Gx a h6 λb o e=>d b<|h0 b o e,h7.aM a d c⟩
 |.bin ..,k,⟨h1,h2,h3,h4,h5,h0,k1,k2,h6,h7,h8⟩=>⟨h1,h2,h3,h4,h5,h0,k1,k2,Gx a h6 λb o e=>d b<|h0 b o e,h7.aM a d c,h8.aM a d c⟩
 |.ite ..,k,⟨h1,h2,h3,h4,h5,h0,k1,k2,k3,h6,h7,h8,h9⟩=>⟨h1,h2,h3,h4,h5,h0,k1,k2,k3,Gx a h6 λb o e=>d b<|h0 b o e,h7.aM a d c,h8.aM a d c,h9.aM a d c⟩
 |.int ..,k,h=>JG a c h
 |.text ..,k,h=>JG a c h
 |.bool ..,k,h=>JG a c h
 |.set ..,k,h=>JG a c h
 |.name ..,k,h=>JG a c h
 |.attr ..,k,h=>JG a c h
 |.lett ..,k,h=>JG a c h
def Ct (w0:jB) (lo hi:Nat) (w W:jB):Prop:=R (Z w)<=R (Z W)/\(∀b,b<R (Z w0)\/(lo<=b/\b<hi)->b<R (Z w)->(Z W)[b]? =(Z w)[b]?)/\CQ w W
theorem Ct.aH {w a:jB}(h:Ai w a):Ct w0 lo hi w a:=⟨h.size,λb _ c=>h.block b c,λb d r=>r.aA h NLN⟩
def NT (w0:jB) (lo hi:Nat) (w:jB) (k:K5) (e:Ex):Prop:=Tl (λb=>b<R (Z w0)\/(lo<=b/\b<hi)) w e k
theorem NT.aM {w0:jB}{lo hi:Nat}{w w':jB}{k:K5}{e:Ex}(h:NT w0 lo hi w k e)(a:Ct w0 lo hi w w'):NT w0 lo hi w' k e:=Tl.aM a.1 a.2.1 a.2.2 h
theorem Io {w:jB}{k:K5}{e:Ex}(a:e.aD=[])(h:Tq w e k):NT w0 lo hi w k e:=by cases e<;>first|exact h|cases a
def SQ (w:jB) (a:L3) (n c:Nat) (ss:L4):Prop:=Aq w a n c ss/\T ss<=1048576/\ZS w a c
def NmQ (w:jB) (a:L3) (N:L6):Prop:=∀j,(h:j<T N)->∀b off,a=Q (jA b off U)->∀an nn cn,jI w ⟨b,off+j*5+3,U⟩=Q (Y an nn cn)->T N[j].aB<=1048576/\ZS w an cn
inductive Rv (op num:Int) (text:ByteArray) (ss:List ByteArray):L8->Ex->Prop
 |leaf (e:Ex) (hk:e.aD=[]) (h:Ef e=⟨op,num,text,ss,[]⟩):Rv op num text ss [] e
 |un (i:Int) (e0:Ex) (h:num=0/\text=⟨#[]⟩/\ss=[]):Rv op num text ss [e0]<|.un i op e0
 |bin (i:Int) (e0 e1:Ex) (h:num=0/\text=⟨#[]⟩/\ss=[]):Rv op num text ss [e0,e1]<|.bin i op e0 e1
 |ite (i:Int) (e0 e1 e2:Ex) (ho:op=27) (h:num=0/\text=⟨#[]⟩/\ss=[]):Rv op num text ss [e0,e1,e2]<|.ite i e0 e1 e2
theorem Ahz {a:jB}{e:Ex}{an:L3}{nn cn:Nat}{ka:L3}{kc:Nat}(c:e.aD=[])(h:Ef e=⟨op,num,text,ss,[]⟩)(b:SQ a an nn cn ss):Tq a e ⟨op,num,text,an,nn,cn,ka,0,kc⟩:=by
 have d:op=(Ef e).op/\num=(Ef e).num/\text=(Ef e).text/\(0 :Nat)=0/\Aq a an nn cn (Ef e).aB/\T (Ef e).aB<=1048576/\ZS a an cn:=by rw[h];exact⟨rfl,rfl,rfl,rfl,b.1,b.2.1,b.2.2⟩
 cases e<;>first|exact d|cases c
structure Tt (w0:jB) (B:Nat) (kv:jF) (vs:M6) (bs:L8) (w:jB):Prop where
 aN:jO w B 121 5 kv (T vs)<|vs.flatMap K5.cs
 len:T bs=T vs
 bT:∀j,(h1:j<T vs)->(h2:j<T bs)->∃lo hi,B<=lo/\hi<=R (Z w)/\(∀q,jL kv=Q q->q<lo\/hi<=q)/\NT w0 lo hi w vs[j] bs[j]
theorem Tt.below {B:Nat}{b:jF}{c:M6}{w w':jB}(h:Tt w0 B b c bs w)(a:Ai w w'):Tt w0 B b c bs w':=
 ⟨Aj h.aN a NLN,h.len,λj d f=>by
  obtain⟨lo,hi,a1,a2,a3,a4⟩:=h.bT j d f;exact⟨lo,hi,a1,zB a2 a.size,a3,a4.aM<|Ct.aH a⟩⟩
theorem Tt.set {B:Nat}{a:jF}{b:M6}{w:jB}(h:Tt w0 B a b bs w)(p:jG)(u:jF)(g:jT p<B)(h0:R (Z w0)<=jT p)(c:CQ w<|jJ w p u):Tt w0 B a b bs<|jJ w p u:=
 ⟨Ah h.aN p u λq hq=>H2<|(h.aN.lt q hq).1,h.len,λj d f=>by
  obtain⟨lo,hi,a1,a2,a3,a4⟩:=h.bT j d f;exact⟨lo,hi,a1,by simpa using a2,a3,a4.aM ⟨Ox,λq h3 i=>K0 w p q u Oa,c⟩⟩⟩
theorem Tt.bN {B:Nat}{d:jF}{a:M6}{w c:jB}{g cap lo:Nat}{k:K5}(h:Tt w0 B d a bs w)(C:R (Z w0)<=B)(x:B<=lo)(y:∀q,jL d=Q q->q<lo)(hs:NT w0 lo (R<|Z w) w k b)
  (D:jO c B 121 5 (Y (Q<|jA g 0 U) (T a+1) cap) (T a+1)<|a.flatMap K5.cs++k.cs)(m:(jK w o).grownBy c<|jL d)(hat:jL d=Q g\/g=R (Z w)+1):
  Tt w0 B (Y (Q<|jA g 0 U) (T a+1) cap) (a++[k]) (bs++[b]) c:=by
 have z:R (Z<|jK w o)=R (Z w)+1:=Ox;have n:R (Z w)<=R (Z c):=H2 m.size;have t:∀q,q<R (Z w)->jL d≠Q q->(Z c)[q]? =(Z w)[q]? :=λq p u=>(m.block q (by rw[z];omega) λe=>u e.symm).trans<|Below.heap_alloc w o q p;have v:CQ w c:=λb E r=>(r.alloc o).grown m λe=>Ac r h.aN Ob e.symm;refine⟨?_,by simp[h.len],λj p u=>?_⟩
 .grind
 .by_cases f:j<T a
  .obtain⟨l,i,a1,a2,a3,a4⟩:=h.bT j f Hd;rw[zx f,zx Hd];refine⟨l,i,a1,Oa,λq hq=>?_,a4.aM ⟨n,λq h3 s=>t q s (λe=>by have:=(h.aN.lt q e).1;obtain h5|h5:=a3 q e<;>omega),v⟩⟩;have e:g=q:=O8
   grind
  .have A:j=T a:=by simp at p;omega
   subst A;have e1:(a++[k])[T a]=k:=Ox;have e2:(bs++[b])[T a]=b:=by simp[<-h.len]
   rw[e1,e2];refine⟨lo,R<|Z w,x,n,λq hq=>?_,hs.aM ⟨n,λq h3 s=>t q s λe=>by have:=(h.aN.lt q e).1;have:=y q e;omega,v⟩⟩;have e:g=q:=O8
   grind
theorem Tt.all {B lo:Nat}{m:Nat}{w:jB}(h:Tt w0 B (Y ka m kc) f bs w)(g:T f=m)(t:lo<=B)(op num:Int)(text:K9)(an:L3)(nn cn:Nat)(ss:L4)(k:SQ w an nn cn ss)(e:Ex)(hF:Rv op num text ss bs e):NT w0 lo (R<|Z w) w ⟨op,num,text,an,nn,cn,ka,m,kc⟩ e:=by
 have d:=En (by have:=h.aN;rw[g]at this;exact this) g;have n:T bs=m:=by rw[h.len,g]
 have p:∀b o,ka=Q (jA b o U)->(b<R (Z w0)\/(lo<=b/\b<R (Z w))):=λb o e=>by
  have e2:o=0:=by
   obtain⟨hv,_⟩|⟨u,cap,v,hv,_⟩:=h.aN.2
   all_goals grind
  subst e2;subst e;have:=h.aN.lt b rfl;omega
 have a:∀j,(q:j<T f)->(r:j<T bs)->NT w0 lo (R<|Z w) w f[j] bs[j]:=λj q r=>by
  obtain⟨l,i,a1,a2,a3,a4⟩:=h.bT j q r;exact a4.mono λb x=>Oa
 cases hF with
 |leaf e y hx=>grind [Io,Ahz]
 |un i e0 c=>
   have:m=1:=by rw[<-n];rfl
   subst this
   match f,g,a,d with
   |[k0],_,a,d=>exact⟨rfl,c.1,c.2.1,by have:=k.1.len;rw[c.2.2]at this;exact this,rfl,p,k0,d,a 0 Ox Ox⟩
 |bin i e0 e1 c=>
   have:m=2:=by rw[<-n];rfl
   subst this
   match f,g,a,d with
   |[k0,k1],_,a,d=>exact⟨rfl,c.1,c.2.1,by have:=k.1.len;rw[c.2.2]at this;exact this,rfl,p,k0,k1,d,a 0 Ox Ox,a 1 Ox Ox⟩
 |ite i e0 e1 e2 s c=>
   have:m=3:=by rw[<-n];rfl
   subst this
   match f,g,a,d with
   |[k0,k1,k2],_,a,d=>exact⟨s,c.1,c.2.1,by have:=k.1.len;rw[c.2.2]at this;exact this,rfl,p,k0,k1,k2,d,a 0 Ox Ox,a 1 Ox Ox,a 2 Ox Ox⟩
def Yx (w0:jB) (b:Ex) (w:jB) (r:Ending) (w':jB):Prop:=∃k:K5,r=jN (jM #[V X k.op,V X k.num,jC k.text,Y k.an k.nn k.cn,Y k.ka k.kn k.kc])/\NT w0 (R<|Z w) (R<|Z w') w' k b/\Ai w w'
theorem JH (w0:jB)(a:L3)(n c:Nat)(N:L6)(ay:IN w0 a n c N)(a5:NmQ w0 a N)(w:jB)(F:Ai w0 w)(i:Nat)(x:Nd)(hx:N[i]? =Q x)(bs:L8)(a6:T bs=T x.aD)(e:Ex)(a7:Rv x.op x.num x.text x.aB bs e)
  (V:∀j,(h:j<T x.aD)->(bO:j<T bs)->∀ai,Ai w ai->Calls jZ 64 #[Y a n c,jc X x.aD[j]] ai (Yx w0 bs[j] ai)):
  Calls jZ 64 #[Y a n c,jc X i] w (Yx w0 e w):=by
 obtain⟨a8,a9,ba,bb,bc⟩:=info_parts Nw;have bP:=ay.len;have hi:i<T N:=(zP.1 hx).1;have az:N[i]=x:=(zP.1 hx).2;have bQ:(i:Int)<(n:Int):=Oa;obtain⟨b,aC,rfl,H,an,nn,cn,I,l,J,c0,c1,c2,c3,c4,aE,K⟩:=ay.cells i hi;rw[az]at c0 c1 c2 K aE;have aj:=Ab<|show SQ w0 an nn cn x.aB from⟨aE,by have:=a5 i hi b aC rfl an nn cn c3;rw[az]at this;exact this⟩;have bd:=Ab a7;replace c0:=(F.cell<|by exact H).trans c0;replace c1:=(F.cell<|by exact H).trans c1;replace c2:=(F.cell<|by exact H).trans c2;replace c3:=(F.cell<|by exact H).trans c3;replace c4:=(F.cell<|by exact H).trans c4;replace K:=K.below F NLN;replace H:=zL H F.size;have aG:=Ab K.len;have bR:=K.aJ;have aH:=Ab a6;have bf:=Ab V;have aI:=Ab F;have bg:R (Z w0)<=R (Z w):=F.size;have aK:=AE w Gg;have aL:=aK.alloc aK.size<|EQ x.op x.num x.text an nn cn I l J;have ak:=aL.alloc aL.size<|Bu x.op x.num x.text an nn cn U 0 0;have al:=((Ag.new w #[jc X 0,jc X 0,jC ⟨#[]⟩,Y U 0 0,Y U 0 0] 121).alloc<|EQ x.op x.num x.text an nn cn I l J).alloc<|Bu x.op x.num x.text an nn cn U 0 0;have S:=(Ag.new (jK w Gg) #[jc X x.op,jc X x.num,jC x.text,Y an nn cn,Y I l J] 170).alloc<|Bu x.op x.num x.text an nn cn U 0 0;have L:=Ag.new (jK (jK w Gg)<|EQ x.op x.num x.text an nn cn I l J) #[jc X x.op,jc X x.num,jC x.text,Y an nn cn,Y U 0 0] 121;have ao:R (Z<|jK (jK (jK w Gg)<|EQ x.op x.num x.text an nn cn I l J)<|Bu x.op x.num x.text an nn cn U 0 0)=R (Z w)+3:=Ox;simp only[World.size_alloc]at S L;go_enter func64,ntmps64
 go_wp2_with fail
 generalize (jK (jK (jK w Gg) (EQ x.op x.num x.text an nn cn I l J)) (Bu x.op x.num x.text an nn cn U 0 0))=bh at ak al S L ao|-;have ap:Tt w0 (R (Z w)+3) (Y U 0 0) [] [] bh:=⟨World.ownsRow_nil _ _ _ _,rfl,λj h=>absurd h Ox⟩
 generalize bi:R (Z w)=d at ak al S L ao ap bg|-;have W:=Ab bi;generalize bS:d+1=M at S L|-;generalize bT:M+1=g at L|-;generalize bU:d+3=B at ao ap|-;have bj:d<M/\M<g/\g<B:=Oa
 have bk:=Ab K;go_loopw [25] (λi wr=>∃ (j:Nat) (aq:jF) (f:M6),j<=l/\i=jc X j/\Hid (T f=j)/\Ag wr g #[jc X x.op,jc X x.num,jC x.text,Y an nn cn,aq] 121/\Ag wr M #[jc X x.op,jc X x.num,jC x.text,Y an nn cn,Y I l J] 170/\Ag wr d #[jc X 0,jc X 0,jC ⟨#[]⟩,Y U 0 0,Y U 0 0] 121/\Tt w0 B aq f (bs.take j) wr/\Below d w wr/\B<=R (Z wr)) (λi _=>l-(intOf i).toNat)
 case atStart=>exact⟨0,_,[],zE _,rfl,Ab rfl,L,S,al,ap,ak,Oa⟩
 case round=>
  obtain⟨j,aq,f,bV,rfl,aM,RT,aO,aP,aa,ar,bW⟩:=hrel;obtain⟨m,o,rfl,_⟩:=Ae aa.aN;obtain⟨bX,bY,bZ,b0,bl,b1⟩:=Ap RT;obtain⟨b2,n1,n2,b3,b4,b5⟩:=Ap aO;by_cases aQ:j<l
  .have b6:(j:Int)<(l:Int):=Oa;have au:j<T x.aD:=by rw[Aa aG];exact aQ
   have aR:j<T bs:=by rw[Aa aH];exact au
   have aS:Ai w wr:=by show Below _ _ _;rw[Aa W];exact ar
   obtain⟨b7,ok,rfl,b8,bm⟩:=((Aa bk).below aS NLN).cells j au;have av:=Ab<|GH (Aa bf j au aR (jR wr) aS.drew) λe w' ⟨k,h,_⟩=>⟨_,h⟩;have aT:=Ab<|show bs.take (j+1)=bs.take j++[bs[j]]from zT aR;have aU:=Ab aQ;generalize x.aD[j]=bn at bm av;generalize bs[j]=bo at av aT;have b9:T f<=1048576:=H2<|Aa aM;have bp:=RT.aA BRN.drew NLN;have br:=aa.below BRN.drew;have sd:jI (jR wr) (jA g 4 U)=Q (Y m (T f) o):=bl;have bt:(Tryz.f64.name== "runtime.NumGoroutine")=jE:=Oy;have bu: Tryz.f64.body.isNone=jE:=Oy;have ab:∀q,jL (Value.slice m (T f) o)=Q q->B<=q/\q<R (Z wr):=λq hq=>aa.aN.lt q hq;go_wp2_with fail
   go_region_law (first
    |(refine Bk rfl 64 _ func64 bt bu _ _ _ rfl (Y (Q<|jA b aC U) n c) (jc X bn) rfl rfl _ (Aa av) ?_;rintro ca aV ⟨bv,aW,aX,O⟩;obtain rfl:=Bi aW;obtain⟨r,s,t,y,z,A,C,D,E⟩:=bv;dsimp only at aW aX|-;have aY:=bp.aA O NLN;obtain⟨e0,e1,e2,e3,e4,cb⟩:=Ap aY;have aZ:=br.below O;have bw:=World.ownsRow.alloc aZ.aN<|Bu r s t y z A C D E;have aw:=aY.alloc<|Bu r s t y z A C D E;obtain⟨cc,cd,i2,ce,cf,cg⟩:=Ap aw;have bx:=World.news_of_block<|heap_alloc_new aV<|Bu r s t y z A C D E;have ch:=O.size)
    |(refine step_append_lies _ rfl _ _ 117 rfl B 121 a8 (jM #[jc X 0,jc X 0,jC jW,Y U 0 0,Y U 0 0]) 5 80 underlying117 a9 ba bb bc rfl Ob (Y m (T f) o) (T f) (f.flatMap K5.cs) rfl bw ⟨R (Z aV),0,U⟩ 1 1 (K5.cs ⟨r,s,t,y,z,A,C,D,E⟩) rfl rfl bx (by intro u hu;simp[K5.cs]at hu;obtain rfl|rfl|rfl|rfl|rfl:=hu<;>rfl) Ob O2 Oa (by have:R (Z (jR wr))=R (Z wr):=rfl;simp;omega) _ rfl ?_;intro g7 G ac bz P hat ci;have ad:Ag ac g _ _:=⟨(P.block g aw.lt λe=>H2<|(ab _ e.symm).1).trans aw.out⟩;have cj:jI ac (jA g 4 U)=Q (Y m (T f) o):=ad.cell 4;have ck:=ad.frozen 4))
   all_goals
    have cl:R (Z<|jR wr)=R (Z wr):=rfl;have bA:=aZ.bN (lo:=R<|Z<|jR wr) (k:=⟨r,s,t,y,z,A,C,D,E⟩) (b:=bo) Oa Oa (λq hq=>H2<|(ab q hq).2) aX bz P<|hat.imp id λe=>Hk;have bB:=bA.set (jA g 4 U) (Y (Q<|jA g7 0 U) (T f+1) G) bj.2.2 (Oa:R (Z w0)<=g)<|CQ.set ad Ob _ _;have a0:=ad.set 4<|Y (Q<|jA g7 0 U) (T f+1) G;simp only[zZ,zb,ze]at a0;have a1:∀q,q<B->Q q≠jL (Value.slice m (T f) o):=λq hq e=>H2<|(ab q e.symm).1;have bC:=(((((aO.aA BRN.drew NLN).aA O NLN).alloc<|Bu r s t y z A C D E).grown P<|a1 M Oa).aF (p:=(jA g 4 U)) (Oa:M≠g)<|Y (Q<|jA g7 0 U) (T f+1) G)
    have bD:=(((((aP.aA BRN.drew NLN).aA O NLN).alloc<|Bu r s t y z A C D E).grown P<|a1 d Oa).aF (p:=(jA g 4 U)) (Oa:d≠g)<|Y (Q<|jA g7 0 U) (T f+1) G)
    have bE:=((((ar.drew).trans<|O.mono Oa).alloc Oa<|Bu r s t y z A C D E).grown P O0 λq hq=>H2<|(ab q hq).1).setCell (p:=(jA g 4 U)) (Oa:d<=g)<|Y (Q<|jA g7 0 U) (T f+1) G;have bF:B<=R (Z<|jJ ac (jA g 4 U)<|Y (Q<|jA g7 0 U) (T f+1) G):=by have:=P.size;simp at this|-;omega
    have bG:=Ab (show T (f++[(⟨r,s,t,y,z,A,C,D,E⟩:K5)])=j+1 by rw[zC,Aa aM];rfl);have bH:=Ab (show Tt w0 B (Y (Q<|jA g7 0 U) (T f+1) G) (f++[(⟨r,s,t,y,z,A,C,D,E⟩:K5)]) (bs.take<|j+1) (jJ ac (jA g 4 U)<|Y (Q<|jA g7 0 U) (T f+1) G) by rw[Aa aT];exact bB);go_wp2
    go_roundw
    case rel=>exact⟨j+1,_,_,Aa aU,O1,bG,a0,bC,bD,Aa bH,bE,bF⟩
    case measure=>have:=Aa aU;simp[intOf];omega
  .have e:j=l:=Oa;subst e;have ax:=aP;obtain⟨cm,co,cp,cq,cr,ct⟩:=Ap ax;have ae:=ax.set 0<|jc X x.op;simp only[zZ,zb]at ae;obtain⟨cu,cv,cw,cx,cy,cz⟩:=Ap ae;have af:=ae.set 1<|jc X x.num;simp only[zZ,zb,ze]at af;obtain⟨cA,cB,cC,cD,cE,cF⟩:=Ap af;have ag:=af.set 2<|jC x.text;simp only[zZ,zb,ze]at ag;obtain⟨cG,cH,cI,cJ,cK,cL⟩:=Ap ag;have ah:=ag.set 3<|Y an nn cn;simp only[zZ,zb,ze]at ah;obtain⟨cM,cN,cO,cP,cQ,cS⟩:=Ap ah;have a2:=ah.set 4<|Y m (T f) o;simp only[zZ,zb,ze]at a2;obtain⟨bI,s1,s2,bJ,bK,_⟩:=Ap a2;have a3:=((((aa.set (jA d 0 U) (jc X x.op) D2 Hq<|CQ.set ax Ob _ _).set (jA d 1 U) (jc X x.num) D2 Hq<|CQ.set ae Ob _ _).set (jA d 2 U) (jC x.text) D2 Hq<|CQ.set af Ob _ _).set (jA d 3 U) (Y an nn cn) D2 Hq<|CQ.set ag Ob _ _).set (jA d 4 U) (Y m (T f) o) D2 Hq<|CQ.set ah Ob _ _;have a4:=((((ar.setCell (p:=(jA d 0 U)) (zy d)<|jc X x.op).setCell (p:=(jA d 1 U)) (zy d)<|jc X x.num).setCell (p:=(jA d 2 U)) (zy d)<|jC x.text).setCell (p:=(jA d 3 U)) (zy d)<|Y an nn cn).setCell (p:=(jA d 4 U)) (zy d)<|Y m (T f) o;have bL:bs.take j=bs:=zf (by rw[Aa aH,Aa aG];exact NLN);rw[bL]at a3;have bM:=Ab<|a3.all rfl (by omega:d<=B) x.op x.num x.text an nn cn x.aB (by have q:=(Aa aI).trans<|(show Ai w _ by show Below _ _ _;rw[Aa W];exact a4).mono (Aa aI).size;exact⟨(Aa aj).1.below q NLN,(Aa aj).2.1,(Aa aj).2.2.below q NLN⟩) e (Aa bd);go_wp2_with fail
   refine bodyPost_ret (v:= jM #[jc X x.op,jc X x.num,jC x.text,Y an nn cn,Y m (T f) o]) (by simp[results,results64,go_sem,bI,s1,s2,bJ,bK]) rfl ⟨⟨x.op,x.num,x.text,an,nn,cn,m,T f,o⟩,rfl,?_,?_⟩
   .rw[Aa W];exact Aa bM
   .show Below _ _ _;rw[Aa W];exact a4
set_option maxHeartbeats 800000
theorem Acg (a:L3)(n c:Nat)(ss:L4)(j:L3)(n' c':Nat)(tt:L4)(w:jB)(h:Aq w a n c ss)(i:Aq w j n' c' tt):
  Calls jZ 157 #[Y a n c,Y j n' c'] w λe w'=>MM w ss tt e w':=by
 cases b:Ay ss
 .have d:=Ab (show Cl ss tt=[] by simp[Cl,b]);go_enter func157,ntmps157
  go_wp2_with fail
  refine(AC _ _ _ _ _ h).mono ?_;rintro e f ⟨rfl,rfl⟩;rw[b];go_wp2
  go_ret
  exact Ik (Aa d) BRN
 .cases g:Ay tt
  .have d:=Ab (show Cl ss tt=[] by simp[Cl,g]);go_enter func157,ntmps157
   go_wp2_with fail
   refine(AC _ _ _ _ _ h).mono ?_;rintro e f ⟨rfl,rfl⟩;rw[b];go_wp2_with fail
   refine(AC _ _ _ _ _ i).mono ?_;rintro e f ⟨rfl,rfl⟩;rw[g];go_wp2
   go_ret
   exact Ik (Aa d) BRN
  .have m:=(Dj b).1;have d:=Ab (show Cl ss tt=DU ss tt jD by simp[Cl,b,g]);go_enter func157,ntmps157
   go_wp2_with fail
   refine(AC _ _ _ _ _ h).mono ?_;rintro e f ⟨rfl,rfl⟩;rw[b];go_wp2_with fail
   refine(AC _ _ _ _ _ i).mono ?_;rintro e f ⟨rfl,rfl⟩;rw[g];go_wp2_with fail
   refine(LS _ _ _ _ _ _ _ _ _ _ h i Q2).mono ?_;rintro e f ⟨x,cx,rfl,k,l⟩;go_wp2
   go_ret
   unfold MM;rw[Aa d];exact⟨x,cx,rfl,k,l⟩
theorem Zr (a:L3)(n c:Nat)(ss:L4)(j:L3)(n' c':Nat)(tt:L4)(w:jB)(h:Aq w a n c ss)(i:Aq w j n' c' tt):
  Calls jZ 158 #[Y a n c,Y j n' c'] w λe w'=>Km w ss tt e w':=by
 cases b:Ay ss
 .have d:=Ab (show Bj ss tt=[] by simp[Bj,b]);go_enter func158,ntmps158
  go_wp2_with fail
  refine(AC _ _ _ _ _ h).mono ?_;rintro e f ⟨rfl,rfl⟩;rw[b];go_wp2
  go_ret
  exact Gl (Aa d) BRN
 .cases g:Ay tt
  .have d:=Ab (show Bj ss tt=[] by simp[Bj,g]);go_enter func158,ntmps158
   go_wp2_with fail
   refine(AC _ _ _ _ _ h).mono ?_;rintro e f ⟨rfl,rfl⟩;rw[b];go_wp2_with fail
   refine(AC _ _ _ _ _ i).mono ?_;rintro e f ⟨rfl,rfl⟩;rw[g];go_wp2
   go_ret
   exact Gl (Aa d) BRN
  .have m:=(Dj b).1;have d:=Ab (show Bj ss tt=DU ss tt jE by simp[Bj,b,g]);go_enter func158,ntmps158
   go_wp2_with fail
   refine(AC _ _ _ _ _ h).mono ?_;rintro e f ⟨rfl,rfl⟩;rw[b];go_wp2_with fail
   refine(AC _ _ _ _ _ i).mono ?_;rintro e f ⟨rfl,rfl⟩;rw[g];go_wp2_with fail
   refine(LS _ _ _ _ _ _ _ _ _ _ h i Q2).mono ?_;rintro e f ⟨x,cx,rfl,k,l⟩;go_wp2
   go_ret
   unfold Km;rw[Aa d];exact⟨x,cx,rfl,k,l⟩
theorem CD {s:K9}(h:s.size=0):s=⟨#[]⟩:=by
 cases s with
 |mk d=>
   have:d.size=0:=h
   grind
theorem Ua (w0:jB)(a:L3)(n c:Nat)(N:L6)(s:IN w0 a n c N)(y:NmQ w0 a N)(hF:∀x∈N,Bf x=jD){i:Nat}{e:Ex}(t:AZ N i e):∀w,Ai w0 w->Calls jZ 64 #[Y a n c,V X i] w (Yx w0 e w):=by
 have leaf:∀{i:Nat} {x:Nd} {e:Ex},N[i]? =Q x->x.aD=[]->Rv x.op x.num x.text x.aB [] e->∀w,Ai w0 w->Calls jZ 64 #[Y a n c,V X i] w (Yx w0 e w):=λ{i x e} h b hf w o=>JH w0 a n c N s y w o i x h [] (by rw[b];rfl) e hf (λj q=>H9 q<|by rw[b];simp);have fld:∀{i:Nat} {x:Nd},N[i]? =Q x->Jq x=jD:=λh=>by
  have:=hF _<|zn h
  grind [Bf]
 have z:∀{i:Nat} {x:Nd},N[i]? =Q x->8<=x.op->x.num=0/\x.text=⟨#[]⟩/\x.aB=[]:=λ{i x} h d=>by grind [VG,CD,Jq]
 have r:∀{x:Nd} {op num:Int} {text:K9} {ss:L4},op=x.op->num=x.num->text=x.text->ss=x.aB->(⟨op,num,text,ss,[]⟩:Nd)=⟨x.op,x.num,x.text,x.aB,[]⟩:=λq p h3 D=>by rw[q,p,h3,D]
 induction t with
 |@int i x h d b=>
   have hq:=fld h;rw[Jq,H7 Oa,H7 Oa,H8<|.inr d]at hq;simp only[zF,zG]at hq;exact leaf h b<|.leaf _ rfl (r d.symm rfl (CD hq.1).symm (zd hq.2).symm)
 |@text i x h d b=>
   have hq:=fld h;rw[Jq,H7 Oa,H7 Oa,H7 Oa,VG,H7 Oa,H8 d]at hq;simp only[zF,zG]at hq;exact leaf h b<|.leaf _ rfl (r d.symm hq.1.2.symm rfl (zd hq.2).symm)
 |@bool i x h d b=>
   have hq:=fld h;rw[Jq,H7 Oa,H7 Oa,H7 Oa,VG,H7 Oa,H7 Oa,H8 d]at hq;simp only[zF,zG]at hq;have E:(if decide (x.num=1)=jD then (1 :Int)else 0)=x.num:=S4;exact leaf h b<|.leaf _ rfl (r d.symm E (CD hq.1.2).symm (zd hq.2).symm)
 |@set i x h d b a n c=>
   have hq:=fld h;rw[Jq,H7 Oa,H7 Oa,H7 Oa,VG,H7 Oa,H7 Oa,H7 Oa,H8 d]at hq;simp only[zF,zG]at hq;exact leaf h b<|.leaf _ rfl (r d.symm hq.1.2.symm (CD hq.2).symm rfl)
 |name h d b=>grind [Jq]
 |@attr i x h d b=>
   have hq:=fld h;rw[Jq,H7 Oa,H8 d]at hq;simp only[zF,zG]at hq;exact leaf h b<|.leaf _ rfl (r d.symm rfl (CD hq.1.2).symm (zd hq.2).symm)
 |@lett i x h d b=>
   have hq:=fld h;rw[Jq,H7 Oa,H7 Oa,H8<|.inl d]at hq;simp only[zF,zG]at hq;exact leaf h b<|.leaf _ rfl (r d.symm rfl (CD hq.1).symm (zd hq.2).symm)
 |@un i k x e h d b hi t H=>
   intro w o;refine JH w0 a n c N s y w o i x h [e] (by rw[b];rfl) _ (.un _ _<|z h Oa) λj q p B C=>?_;obtain rfl:j=0:=by simpa using p
   have e1:x.aD[0]=(k:Int):=Hf
   grind [Go.RowKit.Below.trans,Go.RowKit.Below.size,Go.RowKit.Below.mono]
 |@bin i k l x e f h d b hi t u F G=>
   intro w o;refine JH w0 a n c N s y w o i x h [e,f] (by rw[b];rfl) _ (.bin _ _ _<|z h Oa) λj q p B C=>?_;have A:j=0\/j=1:=by simp at p;omega
   obtain rfl|rfl:=A
   .have e1:x.aD[0]=(k:Int):=Hf
    grind [Go.RowKit.Below.trans,Go.RowKit.Below.size,Go.RowKit.Below.mono]
   .have e1:x.aD[1]=(l:Int):=Hf
    grind [Go.RowKit.Below.trans,Go.RowKit.Below.size,Go.RowKit.Below.mono]
 |@ite i k l m x e f g h d b hi t u v F G I=>
   intro w o;refine JH w0 a n c N s y w o i x h [e,f,g] (by rw[b];rfl) _ (.ite _ _ _ _ d<|z h Oa) λj q p B C=>?_;have A:j=0\/j=1\/j=2:=by simp at p;omega
   obtain rfl|rfl|rfl:=A
   .have e1:x.aD[0]=(k:Int):=Hf
    grind [Go.RowKit.Below.trans,Go.RowKit.Below.size,Go.RowKit.Below.mono]
   .have e1:x.aD[1]=(l:Int):=Hf
    grind [Go.RowKit.Below.trans,Go.RowKit.Below.size,Go.RowKit.Below.mono]
   .have e1:x.aD[2]=(m:Int):=Hf
    grind [Go.RowKit.Below.trans,Go.RowKit.Below.size,Go.RowKit.Below.mono]
set_option linter.unusedSimpArgs false
def CE (N:L6) (L:L9):Bool:=decide (T N<=4000)&&(decide (1<=T L/\T L<=600)&&EG L)&&N.all Bf&&GN N L
abbrev MH:=L4×L2×L2
open Classical in
noncomputable def WT (kd:Int) (nm:K9) (st:MH) (ot:N7) (ys:L2):L0 MH:=
 if kd=1 then (match ot with|some t=>if nm∈st.1 then U else Q (st.1++[nm],st.2.1++[t],st.2.2++ys)|none=>U)
 else (match ot with|some t=>if t=1 then Q (st.1,st.2.1,st.2.2++ys)else U|none=>U)
def ckG (st:MH) (ot:N7) (ys:L2):L0 MH:=match ot with|some t=>if t=4 then Q (st.1,st.2.1,st.2.2++ys)else U|none=>U
noncomputable def Cw (Es:L8) (st:MH) (s:St):L0 MH:=if s.cond= -1 then Q st else match Es[s.cond.toNat]? with
 |some e=>WT s.aC s.name st (AX st.2.1 e)<|Eh st.2.1 e
 |none=>U
def Ca (Es:L8) (st:MH) (s:St):L0 MH:=if s.aG= -1 then Q st else match Es[s.aG.toNat]? with
 |some e=>ckG st (AX st.2.1 e)<|Eh st.2.1 e
 |none=>U
noncomputable def LP (Es:L8) (st:MH) (s:St):L0 MH:=(Cw Es st s).bind λst1=>Ca Es st1 s
noncomputable def CP (Es:L8):MH->L9->L0 MH
 |st,[]=>Q st
 |st,s ::L=>(LP Es st s).bind λst1=>CP Es st1 L
theorem Zo {Es:L8}{st a:MH}{s:St}(h:Cw Es st s=Q a):T a.2.2=T st.2.2+Bv Es s.cond/\T a.2.1<=T st.2.1+1/\((∀t∈st.2.1,1<=t/\t<=4)->∀t∈a.2.1,1<=t/\t<=4):=by
 rw[Cw]at h;rw[Bv];by_cases e1:s.cond= -1
 .rw[H8 e1]at h|-;cases h;exact⟨rfl,zU _,id⟩
 .rw[H7 e1]at h|-;cases he:Es[s.cond.toNat]? with
  |none=>rw[he]at h;cases h
  |some e=>
    rw[he]at h;simp only[WT]at h;have c:=QQ st.2.1 e;by_cases d:s.aC=1
    .rw[H8 d]at h;cases ht:AX st.2.1 e with
     |none=>rw[ht]at h;cases h
     |some t=>
       rw[ht]at h;dsimp only at h;split at h
       .cases h
       .cases h;refine⟨by simp[c],Ox,λb x hx=>?_⟩;obtain hx|hx:=zO.1 hx
        .exact b x hx
        .simp at hx;subst hx;exact Aeo b e x ht
    grind [AX]
theorem WU {Es:L8}{st a:MH}{s:St}(h:Ca Es st s=Q a):T a.2.2=T st.2.2+Bv Es s.aG/\a.2.1=st.2.1:=by
 rw[Ca]at h;rw[Bv];by_cases e1:s.aG= -1
 .rw[H8 e1]at h|-;cases h;exact⟨rfl,rfl⟩
 .rw[H7 e1]at h|-;cases he:Es[s.aG.toNat]? with
  |none=>rw[he]at h;cases h
  |some e=>
    rw[he]at h;simp only[ckG]at h
    grind [AX,QQ]
theorem TN {Es:L8} :∀{L:L9} {st a:MH},CP Es st L=Q a->T a.2.2=T st.2.2+DJ Es L/\T a.2.1<=T st.2.1+T L/\((∀t∈st.2.1,1<=t/\t<=4)->∀t∈a.2.1,1<=t/\t<=4)
 |[],st,a,h=>by cases h;exact⟨by simp[DJ],Ox,id⟩
 |s ::L,st,a,h=>by
  rw[CP,LP]at h;cases b:Cw Es st s with
  |none=>rw[b]at h;cases h
  |some s1=>
    rw[b]at h
    change ((Ca Es s1 s).bind λa=>CP Es a L)=Q a at h
    cases c:Ca Es s1 s with
    |none=>rw[c]at h;cases h
    |some s2=>
      rw[c]at h;obtain⟨a1,a2,a3⟩:=Zo b;obtain⟨b1,b2⟩:=WU c;obtain⟨c1,c2,c3⟩:=TN<|show CP Es s2 L=Q a from h;have e:DJ Es (s ::L)=Bv Es s.cond+Bv Es s.aG+DJ Es L:=by simp[DJ]
      refine⟨by rw[e];omega,by rw[b2]at c2;simp;omega,λd=>c3<|by rw[b2];exact a3 d⟩
set_option maxHeartbeats 6400000
def GP (zs:L2) (p:Nat) (K:L4):L4×Nat:=
 (if (nx zs p).1 % 5=0 then K++[⟨#[]⟩]else if (nx zs p).1 % 5=1 then K++[⟨#[97]⟩]else if (nx zs p).1 % 5=2 then K++[⟨#[122,122,32,116,111,112]⟩]else if (nx zs p).1 % 5=3 then K++OJ 64 100 else if 0<T K then K++[AG K<|T K-1]else K,(nx zs p).2)
def LN (zs:L2) (p:Nat) (K:L4) (K':L4) (q:Nat):Prop:=GP zs p K=(K',q)
theorem TJ (R:Nat)(a:L3)(n c:Nat)(zs:L2)(p:Nat)(base:Nat)(x:L3)(K:L4)(cx:Nat)(w:jB)(h:JU w R a n c zs p)(L:A6 w base x K cx)(aF:T K<=64):
  Calls jZ 49 #[.pointer<|Q<|jA R 0 U,Y x (T K) cx] w λe w'=>Akh R a n c zs (LN zs p K) w 128 e w':=by
 obtain⟨i,hi,D,E,F⟩:=info_parts GB;have z:=h.lt;have o:=Ab L.aJ;go_enter func49,ntmps49
 go_wp2_with (at_builtin;refine On rfl _ _ rfl (jh<|Z w) _ _ _ rfl H3 x (T K) cx K rfl L.cZ (VJ L.aN) ?c1 NLN ?_)
 case c1=>omega
 intro aG M N ai;have W:Ai w M:=BRN.grown ai NLN (λk f=>by cases f);obtain⟨aa,ab,aj⟩:=AA N;rw[aj]at N|-;have ak:A6 M (jh<|Z w) aa K ab:=⟨N,Aa o⟩
 go_wp2_with fail
 refine(BN R a n c zs p M<|h.aA W z).mono ?_;rintro e w2 ⟨y,A,rfl,B,aI,aK,q,ac⟩;have l:AU R (R+1) w w2:=(AU.aH W NLN).trans ac;have G:=ak.aR ac Oa;have H:=l.size;have m:=G.aN;by_cases e3:y % 5=3
 .have I:(y % 5==0)=jE:=zA.2 Oa;have q1:(y % 5==1)=jE:=zA.2 Oa;have q2:(y % 5==2)=jE:=zA.2 Oa;have al:(y % 5==3)=jD:=zD.2 e3;have ao:=Ab e3;go_wp2_with fail
  refine(TI _ _ _ Oa Oa Oa Oa).mono ?_;rintro e j ⟨ap,c3,J,rfl,aq,aL,O,b3⟩;have aM:T J<=64:=Oa;have ad:=l.aV b3 l.size;have h3:=q.aA b3 q.lt;have ae:=(G.below b3 NLN).aN;have ar:=O.cZ;have au:=VJ O.aN;have av:=Ab O.aJ;have af:=ad.size;go_wp2_with (at_builtin;refine On rfl _ _ rfl (jh<|Z w) _ _ _ rfl ae ap (T J) c3 J rfl ar au ?d1 af ?_)
  case d1=>omega
  intro aO aw P ax;have ag:Below (jh<|Z w) j aw:=(Below.refl (jh<|Z w) j).grown ax af λk f=>(ae.lt k f).1;obtain⟨ay,az,aB⟩:=AA P;rw[aB]at P|-;go_wp2
  go_ret
  exact⟨ay,az,K++J,A,by rw[zC];rfl,Ab<|by have e3:=Aa ao;rw[LN,GP,Aa B,Aa aq];simp only[e3];rfl,by rw[zC];omega,A6.app P (Aa o)<|Aa av,h3.aA ag z,ad.aV ag NLN⟩
 have al:(y % 5==3)=jE:=zA.2 e3;by_cases e4:y % 5=4
 .have I:(y % 5==0)=jE:=zA.2 Oa;have q1:(y % 5==1)=jE:=zA.2 Oa;have q2:(y % 5==2)=jE:=zA.2 Oa;have ah:=Ab e4;by_cases S: 0<T K
  .have aC:(0 :Int)<(T K:Int):=Oa;obtain⟨b,aP,aD,aQ,hc⟩:=G.cZ.at S;have aS:=hc (T K-1) Oa;subst aD;have aT:((T K:Int)-1).toNat=T K-1:=Oa;have aE:=Ab (show(AG K<|T K-1).size<=1000 by rw[Dd K _ Oa];exact Aa o _<|zI _);go_wp2_with (at_builtin;refine G7 _ rfl _ _ 30 rfl (jh<|Z w) 9 i (jC jW) 1 16 underlying30 hi D E F rfl Ob _ _ _ rfl (m.alloc _) ⟨jh<|Z w2,0,U⟩ 1 1 [jC<|AG K<|T K-1] rfl rfl ?c1 ?c2 ?c3 ?c4 ?c5 ?_)
   case c1=>exact K4 _ _ _
   case c2=>intro u hu;simp at hu;subst hu;rfl
   case c3=>unfold maxLen;omega
   case c4=>omega
   case c5=>simp;omega
   intro v' j d r _;have g:Below (jh<|Z w) w2 j:=((Below.refl (jh<|Z w) w2).alloc H _).grown r O0 λk f=>(m.lt k f).1;obtain⟨s,t,v⟩:=AA d;rw[v]at d|-;go_wp2
   go_ret
   exact⟨s,t,K++[AG K<|T K-1],A,by rw[zC];rfl,Ab<|by have e4:=Aa ah;rw[LN,GP,Aa B];simp only[e4];rw[H8 S];rfl,by rw[zC];simp;omega,A6.bN d (Aa o)<|Aa aE,q.aA g z,l.aV g NLN⟩
  .have aC: ¬ ((0 :Int)<(T K:Int)):=Oa;go_wp2
   go_ret
   exact⟨aa,ab,K,A,rfl,Ab<|by have e4:=Aa ah;rw[LN,GP,Aa B];simp only[e4];rw[H7 S];rfl,Oa,G,q,l⟩
 .have hq:y % 5=0\/y % 5=1\/y % 5=2:=Oa;obtain hq|hq|hq:=hq
  .have I:(y % 5==0)=jD:=zD.2 hq;have C:=Ab hq;go_wp2_with (at_builtin;refine G7 _ rfl _ _ 30 rfl (jh<|Z w) 9 i (jC jW) 1 16 underlying30 hi D E F rfl Ob _ _ _ rfl (m.alloc _) ⟨jh<|Z w2,0,U⟩ 1 1 [jC (⟨#[]⟩:K9)] rfl rfl ?c1 ?c2 ?c3 ?c4 ?c5 ?_)
   case c1=>exact K4 _ _ _
   case c2=>intro u hu;simp at hu;subst hu;rfl
   case c3=>unfold maxLen;omega
   case c4=>omega
   case c5=>simp;omega
   intro v' j d r _;have g:Below (jh<|Z w) w2 j:=((Below.refl (jh<|Z w) w2).alloc H _).grown r O0 λk f=>(m.lt k f).1;obtain⟨s,t,v⟩:=AA d;rw[v]at d|-;go_wp2
   go_ret
   exact⟨s,t,K++[(⟨#[]⟩:K9)],A,by rw[zC];rfl,Ab<|by have e:=Aa C;rw[LN,GP,Aa B];simp only[e];rfl,by rw[zC];simp;omega,A6.bN d (Aa o) Ob,q.aA g z,l.aV g NLN⟩
  .have I:(y % 5==0)=jE:=zA.2 Oa;have q1:(y % 5==1)=jD:=zD.2 hq;have C:=Ab hq;go_wp2_with (at_builtin;refine G7 _ rfl _ _ 30 rfl (jh<|Z w) 9 i (jC jW) 1 16 underlying30 hi D E F rfl Ob _ _ _ rfl (m.alloc _) ⟨jh<|Z w2,0,U⟩ 1 1 [jC (⟨#[97]⟩:K9)] rfl rfl ?c1 ?c2 ?c3 ?c4 ?c5 ?_)
   case c1=>exact K4 _ _ _
   case c2=>intro u hu;simp at hu;subst hu;rfl
   case c3=>unfold maxLen;omega
   case c4=>omega
   case c5=>simp;omega
   intro v' j d r _;have g:Below (jh<|Z w) w2 j:=((Below.refl (jh<|Z w) w2).alloc H _).grown r O0 λk f=>(m.lt k f).1;obtain⟨s,t,v⟩:=AA d;rw[v]at d|-;go_wp2
   go_ret
   exact⟨s,t,K++[(⟨#[97]⟩:K9)],A,by rw[zC];rfl,Ab<|by have e:=Aa C;rw[LN,GP,Aa B];simp only[e];rfl,by rw[zC];simp;omega,A6.bN d (Aa o) Ob,q.aA g z,l.aV g NLN⟩
  .have I:(y % 5==0)=jE:=zA.2 Oa;have q1:(y % 5==1)=jE:=zA.2 Oa;have q2:(y % 5==2)=jD:=zD.2 hq;have C:=Ab hq;go_wp2_with (at_builtin;refine G7 _ rfl _ _ 30 rfl (jh<|Z w) 9 i (jC jW) 1 16 underlying30 hi D E F rfl Ob _ _ _ rfl (m.alloc _) ⟨jh<|Z w2,0,U⟩ 1 1 [jC (⟨#[122,122,32,116,111,112]⟩:K9)] rfl rfl ?c1 ?c2 ?c3 ?c4 ?c5 ?_)
   case c1=>exact K4 _ _ _
   case c2=>intro u hu;simp at hu;subst hu;rfl
   case c3=>unfold maxLen;omega
   case c4=>omega
   case c5=>simp;omega
   intro v' j d r _;have g:Below (jh<|Z w) w2 j:=((Below.refl (jh<|Z w) w2).alloc H _).grown r O0 λk f=>(m.lt k f).1;obtain⟨s,t,v⟩:=AA d;rw[v]at d|-;go_wp2
   go_ret
   exact⟨s,t,K++[(⟨#[122,122,32,116,111,112]⟩:K9)],A,by rw[zC];rfl,Ab<|by have e:=Aa C;rw[LN,GP,Aa B];simp only[e];rfl,by rw[zC];simp;omega,A6.bN d (Aa o) Ob,q.aA g z,l.aV g NLN⟩
section
open Go.RowKit Go.Lib
theorem VC (Q:Vs->Prop)(t:Vs)(ht:Q t):∀(ns:N6) (K:List M5),(∀j s,K.getD j U=jg s->Q s)->∀j s,(G3 t ns K).2.getD j U=jg s->Q s
 |[],K,h=>h
 |n ::ns,K,h=>by
  rw[G3];split
  .exact h
  split
  .refine VC Q t ht ns _ (λj s a=>?_);by_cases e:n=j
   .grind
   .rw[List.getD,Z6 e]at a;exact h j s a
  split
  .exact VC Q t ht ns K h
  .exact h
theorem Uv {P:M1}{s:Int}{I:M2}(h:DO P s I=jD)(k:Nat)(a:k<T I):(1<=(I.getD k ⟨0,0⟩).op/\(I.getD k ⟨0,0⟩).op<=25)/\0<=(I.getD k ⟨0,0⟩).aY:=by grind [DO,zM,zI,zq,EF]
theorem Sv {P:M1}{s:Int}{I:M2}(h:DO P s I=jD):T P<=4000/\T I<=20000/\0<=s/\s<=600:=by grind [DO]
theorem Uw (PK:L2)(S:Nat)(I:M2)(r at_:Nat)(K:List M5)(b:Nat)(h:K.getD at_ U=U):Gp PK S I (r+1) at_ K b=(0,2):=by rw[Gp,h]
theorem Om (PK:L2)(S:Nat)(I:M2)(r at_:Nat)(K:List M5)(b:Nat)(s:Vs)(h:K.getD at_ U=Q s):Gp PK S I (r+1) at_ K b=
   if (As PK S (T I) at_ (I.getD at_ ⟨0,0⟩) s).1≠0 then (0,(As PK S (T I) at_ (I.getD at_ ⟨0,0⟩) s).1)
   else if (G3 (As PK S (T I) at_ (I.getD at_ ⟨0,0⟩) s).2 (AI at_<|I.getD at_ ⟨0,0⟩) K).1≠0 then (0,(G3 (As PK S (T I) at_ (I.getD at_ ⟨0,0⟩) s).2 (AI at_<|I.getD at_ ⟨0,0⟩) K).1)
   else Gp PK S I r (at_+1) (G3 (As PK S (T I) at_ (I.getD at_ ⟨0,0⟩) s).2 (AI at_<|I.getD at_ ⟨0,0⟩) K).2 (max b<|max (T s.stack)<|T (As PK S (T I) at_ (I.getD at_ ⟨0,0⟩) s).2.stack):=by rw[Gp,h]
def VfA (w:jB) (r:Int×Int) (e:Ending) (w':jB):Prop:=e=jN (jQ #[V X r.1,V X r.2])/\Ai w w'
def VfI (w:jB) (vb kb lo:Nat) (a b:L3) (n c m d S:Nat) (PK:L2) (I:M2) (R:Int×Int) (j:Nat) (wr:jB):Prop:=
 ∃ (K:List M5) (pt:List N8) (bd:Nat),j<=m/\Gp PK S I (m-j) j K bd=R/\Te wr lo kb K pt/\T K=m/\(∀i s,K.getD i U=Q s->T s.stack<=100/\T s.aE=S)/\bd<=100/\Ag wr vb #[Y a n c,V X S,Y b m d,Y (Q<|jA kb 0 U) m m,V X bd] 56/\Ai w wr/\lo<=jh (Z wr)
theorem Ac0 (m S:Nat)(hm: 0<m):∀(i:Nat) (s:Vs),((List.replicate m (U:M5)).set 0<|Q<|Vw S).getD i U=Q s->T s.stack<=100/\T s.aE=S:=by grind [Vw]
theorem Ac1 {w w':jB}{p g lo:Nat}{a b:L3}{n c m d S h j r:Nat}{I:M2}{K:List M5}{R:Int×Int}{f:Int}(k:Gp PK S I (r+1) j K h=R)(B:m-j=r+1)(u:T I=m)(v:T K=m)(q:∀i s,K.getD i U=Q s->T s.stack<=100/\T s.aE=S)(C:h<=100)(x:Ai w w')(y:lo<=jh (Z w'))
  (hc:(K.getD j U=U/\f=2)\/∃s,K.getD j U=Q s/\(((As PK S m j (I.getD j ⟨0,0⟩) s).1≠0/\f=(As PK S m j (I.getD j ⟨0,0⟩) s).1)\/((As PK S m j (I.getD j ⟨0,0⟩) s).1=0/\f=(G3 (As PK S m j (I.getD j ⟨0,0⟩) s).2 (AI j<|I.getD j ⟨0,0⟩) K).1/\∃l,Te w' lo g (G3 (As PK S m j (I.getD j ⟨0,0⟩) s).2 (AI j<|I.getD j ⟨0,0⟩) K).2 l/\Ag w' p #[Y a n c,V X S,Y b m d,Y (Q<|jA g 0 U) m m,V X ((max h (max (T s.stack)<|T (As PK S m j (I.getD j ⟨0,0⟩) s).2.stack):Nat):Int)] 56))):
  (f≠0/\R=(0,f))\/(f=0/\VfI w p g lo a b n c m d S PK I R (j+1) w'):=by
 obtain⟨o,rfl⟩|⟨s,o,z⟩:=hc
 .grind [Uw]
 .rw[Om _ _ _ _ _ _ _ s o,u]at k;obtain⟨h3,rfl⟩|⟨h3,rfl,l,A,h5⟩:=z
  .grind
  .rw[H7<|by simpa using h3]at k;by_cases t:(G3 (As PK S m j (I.getD j ⟨0,0⟩) s).2 (AI j<|I.getD j ⟨0,0⟩) K).1=0
   .rw[H7<|by simpa using t]at k;have hh:=JK h3;have hs:=q j s o;refine .inr ⟨t,_,l,_,Oa,?_,A,by rw[Ah7,v],VC (λs=>T s.stack<=100/\T s.aE=S) _ ⟨hh,by rw[It];exact hs.2⟩ _ K q,Oa,h5,x,y⟩
    grind
   grind
theorem Pf (a b:L3)(n c m d:Nat)(s:Int)(P:M1)(I:M2)(ac:jG)(w:jB)(E:SC w a n c P)(A:PX w b m d I)(hv:Lk w ac):
  Calls jZ 6 #[jM #[Y a n c,V X s,Y b m d]] w λe w'=>VfA w (DG P s I) e w':=by
 have ay:=A.aJ;have o:=A.len;have k:=AE w<|jH #[Y a n c,V X s,Y b m d] 26;have x:=Ab<|QL a b n c m d s P I _ (E.below k NLN)<|A.below k NLN;have RC:=Ag.new w #[Y a n c,V X s,Y b m d] 26;obtain⟨az,q1,q2⟩:=At RC;have aB:=RC.lt;cases f:DO P s I with
 |false=>
  have y:=Ab (show DG P s I=(0,1) by unfold DG;rw[H8 f]);rw[f]at x;clear f o;go_enter func6,ntmps6
  go_wp2_with fail
  refine(Aa x).mono ?_;rintro e l ⟨rfl,g⟩;go_wp2
  exact G2 (v:= jQ #[V X 0,V X 1]) D3 rfl ⟨by rw[Aa y],k.trans<|g.mono k.size⟩
 |true=>
  have F:=Ab<|Sv f;have aD:=Ab f;rw[f]at x;by_cases ad:m=0
  .have ae:I=[]:=zd Oa;have y:=Ab (show DG P s I=(0,8) by unfold DG;rw[H7<|by rw[f];decide,H8 ae]);subst ad;clear f o ae;go_enter func6,ntmps6
   go_wp2_with fail
   refine(Aa x).mono ?_;rintro e l ⟨rfl,g⟩;have af:=(g.cell (p:=⟨R<|Z w,2,U⟩) aB).trans q2;go_wp2
   exact G2 (v:= jQ #[V X 0,V X 8]) D3 rfl ⟨by rw[Aa y],k.trans<|g.mono k.size⟩
  .have ag: 0<m:=Oa;have aE: 0<=s:=(Aa F).2.2.1;obtain⟨S,rfl⟩:=zo aE;have aX:((m:Int)==0)=jE:=zA.2 Oa;have y:=Ab (show DG P S I=Gp (P.map Vl.aC) S I m 0 ((List.replicate m U).set 0<|Q<|Vw S) 0 by
    unfold DG;rw[H7<|by rw[f];decide,H7 (by intro e;rw[e]at o;simp at o;omega),zS,o];rfl)
   have aF:=Ab λaG=>Pu a b n c m d S aG ag ay<|H2<|(Aa F).2.2.2;have ah:=Ab o;clear f o ad;go_enter func6,ntmps6
   go_wp2_with fail
   refine(Aa x).mono ?_;rintro e l ⟨rfl,g⟩;obtain⟨aH,aI,af⟩:=At<|RC.aA g NLN;have B:=k.trans<|g.mono k.size;go_wp2_with fail
   refine(Aa aF l).mono ?_;rintro e w2 ⟨G,rfl,H,ai,J⟩;have aK:=B.trans<|J.mono B.size;obtain⟨_,_,aY⟩:=At<|(RC.aA g NLN).aA J NLN;have aj:R (Z w)<=R (Z l):=B.size;have ak:Hid<|VfI w (R (Z l)+2) (R (Z l)+1) (R (Z l)+3) a b n c m d S (P.map Vl.aC) I (DG P S I) 0 w2:=Ab ⟨_,G,0,zE _,by rw[Nat.sub_zero];exact(Aa y).symm,ai,Ox,Ac0 m S ag,Oa,H,aK,H2 H.lt⟩;have L:=Ab aj;have aL:=Ab (λj=>λ(h:j<m)=>Uv (Aa aD) j<|by rw[Aa ah];exact h);clear ai H J B g aH aI af aj az q1 q2;generalize R (Z l)=q at ak L|-;go_wp2_with fail
   go_loopw [19] (λi wr=>∃j:Nat,i=V X j/\Hid (VfI w (q+2) (q+1) (q+3) a b n c m d S (P.map Vl.aC) I (DG P S I) j wr)) (λi _=>m-(RowKit.intOf i).toNat)
   case atStart=>exact⟨0,rfl,ak⟩
   case round=>
    obtain⟨j,rfl,C⟩:=hrel;obtain⟨K,G,al,ao,t,ap,M,N,O,u,D,W⟩:=Aa C;by_cases z:j<m
    .have aZ:(j:Int)<(m:Int):=Oa;obtain⟨aM,aN⟩:=Aa aL j z;have aO:=Ab<|Pv w (q+2) (q+1) (q+3) j a b n c m d S al P I K G ac wr u D E A z aM aN ap M hv N (H2<|(Aa F).2.2.2) E.aJ O (H2<|Aa L) (H2<|Aa L) Oa W Oa;obtain⟨r,aa⟩:∃r,m-j=r+1:=⟨m-j-1,Oa⟩
     rw[aa]at t;have ab:=Ab t;have aP:=Ab aa;have aQ:=Ab N;have aR:=Ab M;have aq:=Ab z;have aS:=Ab D;have aT:=Ab W;have aU:=Ab O;clear t aa N M ao z D W u ap C O;go_wp2_with fail
     refine(Aa aO).mono ?_;rintro e a0 ⟨ar,rfl,hb3,au⟩;have av:=(Aa aS).trans hb3;have aV:=Ac1 (Aa ab) (Aa aP) (Aa ah) (Aa aR) (Aa aQ) (Aa aU) av (zB (Aa aT) hb3.size) au;clear au hb3;obtain⟨aw,u⟩|⟨rfl,ax⟩:=aV
     .have a1:(ar !=0)=jD:=zV.2 aw;have aW:=Ab u;clear aw u;go_wp2
      exact G2 (v:= jQ #[V X 0,V X ar]) D3 rfl ⟨by rw[Aa aW],av⟩
     .have C:=Ab ax;clear ax;go_wp2
      go_roundw
      case rel=>exact⟨j+1,by have:=Aa aq;go_num,C⟩
      case measure=>have:=Aa aq;simp[RowKit.intOf];omega
    .have e:j=m:=Oa;subst e;rw[Nat.sub_self,Gp]at t;obtain⟨_,_,_,_,a2⟩:=Cm u;have ab:=Ab t;have a3: ¬ ((j:Int)<(j:Int)):=Oa;clear t z ao;go_wp2
     exact G2 (v:= jQ #[V X (al:Int),V X 0]) D3 rfl ⟨by rw[<-Aa ab],D⟩
set_option maxHeartbeats 3200000
theorem Ac2 (x:Int)(w:jB):Calls jZ 69 #[V X x] w λe w'=>e=jN (V X<|F7 x)/\w'=w:=EU x w
def rwV (op:Int):L2×Int:=
 if op=8 then ([2],2)else if op=9 then ([1],1)else if op=10 then ([4],2)else if op<=15 then ([2,2],2)else if op<=18 then ([4,4],4)else if op<=20 then ([0,0],1)else if op<=22 then ([2,2],1)else if op=23 then ([3,4],1)else ([4,4],1)
def LnA (w:jB) (r:L2×Int) (e:Ending) (w':jB):Prop:=∃x c,e=jN (jQ #[Y x (T r.1) c,V X r.2])/\AP w' x (T r.1) c r.1/\(∀ad,x=Q ad->R (Z w)<=jT ad)/\Ai w w'
theorem Af2 (op:Int)(w:jB)(h0: 8<=op)(b:op<=24):Calls jZ 70 #[V X op] w λe w'=>LnA w (rwV op) e w':=by
 have e:=(Ob:∀k:Nat,k<17->Ds (k+8)=rwV (k+8)) (op-8).toNat Oa;rw[(Oa:((op-8).toNat:Int)+8=op)]at e;rw[<-e];refine(Af3 op (by unfold Iy;omega) w).mono λ_ _ ⟨x,n,c,h,a,r⟩=>?_;obtain rfl:=a.len;exact⟨x,c,h,a,r⟩
theorem Ux (a b:L3)(n c m d:Nat)(A B:L2)(w:jB)(l:AP w a n c A)(o:AP w b m d B):
  Calls jZ 15 #[Y a n c,Y b m d] w λe w'=>e=jN (.bool<|decide (A=B))/\∃m,w'=w.drewN m:=by
 have s1:=l.aJ;have s2:=o.aJ;have z:=Ab l.len;have H:=Ab o.len;by_cases f:n=m
 .have I:((n:Int)!=(m:Int))=jE:=by rw[f];simp
  have s:=Ab (show T A=T B by rw[l.len,o.len,f]);have C:=Ab<|TL A B<|Aa s;have D:=Ab f;clear f;go_enter func15,ntmps15
  go_wp2_with fail
  go_loop [14] (λi=>∃k:Nat,k<=n/\i=V X k/\∀j,(h:j<T A)->j<k->A[j]=B[j]'(Aa s ▸ h)) (λi=>n-(RowKit.intOf i).toNat)
  case atStart=>exact⟨0,Oa,rfl,λj _ h=>H9 h Oa⟩
  case round=>
   obtain⟨k,O,rfl,E⟩:=hrel;have t:=Ab E;clear E;by_cases u:k<n
   .have P:(k:Int)<(n:Int):=Oa;have S:(k:Int)<(m:Int):=Hx;have F:k<T A:=by rw[Aa z];exact u
    have J:k<T B:=by rw[Aa H,<-Aa D];exact u
    obtain⟨b1,W,rfl,aa,c1⟩:=l.cells k F;obtain⟨b2,ab,rfl,ac,c2⟩:=o.cells k J;have p:=Ab<|show A[k]≠B[k]->decide (A=B)=jE from λe=>zH λK=>e<|(Aa C).1 K k F;have q:=Ab (show A[k]=B[k]->∀j,(h:j<T A)->j<k+1->A[j]=B[j]'(Aa s ▸ h)from λe j v ad=>by
     by_cases L:j=k
     .subst L;exact e
     .exact Aa t j v Oa)
    have G:=Ab u;clear t;generalize A[k]=x at c1 p q;generalize B[k]=y at c2 p q;by_cases g:x=y
    .have M:(x !=y)=jE:=by rw[g];simp
     have N:=Ab<|Aa q g;clear g p q;go_wp2
     go_round
     case rel=>exact⟨k+1,Aa G,O1,Aa N⟩
     case measure=>have:=Aa G;simp[RowKit.intOf];omega
    .have M:(x !=y)=jD:=zV.2 g;have r:=Ab<|Aa p g;clear g p q;go_wp2
     go_ret
     exact⟨Af (Aa r).symm,0,rfl⟩
   .have e:k=n:=Oa;subst e;have r:=Ab<|show decide (A=B)=jD from zJ<|(Aa C).2 λj v=>Aa t j v<|H2<|Aa z;go_wp2
    go_ret
    exact⟨Af (Aa r).symm,0,rfl⟩
 .have I:((n:Int)!=(m:Int))=jD:=zV.2 Oa;have r:=Ab (show decide (A=B)=jE from zH λe=>f<|by rw[<-l.len,<-o.len,e]);clear f;go_enter func15,ntmps15
  go_wp2
  go_ret
  exact⟨Af (Aa r).symm,0,rfl⟩
theorem Ac3 (a b:L3)(n c m d:Nat)(s:Int)(I:M2)(k:Nat)(w:jB)(y:PX w b m d I)(D:k<m)(B: 1<=(I.getD k ⟨0,0⟩).op/\(I.getD k ⟨0,0⟩).op<=25)(z: 0<=(I.getD k ⟨0,0⟩).aY):
  Calls jZ 14 #[jM #[Y a n c,V X s,Y b m d],V X k] w λe w'=>∃x c',e=jN (Y x (T<|AI k<|I.getD k ⟨0,0⟩) c')/\AP w' x (T<|AI k<|I.getD k ⟨0,0⟩) c' ((AI k<|I.getD k ⟨0,0⟩).map Int.ofNat)/\(∀o,x=Q o->R (Z w)<=jT o)/\Ai w w':=by
 obtain⟨g,A,E,C,r,t⟩:=y.at k D;subst E;have G:=y.aJ;generalize I.getD k ⟨0,0⟩=i at r t B z;obtain⟨op,f⟩:=i;simp only at r t B z;obtain⟨f,rfl⟩:=zo z;have H:(k:Int)<(m:Int):=Oa;have u:=AE w<|jH #[Y a n c,V X s,Y (Q<|jA g A U) m d] 26;have v:=u.alloc u.size<|jH #[V X op,V X f] 80;have J:=(u.cell (p:=⟨g,A+k*2,U⟩) C).trans r;have K:=(u.cell (p:=⟨g,A+k*2+1,U⟩) C).trans t;clear y r t;by_cases h:op=24\/op=25
 .have l:=Ab (show AI k ⟨op,f⟩=[] by unfold AI;rw[H8 h]);rw[Aa l];obtain rfl|rfl:=h
  all_goals
   go_enter func14,ntmps14
   go_wp2
   go_ret
   exact⟨U,0,rfl,⟨rfl,Ob,λj F=>H9 F Ox⟩,λo e=>O5,v⟩
 by_cases q:op=22
 .have l:=Ab (show AI k ⟨op,f⟩=[f] by unfold AI;rw[H7 h,H8 q];simp);rw[Aa l];subst q;go_enter func14,ntmps14
  go_wp2
  go_ret
  exact⟨Q<|jA _ 0 U,_,rfl,CU _ _ Ox [(f:Int)] _ _ Ox,λo e=>(by cases e;show R (Z w)<=R (Z w)+1+1;omega),v.alloc O0 _⟩
 by_cases h3:op=23
 .have l:=Ab (show AI k ⟨op,f⟩=[k+1,f] by unfold AI;rw[H7 h,H7 q,H8 h3];simp);rw[Aa l];subst h3;go_enter func14,ntmps14
  go_wp2
  go_ret
  exact⟨Q<|jA _ 0 U,_,rfl,CU _ _ Ox [(k:Int)+1,(f:Int)] _ _ Ox,λo e=>(by cases e;show R (Z w)<=R (Z w)+1+1;omega),v.alloc O0 _⟩
 .have l:=Ab (show AI k ⟨op,f⟩=[k+1] by unfold AI;rw[H7 h,H7 q,H7 h3]);rw[Aa l];have L:(op==24)=jE:=zA.2 λe=>h<|.inl e;have M:(op==25)=jE:=zA.2 λe=>h<|.inr e;have N:(op==22)=jE:=zA.2 q;have O:(op==23)=jE:=zA.2 h3;go_enter func14,ntmps14
  go_wp2
  go_ret
  exact⟨Q<|jA _ 0 U,_,rfl,CU _ _ Ox [(k:Int)+1] _ _ Ox,λo e=>(by cases e;show R (Z w)<=R (Z w)+1+1;omega),v.alloc O0 _⟩
set_option maxHeartbeats 6400000
theorem AP.bX {w:jB}{a:jG}{n c:Nat}{L:L2}(h:AP w (Q a) n c L):∀j u,(Ak L)[j]? =Q u->jI w (a.add j)=Q u:=by
 intro j u hu;rw[Ak,zr]at hu;cases d:L[j]? with
 |none=>grind
 |some x=>
   rw[d]at hu;simp only[Option.map_some,Option.some.injEq]at hu;obtain⟨g,hx⟩:=zP.1 d;obtain⟨b,f,i,_,hc⟩:=h.cells j g;cases i;have k:((jA b f U):jG).add j=⟨b,f+j,U⟩:=Hl
   grind
theorem Iw {w:jB}{o:Oper}{a:Act}{Q:Exit->Act->jB->Prop}(j:o.guard=U)(s x:Operand)
  (k:o.op= .call { callee:= .builtin .append,args:=#[s,x],argTypes:=#[44,44] })
  (base:Nat)(v:jF)(n:Nat)(f:L7)(hs:a.eval s=v)(g:jO w base 3 1 v n f)
  (d:L3)(m c:Nat)(L:L2)(hx:a.eval x=Y d m c)(hq:AP w d m c L)(l:d=U->c=0)
  (D:n+m<=1048576)(p:base<=R (Z w))
  (h:∀v' w',jO w' base 3 1 v' (n+m) (f++Ak L)->w.grownBy w' (jL v)->wpList jZ ops Q rest (a.put o.dst v') w'):wpList jZ ops Q (o ::rest) a w:=by
 obtain⟨i,hi,q,r,t⟩:=info_parts If;cases d with
 |none=>
   obtain rfl:=l rfl;have z:L=[]:=by
    cases L with
    |nil=>rfl
    |cons y L=>
      obtain⟨b,E,A,_⟩:=hq.cells 0 Ox;cases A
   subst z;have hm:m=0:=by have:=hq.len;simpa using this.symm
   subst hm;refine wpList_append_own_none j s x 44 k base 3 i 1 underlying44 hi v n f hs g hx<|h v w (by simpa[Ak]using g) ?_;exact⟨rfl,rfl,rfl,NLN,λ_ _ _=>rfl⟩
 |some d=>
   refine G7 _ j s x 44 k base 3 i (V X 0) 1 8 underlying44 hi q r t rfl Ob v n f hs g d m c (Ak L) hx ?_ hq.bX ?_ ?_ ?_ p (λv' w' B C _=>h v' w' B C)
   .grind [AP.len,Ak]
   .intro u hu;obtain⟨s,_,rfl⟩:=zc.1 hu;rfl
   .unfold maxLen;omega
   .omega
theorem Dq {w w':jB}{e n c:Nat}{x:L3}{a:L7}(h:jO w lo e 1 (Y x n c) n a)(d:∀q,lo<=q->q<R (Z w)->x=Q (jA q 0 U)->(Z w')[q]? =(Z w)[q]?):jO w' lo e 1 (Y x n c) n a:=by
 have f:=h.lt;obtain⟨h0,b⟩:=h;refine⟨h0,?_⟩;obtain b|⟨g,cap,i,hv,hg,hc,rest⟩:=b
 .grind
 .simp only[Value.slice.injEq]at hv;have j:=(f g<|by simp[jL,hv.1]).2;exact .inr ⟨g,cap,i,by simp[hv],hg,(d g hg j hv.1).trans hc,rest⟩
def Alx (w:jB) (kn:Bool) (st sl:L2) (e:Ending) (w':jB):Prop:=∃x c y d,e=jN (jM #[.bool kn,Y x (T st) c,Y y (T sl) d])/\jO w' (R<|Z w) 3 1 (Y x (T st) c) (T st) (Ak st)/\jO w' (R<|Z w) 3 1 (Y y (T sl) d) (T sl) (Ak sl)/\(∀p q,x=Q p->y=Q q->jT p≠jT q)/\Ai w w'
theorem Ac4 (kn:Bool)(st sl:L2)(f g:L3)(b h a i:Nat)(w:jB)(x:AP w f b h st)(n:AP w g a i sl)(n1:f=U->h=0)(n2:g=U->i=0):
  Calls jZ 38 #[jM #[.bool kn,Y f b h,Y g a i]] w λe w'=>Alx w kn st sl e w':=by
 have D:=AE w<|jH #[.bool kn,Y f b h,Y g a i] 46;have E:=D.alloc D.size<|jH #[.bool jE,Y U 0 0,Y U 0 0] 46;have y:=E.alloc E.size<|jH #[.bool kn,Y U 0 0,Y U 0 0] 46;have P:=Ab<|x.below y NLN;have aE:=Ab<|n.below y NLN;have aG:=x.aJ;have aH:=n.aJ;have S:=Ab x.len;have W:=Ab n.len;have F:=((Ag.new w #[.bool kn,Y f b h,Y g a i] 46).alloc<|jH #[.bool jE,Y U 0 0,Y U 0 0] 46).alloc<|jH #[.bool kn,Y U 0 0,Y U 0 0] 46;have z:=(Ag.new (jK w<|jH #[.bool kn,Y f b h,Y g a i] 46) #[.bool jE,Y U 0 0,Y U 0 0] 46).alloc<|jH #[.bool kn,Y U 0 0,Y U 0 0] 46;have A:=Ag.new (jK (jK w<|jH #[.bool kn,Y f b h,Y g a i] 46)<|jH #[.bool jE,Y U 0 0,Y U 0 0] 46) #[.bool kn,Y U 0 0,Y U 0 0] 46;rw[G0]at z;rw[G0,G0]at A;have G:R (Z w)+3<=R (Z<|jK (jK (jK w<|jH #[.bool kn,Y f b h,Y g a i] 46)<|jH #[.bool jE,Y U 0 0,Y U 0 0] 46)<|jH #[.bool kn,Y U 0 0,Y U 0 0] 46):=Ox;have aa:=Ab y;have ab:=Ab n;go_enter func38,ntmps38
 go_wp2_with (first
  |(at_builtin;refine Iw rfl _ _ rfl (R (Z w)+3) (Y U 0 0) 0 [] rfl H3 f b h st rfl (Aa P) n1 Oa Ox ?_;intro aI ac o k;rw[zY,List.nil_append]at o;obtain⟨d,c3,rfl⟩:=AA o;have B:=F.grown k (by simp[jL]);have H:=z.grown k (by simp[jL]);have l:=A.grown k (by simp[jL]);obtain⟨ad,ae,af⟩:=At B;obtain⟨ag,ah,ai⟩:=At l;have f1:=l.frozen 1;have f2:=l.frozen 2;have r:=l.set 1 (Y d b c3);simp only[zZ,zb,ze]at r;have I:=B.aF (p:=⟨R (Z w)+1+1,1,U⟩) (Oa:R (Z w)≠R (Z w)+1+1) (Y d b c3);have J:=H.aF (p:=⟨R (Z w)+1+1,1,U⟩) P4 (Y d b c3);obtain⟨aj,s1,s2⟩:=At r;obtain⟨ak,al,ao⟩:=At I;have ap:=(Aa aa).grown k (zB Oa G) λq hq=>Hj;have K:=ap.setCell (p:=⟨R (Z w)+1+1,1,U⟩) P7<|Y d b c3;have aq:=Ab<|(Aa ab).below K NLN;have ar:=zB G k.size;clear ad ae F z A)
  |(at_builtin;refine Iw rfl _ _ rfl (R<|Z ac) (Y U 0 0) 0 [] rfl H3 g a i sl rfl (Aa aq) n2 Oa Ox ?_;intro aK s t u;rw[zY,List.nil_append]at t;obtain⟨c,c5,rfl⟩:=AA t;have m:=r.grown u (by simp[jL]);have L:=J.grown u (by simp[jL]);have C:=m.set 2<|Y c a c5;simp only[zZ,zb,ze]at C;have j:=L.aF (p:=⟨R (Z w)+1+1,2,U⟩) P4<|Y c a c5;obtain⟨aL,aM,aN⟩:=At m;have aO:=m.frozen 2;obtain⟨aP,aQ,aR⟩:=At C;obtain⟨aS,aT,aU⟩:=At j;have g0:=j.frozen 0;have g1:=j.frozen 1;have g2:=j.frozen 2;have aV:=Ab m;have au:=Ab j;clear B H l r I J m L C j aj s1 s2 ak al ao af ag ah ai f1 f2)
  |fail)
 have M:=(((Aa au).set 0<|.bool kn).set 1<|Y d b c3).set 2<|Y c a c5;simp only[zZ,zb,ze]at M;obtain⟨av,a1,a2⟩:=At M;have N:∀q,R (Z w)+3<=q->(Z<|jJ (jJ (jJ (jJ s ⟨R (Z w)+1+1,2,U⟩<|Y c a c5) ⟨R (Z w)+1,0,U⟩<|.bool kn) ⟨R (Z w)+1,1,U⟩<|Y d b c3) ⟨R (Z w)+1,2,U⟩<|Y c a c5)[q]? =(Z s)[q]? :=λq hq=>by
  rw[H5 (Oa:q≠R (Z w)+1),H5 (Oa:q≠R (Z w)+1),H5 (Oa:q≠R (Z w)+1),H5 (Oa:q≠R (Z w)+1+1)]
 have aw:=K.grown u (zB Oa<|zB ar Ox) λq hq=>Hj;have ax:=(((aw.setCell (p:=⟨R (Z w)+1+1,2,U⟩) P7<|Y c a c5).setCell (p:=⟨R (Z w)+1,0,U⟩) D9<|.bool kn).setCell (p:=⟨R (Z w)+1,1,U⟩) D9<|Y d b c3).setCell (p:=⟨R (Z w)+1,2,U⟩) D9<|Y c a c5;have ay:=Dq (w':=jJ (jJ (jJ (jJ s ⟨R (Z w)+1+1,2,U⟩<|Y c a c5) ⟨R (Z w)+1,0,U⟩<|.bool kn) ⟨R (Z w)+1,1,U⟩<|Y d b c3) ⟨R (Z w)+1,2,U⟩<|Y c a c5) o (λq hq O hx=>by
  rw[N q hq,u.block q (by simpa using O)<|by simp[jL],H5 (Oa:q≠R (Z w)+1+1)])
 have az:=Dq (w':=jJ (jJ (jJ (jJ s ⟨R (Z w)+1+1,2,U⟩<|Y c a c5) ⟨R (Z w)+1,0,U⟩<|.bool kn) ⟨R (Z w)+1,1,U⟩<|Y d b c3) ⟨R (Z w)+1,2,U⟩<|Y c a c5) t λq hq O hx=>N q Oa;have aA:∀p q,d=Q p->c=Q q->jT p≠jT q:=λp q aB hq e=>by
  have h3:=(o.lt (jT p)<|by rw[aB];rfl).2;have h5:=(t.lt (jT q)<|by rw[hq];rfl).1;omega
 have aC:=Aa S;have aD:=Aa W;subst aC aD;exact G2 (v:= jM #[.bool kn,Y d (T st) c3,Y c (T sl) c5]) (by simp[results,results38,go_sem,av,a1,a2]) rfl ⟨d,c3,c,c5,rfl,Az ay Oa,Az az Oa,aA,ax⟩
end
end Go.Proofs.YtnjpihpohilnjaaGreatDoor
