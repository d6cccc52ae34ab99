import Derived.Test.YtppafecmccdplaaGreatMXAK
import Derived.Test.YtppafecmccdplaaGreatLTF
import Derived.Test.YtppafecmccdplaaGreatMXAS
open Go.Proofs.Tryz
open Option renaming none->T,some->Y
open Go.Value renaming int->U,slice->X,string->Q,agg->jE
open Go.IntKind renaming i64->V
open Go renaming World->Z,Value->jB,Addr->jD,TypeId->jI
open ByteArray renaming empty->jK
open Go.Proofs.Tryz renaming prog->jL
namespace Go.Proofs.YtppafecmccdplaaGreat
open Go.RowKit
set_option linter.unusedVariables false
set_option maxRecDepth 100000
set_option maxHeartbeats 12800000
variable {tmps:Array jB}{k:K5}{left:List Int}{ss:List S5}{m l:List jB}{lo hi g g7 b:Nat}{o:Obj}{x:Option jD}{v d f y u:jB}{wz i r:Z}
section
def Pt (m:Nat) (P:List Vl) (s:Int) (I:List Cg):Prop:=
 if m / 2=0 then P=[]/\s=0/\I=List.replicate (20000+m % 2) ⟨24,0⟩
 else if m / 2=1 then P=List.replicate (4000+m % 2) ⟨1,0,⟨#[]⟩,[]⟩/\s=0/\I=[⟨24,0⟩]
 else P=[]/\s=600+((m % 2 :Nat):Int)/\I=[⟨24,0⟩]
def Aep (w:Z) (b o:Nat):Nat:=match w.cell? ⟨b,o,T⟩with|some (X _ n _)=>n|_=>0
section
variable {w w' W w7 : Z} {tl th B b0 b1 : Nat} {kN : Int} {P : List Vl} {I : List Cg} {pv iv : jB} {nv : List jB}
theorem L5.appP (h:L5 w w' tl th B b0 b1 kN P I pv iv nv){v:Vl}(m:Ps v)(hv:v.names=[]){g7 c7:Nat}(hg:(w'.alloc o).grownBy w7 pv.ownBlock)(g:w7.ownsRow B 44 4 (X (Y ⟨g7,0,T⟩) (P.length+1) c7) (P.length+1) (Iz P nv++Uf v (X T 0 0))):
  L5 w (w7.setCell ⟨b1,0,T⟩ (X (Y ⟨g7,0,T⟩) (P.length+1) c7)) tl th B b0 b1 kN (P++[v]) I (X (Y ⟨g7,0,T⟩) (P.length+1) c7) iv (nv++[X T 0 0])/\Ah w7 b1 #[pv,U V kN,iv] 26/\Ah w7 b0 #[X T 0 0,U V 0,X T 0 0] 26:=by
 have b:=h.lo;have c:=AN w' o;have i:GW (fun q=>q=b1\/pv.ownBlock=Y q) w' w7:=⟨hg.os,hg.tape,hg.output,zC c.size hg.size,fun k hk n=>(hg.block k (zR hk c.size) (fun e=>n (.inr e.symm))).trans (c.block k hk)⟩
 have d:=Cr (h.row.after c NLN) hg (fun e=>Ac h.row h.pool.own (by decide) e.symm);have K:=i.setCell (p:=⟨b1,0,T⟩) (fun _=> .inl rfl) (X (Y ⟨g7,0,T⟩) (P.length+1) c7);obtain⟨f1,f2,r⟩:=h.far (fun q a=>(h.pool.own.lt q a).1) K;refine⟨⟨d.set 0 _,⟨by simp[h.pool.len],?_,fun j h1 s=>?_,fun x hx=>?_⟩,h.ik K,f1,f2,⟨b.1,b.2.1,b.2.2.1,b.2.2.2.1,r⟩⟩,d,(h.far (fun q a=>(h.pool.own.lt q a).1) i).1⟩
 ·rw[PV P nv _ _ h.pool.len,zB,zg];exact Ai g ⟨b1,0,T⟩ _ (fun q a e=>Ac d g (by decide) (by have e:q=b1:=e;rw[<-e];exact a))
 ·by_cases f:j<P.length
  ·have l:j<nv.length:=by rw[h.pool.len];exact f
   rw[zi f,zi l];have o:=h.pool.names j f l;exact Ad o fun q a=>K.block q (o.lt q a).2 (fun e=>by
    rcases e with e|e
    ·exact Ac h.row o (by decide) (by rw[<-e];exact a)
    ·exact Ak h.pool.own o (by decide) q e a)
  ·have e1:j=P.length:=by simp at h1;omega
   subst e1;have e2:(nv++[Value.slice T 0 0])[P.length]'s=X T 0 0:=by simp[<-h.pool.len]
   rw[e2,yE NLN];simp[hv];exact World.ownsRow_nil _ _ _ _
 ·rcases zM.1 hx with t|t
  ·exact h.pool.ok x t
  ·rw[zO.1 t];exact m
theorem L5.slot (h:L5 w w' tl th B b0 b1 kN P I pv iv nv)(k:Int):L5 w (w'.setCell ⟨b1,1,T⟩ (U V k)) tl th B b0 b1 k P I pv iv nv:=by
 have a:=h.lo;have K:=fun v:jB=>(GW.refl (fun q=>q=b1\/v.ownBlock=Y q) w').setCell (p:=⟨b1,1,T⟩) (fun _=> .inl rfl) (U V k);obtain⟨f1,f2,b⟩:=h.far (fun q c=>(h.ins.lt q c).1) (K iv);exact⟨h.row.set 1 _,h.pk (K iv),h.ik (K pv),f1,f2,⟨a.1,a.2.1,a.2.2.1,a.2.2.2.1,b⟩⟩
end
theorem PB {w:Z}{b o n c:Nat}(h:w.cell? ⟨b,o,T⟩=Y (X x n c)):Aep w b o=n:=by rw[Aep,h]
theorem Af4 {Q:Z->Prop}{w:Z}(h:∀a,L5 w a 0 0 (w.heap.size+1) w.heap.size (w.heap.size+1+1) 0 [] [⟨24,0⟩] (X T 0 0) (X (Y ⟨w.heap.size+1,0,T⟩) 1 1) []->Q a):Q (((w.alloc (.cells #[X T 0 0,U V 0,X T 0 0] 26)).alloc (.cells #[U V 24,U V 0] 49)).alloc (.cells #[X T 0 0,U V 0,X (Y ⟨w.heap.size+1,0,T⟩) 1 1] 26)):=by
 refine PW (P:=Q) fun a c d b f=>h a ⟨f,⟨rfl,World.ownsRow_nil _ _ _ _,fun j g=>absurd g (by simp),fun v hv=>absurd hv (by simp)⟩,⟨rfl,.inr ⟨w.heap.size+1,1,_,rfl,NLN,b.out,NLN,by unfold maxLen;omega,rfl,rfl⟩⟩,d,Al.of_below c NLN,⟨NLN,by omega,by omega,by omega,Nat.le_of_lt b.lt⟩⟩
theorem Aeq (m:Nat)(hm:m<=5)(w:Z):Calls jL 24 #[U V m] w fun r w'=>AbU 90000 (Pt m) w r w'/\An w w':=by
 obtain⟨ad,ae,af,ag,ah⟩:=info_parts IZ;obtain⟨ai,aj,ak,al,ao⟩:=info_parts Ug;obtain⟨N,l⟩:∃N:Nat,Hid (N=20000+m % 2):=⟨_,Ab rfl⟩
 obtain⟨y,n⟩:∃N:Nat,Hid (N=4000+m % 2):=⟨_,Ab rfl⟩
 have ap:=Ab (show m / 2=0->Pt m [] 0 (List.replicate N ⟨24,0⟩)from fun e=>by unfold Pt;rw[if_pos e,Aa l];exact⟨rfl,rfl,rfl⟩);have aq:=Ab (show m / 2=1->Pt m (List.replicate y ⟨1,0,⟨#[]⟩,[]⟩) 0 [⟨24,0⟩]from fun e=>by unfold Pt;rw[if_neg (by omega),if_pos e,Aa n];exact⟨rfl,rfl,rfl⟩);rcases(show(m=0\/m=1)\/(m=2\/m=3)\/(m=4\/m=5) by omega)with(rfl|rfl)|(rfl|rfl)|(rfl|rfl)
 all_goals
  clear hm;go_enter func24,ntmps24
  go_upto_region 2 with fail
  refine Af4 (Q:=Code.wp _ _ _ _) fun aE g=>?_
 iterate 2
  ·go_wp2_with fail
   go_loopw [] (fun wr=>∃ (i:Nat) (aa:jB),i<=N/\Hid (L5 w wr 0 0 (w.heap.size+1) w.heap.size (w.heap.size+1+1) 0 [] (List.replicate i ⟨24,0⟩) (.slice T 0 0) aa [])) (fun wr=>N-Aep wr (w.heap.size+1+1) 2)
   case atStart=>exact⟨1,_,by have:=Aa l;omega,Ab g⟩
   case round=>
    obtain⟨i,aa,hi,a⟩:=hrel;have h:=Aa a;obtain⟨I,b⟩:∃I,I=List.replicate i (⟨24,0⟩:Cg):=⟨_,rfl⟩
    rw[<-b]at h;have o:I.length=i:=by rw[b,List.length_replicate]
    have ar:I.length<=20001:=by have:=Aa l;omega
    have z:=Ab b;have G:=Ab o;clear a b;obtain⟨xi,ci,rfl,-⟩:=Ae h.ins;obtain⟨H,ab,J⟩:=Ao h.row;have L:=Ab (PB J);have au:=h.lo.2.2.2.2;by_cases p:i<N
    ·first
     |have q:(I.length:Int)<20000:=by have:=Aa l;omega
     |have q:(I.length:Int)<20001:=by have:=Aa l;omega
     have A:=Ab p;clear p o hi;go_wp2_with (at_builtin;refine wpList_append_lies _ rfl _ _ 24 rfl (w.heap.size+1) 49 ad (jE #[U V 0,U V 0]) 2 16 underlying24 ae af ag ah rfl (by decide) (.slice xi I.length ci) I.length (Cm I) rfl (World.ownsRow.alloc h.ins _) ⟨wr.heap.size,0,T⟩ 1 1 [U V 24,U V 0] rfl rfl (World.news_of_block (heap_alloc_new wr (.cells #[U V 24,U V 0] 49))) ?c1 (by decide) ?d1 ?e1 ?f1 (wr.heap.size+1) (by simp) ?_)
     case c1=>first|exact⟨rfl,rfl⟩|(intro u hu;simp at hu;rcases hu with rfl|rfl|rfl|rfl<;>rfl)|(intro u hu;simp at hu;rcases hu with rfl|rfl<;>rfl)
     case d1=>unfold maxLen;omega
     case e1=>omega
     case f1=>first|omega|(simp;omega)
     intro g7 av aw B C hat O;obtain⟨D,t,S⟩:=h.app 24 0 C B;have ax:=fun j=>t.frozen j;have ay:=t.cell 2;have E:=Ab D;clear B C hat O D t S h;go_wp2
     go_roundw
     case rel=>exact⟨i+1,_,by have:=Aa A;omega,Ab (by rw[List.replicate_succ',<-Aa z];exact Aa E)⟩
     case measure=>rw[Aa L,PB ((Aa E).row.cell 2),Aa G];have:=Aa A;omega
    ·first
     |have q: ¬ (I.length:Int)<20001:=by have:=Aa l;omega
     |have q: ¬ (I.length:Int)<20000:=by have:=Aa l;omega
     obtain⟨az,aA,aB⟩:=Ao h.out;have aC:=fun j=>h.out.frozen j;have e:i=N:=by omega
     have F:=Ab (Aa ap (by decide));rw[<-e,<-Aa z]at F;have a:=Ab h;clear p o hi e h;go_wp2_with fail
     obtain⟨⟨c,d,f⟩,a1,a2⟩:=(Aa a).fin (M:=90000) (xp:=T) (cp:=0) (Aa F) (zE _) (by omega) rfl;dsimp only[List.length_nil,List.length_cons,zP]at c d f a1 a2;exact bodyPost_ret (v:= jE #[.slice T 0 0,U V 0,.slice xi I.length ci]) (by simp[results,results24,go_sem,c,d,f]) rfl ⟨a1,Fa a2⟩
 iterate 2
  ·go_wp2_with fail
   go_loopw [] (fun wr=>∃ (i:Nat) (ac:jB) (W:List jB),i<=y/\Hid (L5 w wr 0 0 (w.heap.size+1) w.heap.size (w.heap.size+1+1) 0 (List.replicate i ⟨1,0,⟨#[]⟩,[]⟩) [⟨24,0⟩] ac (.slice (Y ⟨w.heap.size+1,0,T⟩) 1 1) W)) (fun wr=>y-Aep wr (w.heap.size+1+1) 0)
   case atStart=>exact⟨0,_,_,by have:=Aa n;omega,Ab g⟩
   case round=>
    obtain⟨i,ac,W,hi,a⟩:=hrel;have h:=Aa a;obtain⟨P,b⟩:∃P,P=List.replicate i (⟨1,0,⟨#[]⟩,[]⟩:Vl):=⟨_,rfl⟩
    rw[<-b]at h;have o:P.length=i:=by rw[b,List.length_replicate]
    have ar:P.length<=20001:=by have:=Aa n;omega
    have z:=Ab b;have G:=Ab o;clear a b;obtain⟨xi,ci,rfl,-⟩:=Ae h.pool.own;obtain⟨H,ab,J⟩:=Ao h.row;have L:=Ab (PB H);have au:=h.lo.2.2.2.2;by_cases p:i<y
    ·first
     |have q:(P.length:Int)<4000:=by have:=Aa n;omega
     |have q:(P.length:Int)<4001:=by have:=Aa n;omega
     have A:=Ab p;clear p o hi;go_wp2_with (at_builtin;refine wpList_append_lies _ rfl _ _ 23 rfl (w.heap.size+1) 44 ai (jE #[U V 0,U V 0,.string jK,.slice T 0 0]) 4 56 underlying23 aj ak al ao rfl (by decide) (.slice xi P.length ci) P.length (Iz P W) rfl (World.ownsRow.alloc h.pool.own _) ⟨wr.heap.size,0,T⟩ 1 1 [U V 1,U V 0,.string ⟨#[]⟩,.slice T 0 0] rfl rfl (World.news_of_block (heap_alloc_new wr (.cells #[U V 1,U V 0,.string ⟨#[]⟩,.slice T 0 0] 44))) ?c1 (by decide) ?d1 ?e1 ?f1 (wr.heap.size+1) (by simp) ?_)
     case c1=>first|exact⟨rfl,rfl⟩|(intro u hu;simp at hu;rcases hu with rfl|rfl|rfl|rfl<;>rfl)|(intro u hu;simp at hu;rcases hu with rfl|rfl<;>rfl)
     case d1=>unfold maxLen;omega
     case e1=>omega
     case f1=>first|omega|(simp;omega)
     intro g7 av aw B C hat O;obtain⟨D,t,S⟩:=h.appP (v:=⟨1,0,⟨#[]⟩,[]⟩) ⟨zE _,zE _,fun s hs=>absurd hs (by simp)⟩ rfl C B;have ax:=fun j=>t.frozen j;have ay:=t.cell 0;have E:=Ab D;clear B C hat O D t S h;go_wp2
     go_roundw
     case rel=>exact⟨i+1,_,_,by have:=Aa A;omega,Ab (by rw[List.replicate_succ',<-Aa z];exact Aa E)⟩
     case measure=>rw[Aa L,PB ((Aa E).row.cell 0),Aa G];have:=Aa A;omega
    ·first
     |have q: ¬ (P.length:Int)<4001:=by have:=Aa n;omega
     |have q: ¬ (P.length:Int)<4000:=by have:=Aa n;omega
     obtain⟨az,aA,aB⟩:=Ao h.out;have aC:=fun j=>h.out.frozen j;have e:i=y:=by omega
     have F:=Ab (Aa aq (by decide));rw[<-e,<-Aa z]at F;have a:=Ab h;clear p o hi e h;go_wp2_with fail
     obtain⟨⟨c,d,f⟩,a1,a2⟩:=(Aa a).fin (M:=90000) (xi:=Y ⟨w.heap.size+1,0,T⟩) (ci:=1) (Aa F) (by omega) (by simp) rfl;dsimp only[List.length_nil,List.length_cons,zP]at c d f a1 a2;exact bodyPost_ret (v:= jE #[.slice xi P.length ci,U V 0,.slice (Y ⟨w.heap.size+1,0,T⟩) 1 1]) (by simp[results,results24,go_sem,c,d,f]) rfl ⟨a1,Fa a2⟩
 all_goals
  obtain⟨c0,c1,c2⟩:=Ao g.row;have f1:=g.row.frozen;obtain⟨H,ab,J⟩:=Ao g.out;have f2:=g.out.frozen;have a:=Ab g;clear g;go_wp2_with fail
  have x:=fun (K:Int) (k:Nat) (aD:Pt k [] K [⟨24,0⟩])=>((Aa a).slot K).fin (xp:=T) (cp:=0) (xi:=Y ⟨w.heap.size+1,0,T⟩) (ci:=1) (X:=Pt k) aD (zE _) (M:=90000) (by simp) rfl;dsimp only[List.length_nil,List.length_cons,zP]at x
  first
  |exact bodyPost_ret (v:= jE #[.slice T 0 0,U V 600,.slice (Y ⟨w.heap.size+1,0,T⟩) 1 1]) (by obtain⟨⟨c,d,f⟩,-⟩:=x 600 4 ⟨rfl,rfl,rfl⟩;simp[results,results24,go_sem,c,d,f]) rfl ⟨(x 600 4 ⟨rfl,rfl,rfl⟩).2.1,Fa (x 600 4 ⟨rfl,rfl,rfl⟩).2.2⟩
  |exact bodyPost_ret (v:= jE #[.slice T 0 0,U V 601,.slice (Y ⟨w.heap.size+1,0,T⟩) 1 1]) (by obtain⟨⟨c,d,f⟩,-⟩:=x 601 5 ⟨rfl,rfl,rfl⟩;simp[results,results24,go_sem,c,d,f]) rfl ⟨(x 601 5 ⟨rfl,rfl,rfl⟩).2.1,Fa (x 601 5 ⟨rfl,rfl,rfl⟩).2.2⟩
end
structure PgO (w:Z) (B pb:Nat) (S:List St) (sv:jB):Prop where
 row:Ah w pb #[X T 0 0,sv] 86
 st:w.ownsRow B 93 4 sv S.length (En S)
 good:∀s∈S,s.name.size<=1048576
theorem Gk.row {B R d:Nat}{a:Option jD}{n c:Nat}{zs:List Int}{wild:Bool}{p:Nat}{N:List Nd}{L:List (ByteArray×Int)}{nd lt g:jB}{w w':Z}(K:Gk B R d lt nd w g w')(S:Ka B R d a n c zs wild p N L nd lt w){b:Nat}{f:Array jB}{t:jI}(h:Ah w b f t)(h1:t≠126)(i:t≠56)(j:t≠134)(k:t≠130):Ah w' b f t:=by
 obtain⟨m,o,C⟩:=S;have l:=C.rd;exact⟨(K.block b h.lt (Bk h C.row h1) (Bk h l.row i) (Ac h C.nodes.own j) (Ac h C.lets k)).trans h.out⟩
theorem Gk.own {B R d:Nat}{a:Option jD}{n c:Nat}{zs:List Int}{wild:Bool}{p:Nat}{N:List Nd}{L:List (ByteArray×Int)}{nd lt g:jB}{w w':Z}(K:Gk B R d lt nd w g w')(S:Ka B R d a n c zs wild p N L nd lt w){base t size k:Nat}{v:jB}{f:List jB}(h:w.ownsRow base t size v k f)(h1: 126≠t)(i: 56≠t)(j:t≠134)(l:t≠130):w'.ownsRow base t size v k f:=by
 obtain⟨o,r,C⟩:=S;have m:=C.rd;exact Ad h (fun q b=>K.block q (h.lt q b).2 (fun e=>Ac C.row h h1 (by rw[b,e])) (fun e=>Ac m.row h i (by rw[b,e])) (fun e=>Ak h C.nodes.own j q b e) (fun e=>Ak h C.lets l q b e))
theorem PgO.gk {B R b:Nat}{a:Option jD}{n c:Nat}{zs:List Int}{wild:Bool}{p:Nat}{N:List Nd}{L:List (ByteArray×Int)}{nd lt g f:jB}{w w':Z}{S:List St}(P:PgO w B g7 S f)(K:Gk B R b lt nd w g w')(G:Ka B R b a n c zs wild p N L nd lt w):PgO w' B g7 S f:=
 ⟨K.row G P.row (by decide) (by decide) (by decide) (by decide),K.own G P.st (by decide) (by decide) (by decide) (by decide),P.good⟩
theorem PgO.below {B a:Nat}{b:jB}{w w':Z}{S:List St}(P:PgO w B a S b)(c:An w w'):PgO w' B a S b:=
 ⟨P.row.after c NLN,Ad P.st (fun q d=>c.block q (P.st.lt q d).2),P.good⟩
theorem Ka.others {B R m:Nat}{a:Option jD}{n c:Nat}{zs:List Int}{wild:Bool}{p:Nat}{N:List Nd}{L:List (ByteArray×Int)}{nd:jB}{w w':Z}(h:Ka B R m a n c zs wild p N L nd d w)(z:Below B w w')(T:jI)(X:Nat->Prop)(u:∀q,X q->(∃s,Ah w q s T)\/∃base size k v i,v.ownBlock=Y q/\w.ownsRow base T size v k i)(h1:T≠126)(A:T≠56)(D:T≠134)(E:T≠130)(h5:T≠9)(F:T≠3)(hk:∀q,q<w.heap.size->¬ X q->w'.heap[q]? =w.heap[q]?):Ka B R m a n c zs wild p N L nd d w':=by
 obtain⟨G,H,C⟩:=h;have g:=C.rd;have x:∀{b:Nat} {s:Array jB} {t:jI},Ah w b s t->T≠t->¬ X b:=fun r l hx=>by
  rcases u _ hx with⟨I,k⟩|⟨base,size,k,v,i,hv,o⟩
  ·exact Bk k r l rfl
  ·exact Ac r o (Ne.symm l) hv
 have no:∀{base t size k:Nat} {v:jB} {i:List jB},w.ownsRow base t size v k i->T≠t->∀q,v.ownBlock=Y q->¬ X q:=fun o l q lt hx=>by
  rcases u _ hx with⟨I,k⟩|⟨base,size,k,v,i,hv,J⟩
  ·exact Ac k o l lt
  ·exact Ak J o l q hv lt
 refine⟨G,H,⟨⟨(hk m C.row.lt (x C.row h1)).trans C.row.out⟩,⟨⟨(hk R g.row.lt (x g.row A)).trans g.row.out⟩,g.len,g.le,g.small,fun j f=>?_⟩,C.nodes.upto (fun q lt=>hk q (C.nodes.lts.1 q lt).2 (no C.nodes.own D q lt)) (fun j f q lt=>hk q (C.nodes.lts.2.1 j f q lt).2 (no (C.nodes.names j (by rw[<-C.nodes.len];exact f) f) h5 q lt)) (fun j f q lt=>hk q (C.nodes.lts.2.2 j f q lt).2 (no (C.nodes.kids j (by rw[<-C.nodes.lenk];exact f) f) F q lt)),Ad C.lets (fun q lt=>hk q (C.lets.lt q lt).2 (no C.lets E q lt)),C.low,C.good⟩⟩;obtain⟨b,y,e1,e2,e3,e4⟩:=g.cells j f;exact⟨b,y,e1,e2,(z.cell (p:=⟨b,y+j,none⟩) (show b<B from C.low.2 (by omega) _ e1)).trans e3,e4⟩
theorem Wn.pushL {m:Z}{B R c7:Nat}{a:Option jD}{n c:Nat}{zs:List Int}{p:Nat}{N:List Nd}{L:List (ByteArray×Int)}{nd:jB}{t u:List jB}{wild:Bool}(C:Wn m B R g a n c zs p N L nd d t u wild)(o:Obj)(x:ByteArray×Int)(hx:x.1.size<=1000)(z:B<=m.heap.size)
  (hg:(m.alloc o).grownBy i d.ownBlock)(v:i.ownsRow B 130 2 (X (Y ⟨g7,0,T⟩) (L.length+1) c7) (L.length+1) (SH L++[Q x.1,U V x.2])):
  Wn (i.setCell ⟨g,2,T⟩ (X (Y ⟨g7,0,T⟩) (L.length+1) c7)) B R g a n c zs p N (L++[x]) nd (X (Y ⟨g7,0,T⟩) (L.length+1) c7) t u wild:=by
 have A:=AN m o;have n1:d.ownBlock≠Y g:=Ac C.row C.lets (by decide);have r:Ah i g #[.pointer (Y ⟨R,0,T⟩),nd,d,.bool wild] 126:=⟨(BJ hg g C.row.lt n1).trans C.row.out⟩
 have s:∀q,q≠g->(i.setCell ⟨g,2,T⟩ (X (Y ⟨g7,0,T⟩) (L.length+1) c7)).heap[q]? =i.heap[q]? :=fun q lt=>heap_setCell_other i ⟨g,2,T⟩ q _ lt;have k:=C.rd;have D:R≠g:=Bk k.row C.row (by decide);have E:Below B m (i.setCell ⟨g,2,T⟩ (X (Y ⟨g7,0,T⟩) (L.length+1) c7)):=((A.mono z).grown hg (by simp;omega) (fun q lt=>(C.lets.lt q lt).1)).setCell (p:=⟨g,2,T⟩) C.low.1.1 _;have l:Du i B nd N t u:=C.nodes.upto (fun q lt=>BJ hg q (C.nodes.lts.1 q lt).2 (fun e=>Ak C.lets C.nodes.own (by decide) q e lt)) (fun j f q lt=>BJ hg q (C.nodes.lts.2.1 j f q lt).2 (fun e=>Ak C.lets (C.nodes.names j (by rw[<-C.nodes.len];exact f) f) (by decide) q e lt)) (fun j f q lt=>BJ hg q (C.nodes.lts.2.2 j f q lt).2 (fun e=>Ak C.lets (C.nodes.kids j (by rw[<-C.nodes.lenk];exact f) f) (by decide) q e lt));refine⟨r.set 2 _,⟨⟨((s R D).trans (BJ hg R k.row.lt (Ac k.row C.lets (by decide)))).trans k.row.out⟩,k.len,k.le,k.small,fun j f=>?_⟩,l.upto (fun q lt=>s q (fun e=>Ac r l.own (by decide) (by rw[lt,e]))) (fun j f q lt=>s q (fun e=>Ac r (l.names j (by rw[<-l.len];exact f) f) (by decide) (by rw[lt,e]))) (fun j f q lt=>s q (fun e=>Ac r (l.kids j (by rw[<-l.lenk];exact f) f) (by decide) (by rw[lt,e]))),?_,C.low,⟨C.good.1,fun y hy=>?_⟩⟩
 ·obtain⟨b,w,e1,e2,e3,e4⟩:=k.cells j f;exact⟨b,w,e1,e2,(E.cell (p:=⟨b,w+j,T⟩) (show b<B from C.low.2 (by omega) _ e1)).trans e3,e4⟩
 ·have:=Ad (w':=i.setCell ⟨g,2,T⟩ (X (Y ⟨g7,0,T⟩) (L.length+1) c7)) v (fun q lt=>s q (fun e=>Ac r v (by decide) (by rw[lt,e])));rw[AaW,zB];exact this
 ·rcases zM.1 hy with h|h
  ·exact C.good.2 y h
  ·rw[zO.1 h];exact hx
section
theorem Ac9:(jL.info? 93).map (fun i=>(i.zero,i.size,i.bytes))=Y (Y (jE #[U V 0,Q jK,U V 0,U V 0]),4,40):=by kernel_rfl
theorem Ada:(jL.info? 130).map (fun i=>(i.zero,i.size,i.bytes))=Y (Y (jE #[Q jK,U V 0]),2,24):=by kernel_rfl
theorem Yx (L:List St)(s:St):En (L++[s])=En L++[U V s.kind,Q s.name,U V s.cond,U V s.grant]:=by simp[En]
def okR (t:jI):Prop:=t≠126/\t≠134/\t≠130/\t≠93/\t≠86
structure GY (B R:Nat) (w w':Z):Prop where
 low:Below B w w'
 rd:∀k cs t,okR t->k≠R->Ah w k cs t->Ah w' k cs t
theorem GY.keep {B R:Nat}{w b w2:Z}(h:GY B R w b)(d:Below B b w2)(hk:∀k a t,okR t->Ah b k a t->w2.heap[k]? =b.heap[k]?):GY B R w w2:=
 ⟨h.low.trans d,fun k a t c n r=>⟨(hk k a t c (h.rd k a t c n r)).trans (h.rd k a t c n r).out⟩⟩
theorem GY.below {B R:Nat}{w a w2:Z}(h:GY B R w a)(b:An a w2)(c:B<=a.heap.size):GY B R w w2:=
 h.keep (b.mono c) (fun k d t f r=>b.block k r.lt)
theorem GY.gk {B R:Nat}{a:Option jD}{n c:Nat}{zs:List Int}{wild:Bool}{p:Nat}{N:List Nd}{L:List (ByteArray×Int)}{nd i:jB}{w f w2:Z}(h:GY B R w f)(K:Gk B R g d nd f i w2)(G:Ka B R g a n c zs wild p N L nd d f):GY B R w w2:=by
 obtain⟨l,m,C⟩:=G;exact⟨h.low.trans K.low,fun k j t lt n r=>by
  have b:=h.rd k j t lt n r;exact⟨(K.block k b.lt (Bk b C.row lt.1) n (Ac b C.nodes.own lt.2.1) (Ac b C.lets lt.2.2.1)).trans b.out⟩⟩
structure PG (B R gb pb b0 sb:Nat) (a:Option jD) (n c:Nat) (zs:List Int) (wild:Bool) (p:Nat) (N:List Nd) (L:List (ByteArray×Int)) (nd lt:jB) (S:List St) (sv v0 v1 v2 v3:jB) (w w':Z):Prop where
 G:Ka B R gb a n c zs wild p N L nd lt w'
 P:PgO w' B pb S sv
 Zz:Ah w' b0 #[X T 0 0,X T 0 0] 86
 s:Ah w' sb #[v0,v1,v2,v3] 93
 bel:GY B R w w'
 far:sv.ownBlock≠Y sb/\B<=sb/\B<=pb/\b0≠pb
section
variable {B R gb pb b0 sb : Nat} {a : Option jD} {n c : Nat} {zs : List Int} {wild : Bool} {p : Nat} {N : List Nd} {L : List (ByteArray×Int)} {nd lt : jB} {S : List St} {sv v0 v1 v2 v3 : jB} {w w1 w2 : Z}
theorem PG.below (h:PG B R gb pb b0 sb a n c zs wild p N L nd lt S sv v0 v1 v2 v3 w w1)(b:An w1 w2):PG B R gb pb b0 sb a n c zs wild p N L nd lt S sv v0 v1 v2 v3 w w2:=
 ⟨h.G.below b,h.P.below b,h.Zz.after b NLN,h.s.after b NLN,h.bel.below b h.G.lt.1.1,h.far⟩
theorem PG.gk {q:Nat}{M:List Nd}{b:jB}(h:PG B R gb pb b0 sb a n c zs wild p N L nd lt S sv v0 v1 v2 v3 w w1)(G:Ka B R gb a n c zs wild q M L b lt w2)(K:Gk B R gb lt nd w1 b w2):PG B R gb pb b0 sb a n c zs wild q M L b lt S sv v0 v1 v2 v3 w w2:=
 ⟨G,h.P.gk K h.G,K.row h.G h.Zz (by decide) (by decide) (by decide) (by decide),K.row h.G h.s (by decide) (by decide) (by decide) (by decide),h.bel.gk K h.G,h.far⟩
theorem PG.touch {q:Nat}(h:PG B R gb pb b0 sb a n c zs wild p N L nd lt S sv v0 v1 v2 v3 w w1)(t:Al R (R+1) w1 w2)(b:KL w2 R a n c zs q):PG B R gb pb b0 sb a n c zs wild q N L nd lt S sv v0 v1 v2 v3 w w2:=
 h.gk (h.G.touch t b) (Gk.of_touch t h.G.lt.2.1.2 h.G.lt.1.2.2)
theorem PG.set {d f g i:jB}(h:PG B R gb pb b0 sb a n c zs wild p N L nd lt S sv v0 v1 v2 v3 w w1)(j:Nat)(u:jB)(hu: #[v0,v1,v2,v3].setIfInBounds j u= #[d,f,g,i]):PG B R gb pb b0 sb a n c zs wild p N L nd lt S sv d f g i w (w1.setCell ⟨sb,j,T⟩ u):=by
 have hs:∀q,q≠sb->(w1.setCell ⟨sb,j,T⟩ u).heap[q]? =w1.heap[q]? :=fun q b=>heap_setCell_other w1 ⟨sb,j,T⟩ q u b;have l:Below B w1 (w1.setCell ⟨sb,j,T⟩ u):=(Below.refl B w1).setCell (p:=⟨sb,j,T⟩) h.far.2.1 u;refine⟨h.G.others l 93 (fun q=>q=sb) (fun q b=> .inl ⟨#[v0,v1,v2,v3],by rw[b];exact h.s⟩) (by decide) (by decide) (by decide) (by decide) (by decide) (by decide) (fun q _ b=>hs q b),⟨⟨(hs pb (Bk h.P.row h.s (by decide))).trans h.P.row.out⟩,Ad h.P.st (fun q b=>hs q (fun e=>h.far.1 (by rw[b,e]))),h.P.good⟩,⟨(hs b0 (Bk h.Zz h.s (by decide))).trans h.Zz.out⟩,by have:=h.s.set j u;rw[hu]at this;exact this,h.bel.keep l (fun k o t m r=>hs k (Bk r h.s m.2.2.2.1)),h.far⟩
theorem PG.cells (h:PG B R gb pb b0 sb a n c zs wild p N L nd lt S sv v0 v1 v2 v3 w w1):(w1.cell? ⟨sb,0,T⟩=Y v0/\w1.cell? ⟨sb,1,T⟩=Y v1/\w1.cell? ⟨sb,2,T⟩=Y v2/\w1.cell? ⟨sb,3,T⟩=Y v3)/\(∀j,w1.frozen? ⟨sb,j,T⟩=false)/\(w1.cell? ⟨gb,1,T⟩=Y nd/\w1.cell? ⟨gb,2,T⟩=Y lt/\∀j,w1.frozen? ⟨gb,j,T⟩=false)/\(w1.cell? ⟨pb,0,T⟩=Y (X T 0 0)/\w1.cell? ⟨pb,1,T⟩=Y sv/\∀j,w1.frozen? ⟨pb,j,T⟩=false):=by
 obtain⟨b,d,C⟩:=h.G;exact⟨⟨h.s.cell 0,h.s.cell 1,h.s.cell 2,h.s.cell 3⟩,fun j=>h.s.frozen j,⟨C.row.cell 1,C.row.cell 2,fun j=>C.row.frozen j⟩,h.P.row.cell 0,h.P.row.cell 1,fun j=>h.P.row.frozen j⟩
theorem PG.pushS {i cd j:Int}{nm:ByteArray}{b:Z}{g7 c7:Nat}(h:PG B R gb pb b0 sb a n c zs wild p N L nd lt S sv v0 v1 v2 v3 w w1)(o:Obj)(x:nm.size<=1048576)(hg:(w1.alloc o).grownBy b sv.ownBlock)(l:b.ownsRow B 93 4 (X (Y ⟨g7,0,T⟩) (S.length+1) c7) (S.length+1) (En S++[U V i,Q nm,U V cd,U V j])):
  Ka B R gb a n c zs wild p N L nd lt (b.setCell ⟨pb,1,T⟩ (X (Y ⟨g7,0,T⟩) (S.length+1) c7))/\PgO (b.setCell ⟨pb,1,T⟩ (X (Y ⟨g7,0,T⟩) (S.length+1) c7)) B pb (S++[⟨i,nm,cd,j⟩]) (X (Y ⟨g7,0,T⟩) (S.length+1) c7)/\Ah (b.setCell ⟨pb,1,T⟩ (X (Y ⟨g7,0,T⟩) (S.length+1) c7)) b0 #[X T 0 0,X T 0 0] 86/\GY B R w (b.setCell ⟨pb,1,T⟩ (X (Y ⟨g7,0,T⟩) (S.length+1) c7)):=by
 have y:=h.G.lt.1.1;have z:=(Below.refl B w1).alloc y o;have m:Below B w1 b:=z.grown hg (by simp;omega) (fun q d=>(h.P.st.lt q d).1);have gk:=BJ hg;have A:=h.G.others m 93 (fun q=>sv.ownBlock=Y q) (fun q d=> .inr ⟨_,_,_,_,_,d,h.P.st⟩) (by decide) (by decide) (by decide) (by decide) (by decide) (by decide) (fun q h1 C=>gk q h1 C);have g:Ah b pb #[X T 0 0,sv] 86:=⟨(gk pb h.P.row.lt (Ac h.P.row h.P.st (by decide))).trans h.P.row.out⟩
 have D:Ah b b0 #[X T 0 0,X T 0 0] 86:=⟨(gk b0 h.Zz.lt (Ac h.Zz h.P.st (by decide))).trans h.Zz.out⟩
 have f:∀q,q≠pb->(b.setCell ⟨pb,1,T⟩ (X (Y ⟨g7,0,T⟩) (S.length+1) c7)).heap[q]? =b.heap[q]? :=fun q d=>heap_setCell_other b ⟨pb,1,T⟩ q _ d;have u:Below B b (b.setCell ⟨pb,1,T⟩ (X (Y ⟨g7,0,T⟩) (S.length+1) c7)):=(Below.refl B b).setCell (p:=⟨pb,1,T⟩) h.far.2.2.1 _;refine⟨A.others u 86 (fun q=>q=pb) (fun q d=> .inl ⟨#[X T 0 0,sv],by rw[d];exact g⟩) (by decide) (by decide) (by decide) (by decide) (by decide) (by decide) (fun q _ d=>f q d),⟨g.set 1 _,?_,fun s hs=>?_⟩,⟨(f b0 h.far.2.2.2).trans D.out⟩,h.bel.keep (m.trans u) (fun k E t v r=>(f k (Bk r h.P.row v.2.2.2.2)).trans (gk k r.lt (Ac r h.P.st v.2.2.2.1)))⟩
 ·rw[Yx,zB];exact Ad l (fun q d=>f q (fun e=>Ac g l (by decide) (by rw[d,e])))
 ·rcases zM.1 hs with hs|hs
  ·exact h.P.good s hs
  ·rw[zO.1 hs];exact x
theorem PG.pushL {d:Z}{g7 c7:Nat}(h:PG B R gb pb b0 sb a n c zs wild p N L nd lt S sv v0 v1 v2 v3 w w1)(o:Obj)(x:ByteArray×Int)(hx:x.1.size<=1000)(hg:(w1.alloc o).grownBy d lt.ownBlock)(u:d.ownsRow B 130 2 (X (Y ⟨g7,0,T⟩) (L.length+1) c7) (L.length+1) (SH L++[Q x.1,U V x.2])):
  PG B R gb pb b0 sb a n c zs wild p N (L++[x]) nd (X (Y ⟨g7,0,T⟩) (L.length+1) c7) S sv v0 v1 v2 v3 w (d.setCell ⟨gb,2,T⟩ (X (Y ⟨g7,0,T⟩) (L.length+1) c7)):=by
 have l:=h.G.lt.1.1;have v:=h.G.lt.2.1.1;obtain⟨y,z,C⟩:=h.G;have A:=(Below.refl B w1).alloc l o;have D:Below B w1 d:=A.grown hg (by simp;omega) (fun q f=>(C.lets.lt q f).1);have gk:=BJ hg;have g:∀q,q≠gb->(d.setCell ⟨gb,2,T⟩ (X (Y ⟨g7,0,T⟩) (L.length+1) c7)).heap[q]? =d.heap[q]? :=fun q f=>heap_setCell_other d ⟨gb,2,T⟩ q _ f;have i:∀{b:Nat} {j:Array jB} {t:jI},Ah w1 b j t->t≠126->t≠130->Ah (d.setCell ⟨gb,2,T⟩ (X (Y ⟨g7,0,T⟩) (L.length+1) c7)) b j t:=fun r h1 E=>⟨((g _ (Bk r C.row h1)).trans (gk _ r.lt (Ac r C.lets E))).trans r.out⟩
 have F:Below B d (d.setCell ⟨gb,2,T⟩ (X (Y ⟨g7,0,T⟩) (L.length+1) c7)):=(Below.refl B d).setCell (p:=⟨gb,2,T⟩) v _;exact⟨⟨y,z,C.pushL o x hx l hg u⟩,⟨i h.P.row (by decide) (by decide),Ad h.P.st (fun q f=>(g q (fun e=>Ac C.row h.P.st (by decide) (by rw[f,e]))).trans (gk q (h.P.st.lt q f).2 (fun e=>Ak h.P.st C.lets (by decide) q f e))),h.P.good⟩,i h.Zz (by decide) (by decide),i h.s (by decide) (by decide),h.bel.keep (D.trans F) (fun k j t m r=>(g k (Bk r C.row m.1)).trans (gk k r.lt (Ac r C.lets m.2.2.1))),h.far⟩
end
def LK (X:Z) (pb b0:Nat) (nd V:jB):Z:=((X.setCell ⟨pb,0,T⟩ nd).setCell ⟨b0,0,T⟩ nd).setCell ⟨b0,1,T⟩ V
theorem Ae4 {X w:Z}{B R x:Nat}{a:Option jD}{n c:Nat}{zs:List Int}{p:Nat}{N:List Nd}{L:List (ByteArray×Int)}{nd lt z:jB}{r:List jB}{wild:Bool}{S:List St}(C:Wn X B R x a n c zs p N L nd lt m r wild)(P:PgO X B g7 S f)(l:Ah X b #[y,z] 86)(E:Below B w X)(hp:B<=g7)(h0:B<=b):Ah (LK X g7 b nd f) b #[nd,f] 86/\Du (LK X g7 b nd f) B nd N m r/\(LK X g7 b nd f).ownsRow B 93 4 f S.length (En S)/\Below B w (LK X g7 b nd f):=by
 have A:∀q,q≠g7->q≠b->(LK X g7 b nd f).heap[q]? =X.heap[q]? :=fun q h1 s=>by
  unfold LK;rw[heap_setCell_other _ _ q _ s,heap_setCell_other _ _ q _ s,heap_setCell_other _ _ q _ h1]
 have i:∀{t size k:Nat} {v:jB} {D:List jB},X.ownsRow B t size v k D->86≠t->∀q,v.ownBlock=Y q->(LK X g7 b nd f).heap[q]? =X.heap[q]? :=fun o u q g=>A q (fun e=>Ac P.row o u (by rw[g,e])) (fun e=>Ac l o u (by rw[g,e]));refine⟨?_,C.nodes.upto (fun q g=>i C.nodes.own (by decide) q g) (fun j h q g=>i (C.nodes.names j (by rw[<-C.nodes.len];exact h) h) (by decide) q g) (fun j h q g=>i (C.nodes.kids j (by rw[<-C.nodes.lenk];exact h) h) (by decide) q g),Ad P.st (fun q g=>i P.st (by decide) q g),((E.setCell (p:=⟨g7,0,T⟩) hp nd).setCell (p:=⟨b,0,T⟩) h0 nd).setCell (p:=⟨b,1,T⟩) h0 f⟩;unfold LK;by_cases e:b=g7
 ·subst e;have:=((l.set 0 nd).set 0 nd).set 1 f;exact this
 ·have:=((l.setFar (p:=⟨g7,0,T⟩) e nd).set 0 nd).set 1 f;exact this
theorem Wv {X w:Z}{B R m:Nat}{a:Option jD}{n c:Nat}{zs:List Int}{p:Nat}{N:List Nd}{L:List (ByteArray×Int)}{nd lt o s:jB}{h i:List jB}{wild:Bool}{S:List St}(C:Wn X B R m a n c zs p N L nd lt h i wild)(P:PgO X B g7 S f)(j:Ah X b #[o,s] 86)(E:GY B R w X)(hp:B<=g7)(h0:B<=b):Ah (LK X g7 b nd f) b #[nd,f] 86/\Du (LK X g7 b nd f) B nd N h i/\(LK X g7 b nd f).ownsRow B 93 4 f S.length (En S)/\GY B R w (LK X g7 b nd f):=by
 obtain⟨h1,g,u,-⟩:=Ae4 C P j E.low hp h0;have v:∀q,q≠g7->q≠b->(LK X g7 b nd f).heap[q]? =X.heap[q]? :=fun q h1 g=>by
  unfold LK;rw[heap_setCell_other _ _ q _ g,heap_setCell_other _ _ q _ g,heap_setCell_other _ _ q _ h1]
 have x:Below B X (LK X g7 b nd f):=(((Below.refl B X).setCell (p:=⟨g7,0,T⟩) hp nd).setCell (p:=⟨b,0,T⟩) h0 nd).setCell (p:=⟨b,1,T⟩) h0 f;exact⟨h1,g,u,E.keep x (fun k y t l r=>v k (Bk r P.row l.2.2.2.2) (Bk r j l.2.2.2.2))⟩
theorem Adc {f:Func}{a:Tmp}(h:f.results= #[.cell a 86]){w:Z}{b:Nat}{c:jB}(g:tmps.getD a undef= .pointer (Y ⟨b,0,T⟩))
  (R:Ah w b #[c,d] 86):(results f tmps).run jL w= .ok (jE #[c,d]) w:=by
 rw[yH]at g;have i:w.cell? ⟨b,0,T⟩=Y c:=R.cell 0;have j:w.cell? ⟨b,1,T⟩=Y d:=R.cell 1;simp[results,h,g,go_sem,i,j]
end
def OtT (w:Z) (o:Option Ex) (a:Option jD) (n:Nat):Prop:=match o with
 |none=>n=0
 |some e=>n=1/\∃k,AO w a [k]/\Tq w e k
theorem LV.t {w:Z}{o:Option Ex}{a:Option jD}{n:Nat}(h:LV wz lo hi w o a n):OtT w o a n:=by
 cases o with
 |none=>exact h
 |some e=>obtain⟨h1,_,k,b,c⟩:=h;exact⟨h1,k,b,Tl.tq c⟩
theorem OtT.below {w w':Z}{B:Nat}{o:Option Ex}{a:Option jD}{n:Nat}(h:OtT w o a n)(b:Below B w w')(c:w.heap.size<=B):OtT w' o a n:=by
 cases o with
 |none=>exact h
 |some e=>obtain⟨h1,k,d,f⟩:=h;exact⟨h1,k,d.below b c,f.below b c⟩
def StT (w:Z) (s:S5) (q:Sx×Int):Prop:=s.kind=q.1.kind/\s.name=q.1.name/\s.n=q.2/\OtT w q.1.cond s.ca s.cn/\OtT w q.1.grant s.ga s.gn
theorem StT.below {w w':Z}{B:Nat}{s:S5}{q:Sx×Int}(h:StT w s q)(a:Below B w w')(b:w.heap.size<=B):StT w' s q:=⟨h.1,h.2.1,h.2.2.1,h.2.2.2.1.below a b,h.2.2.2.2.below a b⟩
def Xe (w:Z) (a:Option jD) (ss:List S5):Prop:=∀j,(h:j<ss.length)->∃b off,a=Y ⟨b,off,T⟩/\b<w.heap.size/\∀r,r<5->w.cell? ⟨b,off+j*5+r,T⟩=(ss[j].cs)[r]?
theorem Xe.below {w w':Z}{B:Nat}{a:Option jD}(h:Xe w a ss)(c:Below B w w')(l:w.heap.size<=B):Xe w' a ss:=fun j f=>by
 obtain⟨b,d,h1,g,i⟩:=h j f;exact⟨b,d,h1,zR g c.size,fun r k=>(c.cell (p:=⟨b,d+j*5+r,T⟩) (by show b<B;omega)).trans (i r k)⟩
theorem Xf (a:List S5)(j:Nat)(h:j<a.length):∀r,r<5->(a.flatMap S5.cs)[j*5+r]? =(a[j].cs)[r]? :=by
 induction a generalizing j with
 |nil=>simp at h
 |cons k a c=>
  intro r d;have b:k.cs.length=5:=rfl;cases j with
  |zero=>
   rw[zm,z2 (by rw[b];omega)];simp
  |succ j=>
   rw[zm,z8 (by rw[b];omega),b,show(j+1)*5+r-5=j*5+r by omega,c j (by simpa using h) r d];simp
theorem NZ:∀(a:List S5),(a.flatMap S5.cs).length=a.length*5
 |[]=>rfl
 |k ::a=>by
  have b:k.cs.length=5:=rfl;rw[zm,zB,NZ a,b,List.length_cons];omega
theorem ZW {w:Z}{B:Nat}{a:Option jD}{m c:Nat}(h:w.ownsRow B 99 5 (X a m c) m (ss.flatMap S5.cs))(f:ss.length=m):Xe w a ss:=fun j b=>by
 obtain⟨x,c,e,hx⟩:=Ae h;cases e;obtain⟨g,rfl,_,hc⟩:=hx (by omega);refine⟨g,0,rfl,(h.lt g rfl).2,fun r d=>?_⟩;have q:=Xf ss j b r d;cases hu:(ss[j].cs)[r]? with
 |none=>
  have:(ss[j].cs).length=5:=rfl;rw[List.getElem?_eq_none_iff]at hu;omega
 |some u=>
  rw[hu]at q;have:=hc _ u q;rw[zP];exact this
theorem MT {w:Z}{a:Option jD}(h:Xe w a ss){j:Nat}(b:j<ss.length):∃g o,a=Y ⟨g,o,T⟩/\g<w.heap.size/\w.cell? ⟨g,o+j*5,T⟩=Y (U V ss[j].kind)/\w.cell? ⟨g,o+j*5+1,T⟩=Y (Q ss[j].name)/\w.cell? ⟨g,o+j*5+2,T⟩=Y (U V ss[j].n)/\w.cell? ⟨g,o+j*5+3,T⟩=Y (X ss[j].ca ss[j].cn ss[j].cc)/\w.cell? ⟨g,o+j*5+4,T⟩=Y (X ss[j].ga ss[j].gn ss[j].gc):=by
 obtain⟨g,o,e,hg,hc⟩:=h j b;exact⟨g,o,e,hg,hc 0 (by decide),hc 1 (by decide),hc 2 (by decide),hc 3 (by decide),hc 4 (by decide)⟩
structure ZV (w:Z) (a:Option jD) (n:Nat) (ss:List S5) (D:List (Sx×Int)):Prop where
 len:ss.length=n
 lenD:D.length=n
 rows:Xe w a ss
 each:∀j,(h1:j<ss.length)->(h2:j<D.length)->StT w ss[j] D[j]
theorem ZV.below {w w':Z}{B:Nat}{a:Option jD}{n:Nat}{ss:List S5}{b:List (Sx×Int)}(h:ZV w a n ss b)(c:Below B w w')(d:w.heap.size<=B):ZV w' a n ss b:=
 ⟨h.len,h.lenD,h.rows.below c d,fun j h1 f=>(h.each j h1 f).below c d⟩
theorem ZV.nil (w:Z):ZV w T 0 [] []:=⟨rfl,rfl,fun j h=>absurd h (by simp),fun j h=>absurd h (by simp)⟩
theorem ZV.cons {w:Z}{B:Nat}{b:Option jD}{n n' c':Nat}{a:List (Sx×Int)}{s:S5}{q:Sx×Int}(c:ss.length=n)(hd:a.length=n)(he:∀j,(h1:j<ss.length)->(d:j<a.length)->StT w ss[j] a[j])(hs:StT w s q)(f:n'=n+1)(O:w.ownsRow B 99 5 (X b n' c') n' (s.cs++ss.flatMap S5.cs)):ZV w b n' (s ::ss) (q ::a):=by
 subst f;refine⟨by simp[c],by simp[hd],ZW (by rw[zm];exact O) (by simp[c]),fun j h1 d=>?_⟩;cases j with
 |zero=>exact hs
 |succ j=>exact he j (by simpa using h1) (by simpa using d)
theorem Xe.news {w:Z}{g a:Nat}(h:Xe w (Y ⟨g,a,T⟩) ss):∀j u,(ss.flatMap S5.cs)[j]? =Y u->w.cell? ((⟨g,a,T⟩:jD).add j)=Y u:=fun j u hu=>by
 have d:=(zZ.1 hu).1;rw[NZ]at d;have c:j / 5<ss.length:=by omega
 obtain⟨b,o,e,_,hc⟩:=h (j / 5) c;simp only[Option.some.injEq,Addr.mk.injEq]at e;obtain⟨rfl,rfl,_⟩:=e;have e2:(⟨g,a,T⟩:jD).add j=⟨g,a+j / 5*5+j % 5,T⟩:=by
  have:(⟨g,a,T⟩:jD).add j=⟨g,a+j,T⟩:=by by_cases e:j=0<;>simp[Addr.add,e]
  rw[this,show a+j / 5*5+j % 5=a+j by omega]
 rw[e2,hc (j % 5) (by omega),<-Xf ss (j / 5) c (j % 5) (by omega),<-hu]
 congr 1
 omega
theorem AgH (ss:List S5):∀u∈ss.flatMap S5.cs,u.oneCell'=true:=fun u hu=>by
 obtain⟨s,_,h⟩:=Z2.1 hu;simp[S5.cs]at h;rcases h with rfl|rfl|rfl|rfl|rfl<;>rfl
def UO:Option Ex->Prop
 |none=>True
 |some e=>Bi e=true
set_option maxRecDepth 100000
theorem Ld {ops:Array Oper}{rest:List Oper}{o:Oper}{b:Act}{Q:Exit->Act->Z->Prop}{w:Z}(g:o.guard=T)(s x:Operand)(j:o.op= .call { callee:= .builtin .append,args:=#[s,x],argTypes:=#[42,42] })(base:Nat)(v:jB)(k:Nat)(d:List jB)(hs:b.eval s=v)(f:w.ownsRow base 9 1 v k d)(a:Option jD)(n c c2:Nat)(ss:List ByteArray)(hx:b.eval x=X a n c)(h:AJ w a n c2 ss)(hk:k+n<=1048576)(l:base<=w.heap.size)
  (m:∀v' w',w'.ownsRow base 9 1 v' (k+n) (d++ss.map Value.string)->Below base w w'->wpList jL ops Q rest (b.put o.dst v') w'):wpList jL ops Q (o ::rest) b w:=by
 obtain⟨i,hi,p,r,t⟩:=info_parts JH;cases a with
 |none=>
  have h0:n=0:=by
   rcases Nat.eq_zero_or_pos n with q|q
   ·exact q
   ·obtain⟨D,E,y,_⟩:=h.cells 0 q;cases y
  subst h0;obtain rfl:ss=[]:=zj h.len.symm;exact Bg g s x 42 j base 9 i 1 c underlying42 hi v k d hs f hx (m v w (by simpa using f) BRN)
 |some z=>
  refine wpList_append_own w g s x 42 j base 9 i (.string jK) 1 16 underlying42 hi p r t rfl (by decide) v k d hs f z n c (ss.map Value.string) hx ?_ (AJ.newsG h) ?_ ?_ ?_ l ?_
  ·rw[zU,h.len];omega
  ·intro u hu;obtain⟨s,_,rfl⟩:=zn.1 hu;rfl
  ·unfold maxLen;omega
  ·omega
  ·intro v' w' A B _;exact m v' w' A (BRN.grown B l (fun q C=>(f.lt q C).1))
def Dk:List (Nat->List Nd)->Nat->List Nd×List Int
 |[],_=>([],[])
 |f ::fs,b=>(f b++(Dk fs (b+(f b).length)).1,(((b+(f b).length:Nat):Int)-1) ::(Dk fs (b+(f b).length)).2)
theorem TW (f:Nat->List Nd):∀(a:List (Nat->List Nd)) (b:Nat),Dk (a++[f]) b=((Dk a b).1++f (b+(Dk a b).1.length),(Dk a b).2++[((b+(Dk a b).1.length+(f (b+(Dk a b).1.length)).length:Nat):Int)-1])
 |[],b=>by simp[Dk]
 |g ::a,b=>by
  rw[List.cons_append,Dk,TW f a,Dk];simp only[zJ,zB,List.cons_append,Z1]
theorem Xb:∀(a:List (Nat->List Nd)) (b:Nat),(Dk a b).2.length=a.length
 |[],b=>rfl
 |g ::a,b=>by rw[Dk];simp[Xb a]
theorem TX:∀(a:List (Nat->List Nd)) (b j:Nat),(Dk (a.take j) b).1.length<=(Dk a b).1.length
 |[],b,j=>by simp[Dk]
 |g ::a,b,0=>by simp[Dk]
 |g ::a,b,j+1=>by
  rw[List.take_succ_cons,Dk,Dk];simp only[zB];have:=TX a (b+(g b).length) j;omega
structure Pk (B:Nat) (v:jB) (w:Z) (v':jB) (w':Z):Prop where
 low:Below B w w'
 block:∀k,k<w.heap.size->v.ownBlock≠Y k->w'.heap[k]? =w.heap[k]?
 new:∀q,v'.ownBlock=Y q->v.ownBlock=Y q\/w.heap.size<=q
theorem Pk.trans {B:Nat}{v a b:jB}{w c w2:Z}(h:Pk B v w a c)(k:Pk B a c b w2):Pk B v w b w2:=by
 have f:=h.low.size;refine⟨h.low.trans k.low,fun q h1 d=>?_,fun q g=>?_⟩
 ·refine(k.block q (zR h1 f) (fun e=>?_)).trans (h.block q h1 d);rcases h.new q e with e|e
  ·exact d e
  ·omega
 ·rcases k.new q g with e|e
  ·exact h.new q e
  ·exact .inr (by omega)
theorem Pk.of_all {B:Nat}{w w':Z}(h:An w w')(a:B<=w.heap.size):Pk B v w v w':=
 ⟨h.mono a,fun k h1 _=>h.block k h1,fun q b=> .inl b⟩
theorem Pk.row {B:Nat}{v':jB}{w w':Z}{N:List Nd}{b c:List jB}(h:Pk B v w v' w')(C:Du w B v N b c){g:Nat}{a:Array jB}{t:jI}(R:Ah w g a t)(d:t≠134):Ah w' g a t:=
 ⟨(h.block g R.lt (Ac R C.own d)).trans R.out⟩
def PuO (B:Nat) (N:List Nd) (v:jB) (nv kv:List jB) (M:List Nd) (w:Z) (r:Ending) (w':Z):Prop:=
 ∃v' nv' kv',r= .returned v'/\Du w' B v' (N++M) (nv++nv') (kv++kv')/\Pk B v w v' w'/\(∀j,(hj:j<nv'.length)->∀q,nv'[j].ownBlock=Y q->w.heap.size<=q)/\∀j,(hj:j<kv'.length)->∀q,kv'[j].ownBlock=Y q->w.heap.size<=q
theorem Pk.kepQ {B:Nat}{v':jB}{w w':Z}{N:List Nd}{a c:List jB}(h:Pk B v w v' w')(C:Du w B v N a c)(d:wz.heap.size<=B)(hv:∀q,v.ownBlock=Y q->q<lo\/hi<=q):Cp wz lo hi w w':=
 ⟨h.low.size,fun b f hs=>h.block b hs (fun e=>by have:=(C.lts.1 b e).1;have:=hv b e;omega),fun b g r=>h.row C r (by decide)⟩
def PuV (wz:Z) (lo hi B:Nat) (w0:Z) (k:K5) (f:Nat->List Nd):Prop:=
 ∀(N:List Nd) (v:jB) (nv kv:List jB) (w:Z),Cp wz lo hi w0 w->hi<=w.heap.size->(∀q,v.ownBlock=Y q->q<lo\/hi<=q)->Du w B v N nv kv->B<=w.heap.size->N.length+(f N.length).length<=65535->Calls jL 50 #[jE #[U V k.op,U V k.num,Q k.text,X k.an k.nn k.cn,X k.ka k.kn k.kc],v] w (PuO B N v nv kv (f N.length) w)
structure Kq (B tb nb:Nat) (w:Z) (v:jB) (tc:Array jB) (x0 x1 x2 u:jB) (ss:List ByteArray) (N:List Nd) (v1:jB) (nv kv:List jB) (kw:jB) (ks:List Int) (w2:Z):Prop where
 C:Du w2 B v1 N nv kv
 K:Pk B v w v1 w2
 Tt:Ah w2 tb tc 101
 Rr:Ah w2 nb #[x0,x1,x2,u,kw] 134
 Uu:w2.ownsRow w.heap.size 9 1 u ss.length (ss.map Value.string)
 O:w2.ownsRow w.heap.size 3 1 kw ks.length (Aw ks)
 apu:∀q,u.ownBlock=Y q->∀j,(hj:j<nv.length)->nv[j].ownBlock≠Y q
 apk:∀q,kw.ownBlock=Y q->∀j,(hj:j<kv.length)->kv[j].ownBlock≠Y q
 hv:∀q,v1.ownBlock=Y q->q≠nb
theorem Kq.below {B c d:Nat}{w:Z}{f:Array jB}{g i j:jB}{ss:List ByteArray}{N:List Nd}{l:jB}{n:List jB}{o:jB}{p:List Int}{w2:Z}(h:Kq B c d w v f g i j u ss N l m n o p w2)(a:An w2 r)(s:B<=w2.heap.size):Kq B c d w v f g i j u ss N l m n o p r:=
 ⟨h.C.blocks (fun k _ hk=>a.block k hk),h.K.trans (Pk.of_all a s),h.Tt.after a NLN,h.Rr.after a NLN,Ad h.Uu (fun q b=>a.block q (h.Uu.lt q b).2),Ad h.O (fun q b=>a.block q (h.O.lt q b).2),h.apu,h.apk,h.hv⟩
theorem Kq.call {B o f:Nat}{w:Z}{p:Array jB}{r s t:jB}{ss:List ByteArray}{N M:List Nd}{x m:jB}{g i k l:List jB}{y:jB}{z:List Int}{w2 n:Z}(h:Kq B o f w v p r s t u ss N x g i y z w2)
  (A:Du n B m (N++M) (g++k) (i++l))(b:Pk B x w2 m n)(D:∀j,(c:j<k.length)->∀q,k[j].ownBlock=Y q->w2.heap.size<=q)(E:∀j,(c:j<l.length)->∀q,l[j].ownBlock=Y q->w2.heap.size<=q):
  Kq B o f w v p r s t u ss (N++M) m (g++k) (i++l) y z n:=by
 refine⟨A,h.K.trans b,b.row h.C h.Tt (by decide),⟨(b.block f h.Rr.lt (fun e=>h.hv f e rfl)).trans h.Rr.out⟩,Ad h.Uu (fun q a=>b.block q (h.Uu.lt q a).2 (fun e=>Ak h.Uu h.C.own (by decide) q a e)),Ad h.O (fun q a=>b.block q (h.O.lt q a).2 (fun e=>Ak h.O h.C.own (by decide) q a e)),fun q a j c e=>?_,fun q a j c e=>?_,fun q a=>?_⟩
 ·by_cases d:j<g.length
  ·rw[zi d]at e;exact h.apu q a j d e
  ·rw[yE (by omega)]at e;have:=D _ (by simp at c;omega) q e;have:=(h.Uu.lt q a).2;omega
 ·by_cases d:j<i.length
  ·rw[zi d]at e;exact h.apk q a j d e
  ·rw[yE (by omega)]at e;have:=E _ (by simp at c;omega) q e;have:=(h.O.lt q a).2;omega
 ·rcases b.new q a with e|e
  ·exact h.hv q e
  ·have:=h.Rr.lt;omega
theorem Kq.app {B m c:Nat}{w:Z}{x:Array jB}{s t:jB}{ss:List ByteArray}{N:List Nd}{y:jB}{z A:List jB}{i:jB}{g:List Int}{w2 f:Z}{a:Int}{cap:Nat}(h:Kq B m c w v x d s t u ss N y z A i g w2)(J:B<=w.heap.size)(S:w.heap.size<=c)
  (F:f.ownsRow w.heap.size 3 1 (X (Y ⟨g7,0,T⟩) (g.length+1) cap) (g.length+1) (Aw g++[U V a]))(hg:(w2.alloc o).grownBy f i.ownBlock)(hat:i.ownBlock=Y g7\/g7=w2.heap.size+1):
  Ah f c #[d,s,t,u,i] 134/\Kq B m c w v x d s t u ss N y z A (X (Y ⟨g7,0,T⟩) (g.length+1) cap) (g++[a]) (f.setCell ⟨c,4,T⟩ (X (Y ⟨g7,0,T⟩) (g.length+1) cap)):=by
 have L:=h.K.low.size;have G:(w2.alloc o).heap.size=w2.heap.size+1:=by simp
 have hk:∀q,q<w2.heap.size->i.ownBlock≠Y q->f.heap[q]? =w2.heap[q]? :=fun q h1 D=>(hg.block q (by rw[G];omega) (fun e=>D e.symm)).trans (Below.heap_alloc w2 o q h1);have k:Ah f c #[d,s,t,u,i] 134:=⟨(hk c h.Rr.lt (Ac h.Rr h.O (by decide))).trans h.Rr.out⟩
 have l:∀q,q≠c->(f.setCell ⟨c,4,T⟩ (X (Y ⟨g7,0,T⟩) (g.length+1) cap)).heap[q]? =f.heap[q]? :=fun q b=>heap_setCell_other f ⟨c,4,T⟩ q _ b;have C:=h.C;have M:Ah f m x 101:=⟨(hk m h.Tt.lt (Ac h.Tt h.O (by decide))).trans h.Tt.out⟩
 have P:m≠c:=fun e=>by
  have H:=h.Tt.out;have E:=h.Rr.out;rw[e]at H;rw[H]at E;simp only[Option.some.injEq,Obj.cells.injEq]at E;exact absurd E.2.1 (by decide)
 have n:Du f B y N z A:=C.upto (fun q b=>hk q (C.lts.1 q b).2 (fun e=>Ak h.O C.own (by decide) q e b)) (fun j r q b=>hk q (C.lts.2.1 j r q b).2 (fun e=>Ak h.O (C.names j (by rw[<-C.len];exact r) r) (by decide) q e b)) (fun j r q b=>hk q (C.lts.2.2 j r q b).2 (fun e=>h.apk q e j r b));have I:=Ad (w':=f) h.Uu (fun q b=>hk q (h.Uu.lt q b).2 (fun e=>Ak h.O h.Uu (by decide) q e b));refine⟨k,n.upto (fun q b=>l q (h.hv q b)) (fun j r q b=>l q (fun e=>Ac k (n.names j (by rw[<-n.len];exact r) r) (by decide) (by rw[b,e]))) (fun j r q b=>l q (fun e=>Ac k (n.kids j (by rw[<-n.lenk];exact r) r) (by decide) (by rw[b,e]))),⟨?_,fun q h1 D=>?_,h.K.new⟩,M.setFar (p:=⟨c,4,T⟩) P _,k.set 4 _,Ad I (fun q b=>l q (fun e=>Ac k I (by decide) (by rw[b,e]))),?_,h.apu,fun q b=>?_,h.hv⟩
 ·exact((h.K.low.alloc (zC J L) o).grown hg (by rw[G];omega) (fun q b=>by have:=(h.O.lt q b).1;omega)).setCell (p:=⟨c,4,T⟩) (by show B<=c;omega) _
 ·exact(l q (by omega)).trans ((hk q (by omega) (fun e=>by have:=(h.O.lt q e).1;omega)).trans (h.K.block q h1 D))
 ·have:=Ad (w':=f.setCell ⟨c,4,T⟩ (X (Y ⟨g7,0,T⟩) (g.length+1) cap)) F (fun q b=>l q (fun e=>Ac k F (by decide) (by rw[b,e])));rw[zB];simpa[Aw]using this
 ·have e:g7=q:=by simpa[Value.ownBlock]using b
  subst e;rcases hat with e|e
  ·exact h.apk g7 e
  ·exact fun j r e'=>by have:=(C.lts.2.2 j r g7 e').2;omega
set_option maxHeartbeats 3200000
theorem MS (wz:Z)(lo hi B:Nat)(bH:wz.heap.size<=B)(w0:Z)(op num:Int)(text:ByteArray)(an:Option jD)(nn cn:Nat)(ka:Option jD)(m kc:Nat)(P:List K5)(aT:AO w0 ka P)(aU: 0<m->∀b o,ka=Y ⟨b,o,T⟩->b<wz.heap.size\/(lo<=b/\b<hi))(aV:P.length=m)(cu:m<=3)(aW:Nat)(ss:List ByteArray)(aX:∀aY,Cp wz lo hi w0 aY->AJ aY an nn aW ss)(aZ:nn=ss.length)(hs:nn<=1048576)(c:List (Nat->List Nd))(a0:c.length=m)
  (a1:∀j,(h:j<P.length)->(au:j<c.length)->PuV wz lo hi B w0 P[j] c[j]):
  PuV wz lo hi B w0 ⟨op,num,text,an,nn,cn,ka,m,kc⟩ (fun b=>(Dk c b).1++[⟨op,num,text,ss,(Dk c b).2⟩]):=by
 intro N v z A w av cv a2 ab ac aw;simp only[zB,zg]at aw;obtain⟨bI,bJ,bK,bL,bM⟩:=info_parts Ym;obtain⟨bN,bO,bP,bQ,bR⟩:=info_parts Mi;have ax:=AN w (Bs op num text an nn cn ka m kc);have ad:=ax.alloc ax.size (EV op num text T 0 0 T 0 0);have ay:=(Ah.new w #[U V op,U V num,Q text,.slice an nn cn,.slice ka m kc] 101).alloc (EV op num text T 0 0 T 0 0);have af:=Ah.new (w.alloc (Bs op num text an nn cn ka m kc)) #[U V op,U V num,Q text,.slice T 0 0,.slice T 0 0] 134;simp only[World.size_alloc]at af;have a3:=(aX w av).below ad NLN;have a4:=Ab a2;have bS:=Ab ab;have bT:=Ab aU;have bU:∃ag,ag=(w.alloc (Bs op num text an nn cn ka m kc)).alloc (EV op num text T 0 0 T 0 0):=⟨_,rfl⟩
 have bV:=Ab aT;have bW:=Ab aV;have az:=Ab a0;have bX:=Ab a1;have bY:=Ab av;have a5:=Ab aw;have bZ:=Ab aZ;clear aT aV a0 a1 av aX aw aZ ax a2 aU;go_enter func50,ntmps50
 go_wp2_with (at_builtin;refine Ld rfl _ _ rfl _ _ 0 [] rfl (World.ownsRow_nil _ (w.heap.size+1+1) _ _) an nn cn aW ss rfl a3 (by omega) (by simp) ?_)
 intro cw D S W;obtain⟨ag,aA⟩:=bU;have a6:ag.heap.size=w.heap.size+1+1:=by rw[aA];simp
 rw[<-aA]at ay af ad W;clear aA a3;rw[<-a6]at W S;obtain⟨l,n,rfl,_⟩:=Ae S;have ah:=af.after W NLN;have aB:=ad.trans (W.mono ad.size);have aC:Kq B w.heap.size (w.heap.size+1) w v #[U V op,U V num,Q text,.slice an nn cn,.slice ka m kc] (U V op) (U V num) (Q text) (.slice l nn n) ss N v z A (.slice T 0 0) [] (D.setCell ⟨w.heap.size+1,3,T⟩ (.slice l nn n)):=by
  have b0:=ay.after W NLN;have a7:∀q,q≠w.heap.size+1->(D.setCell ⟨w.heap.size+1,3,T⟩ (.slice l nn n)).heap[q]? =D.heap[q]? :=fun q a=>heap_setCell_other D ⟨w.heap.size+1,3,T⟩ q _ a;have a8:∀q,q<w.heap.size->(D.setCell ⟨w.heap.size+1,3,T⟩ (.slice l nn n)).heap[q]? =w.heap[q]? :=fun q a=>(a7 q (by omega)).trans (aB.block q a);refine⟨ab.blocks (fun k _ hk=>a8 k hk),⟨(aB.mono ac).setCell (p:=⟨w.heap.size+1,3,T⟩) (by show B<=w.heap.size+1;omega) _,fun k h1 _=>a8 k h1,fun q a=> .inl a⟩,b0.setFar (p:=⟨w.heap.size+1,3,T⟩) (by show w.heap.size≠w.heap.size+1;omega) _,ah.set 3 _,?_,World.ownsRow_nil _ _ _ _,fun q a j s e=>?_,fun q a=>(by cases a),fun q a=>?_⟩
  ·have q:=Fv S (show w.heap.size<=ag.heap.size by omega);have b1:=Ad (w':=D.setCell ⟨w.heap.size+1,3,T⟩ (.slice l nn n)) q (fun q a=>a7 q (by have:=(S.lt q a).1;omega));rw[<-Aa bZ];simpa using b1
  ·have h1:=(ab.lts.2.1 j s q e).2;have au:=(S.lt q a).1;omega
  ·have:=(ab.lts.1 q a).2;omega
 obtain⟨m0,ai,aj,ak,al⟩:=DM ah;have b2:=fun k=>ah.frozen k;obtain⟨b3,b4,b5,b6,b7⟩:=DM aC.Tt;clear ay af ad W S ah aB ab;go_wp2_with fail
 generalize D.setCell ⟨w.heap.size+1,3,T⟩ (.slice l nn n)=cy at aC b3 b4 b5 b6 b7|-;clear m0 ai aj ak al b2 a6;go_loopw [1,24] (fun nd i wr=>∃ (j:Nat) (a9:jB) (M:List Nd) (d:List Int) (E F:List jB),j<=m/\i=U V j/\Hid (Dk (c.take j) N.length=(M,d))/\Kq B w.heap.size (w.heap.size+1) w v #[U V op,U V num,Q text,.slice an nn cn,.slice ka m kc] (U V op) (U V num) (Q text) (.slice l nn n) ss (N++M) nd (z++E) (A++F) a9 d wr/\(∀j,(s:j<E.length)->∀q,E[j].ownBlock=Y q->w.heap.size<=q)/\∀j,(s:j<F.length)->∀q,F[j].ownBlock=Y q->w.heap.size<=q) (fun _ i _=>m-(intOf i).toNat)
 case atStart=>exact⟨0,_,[],[],[],[],zE _,rfl,Ab rfl,by simpa using aC,fun j s=>absurd s (by simp),fun j s=>absurd s (by simp)⟩
 case round=>
  obtain⟨j,a9,M,d,E,F,s,rfl,aD,X,aE,aF⟩:=hrel;obtain⟨G,H,rfl,_⟩:=Ae X.O;have zW:=X.K.low.size;have aG:B<=wr.heap.size:=zC ac zW;by_cases ao:j<m
  ·have cz:(j:Int)<(m:Int):=by omega
   have aH:j<P.length:=by rw[Aa bW];exact ao
   have aI:j<c.length:=by rw[Aa az];exact ao
   have ap:Cp wz lo hi w0 wr:=(Aa bY).trans (X.K.kepQ (Aa bS) bH (Aa a4));have ba:∀q,u1.ownBlock=Y q->q<lo\/hi<=q:=fun q a=>(X.K.new q a).elim (Aa a4 q) (fun h=> .inr (by omega));obtain⟨g,cA,rfl,hg,bb⟩:=Bp (Gw ap.1 (Aa bV) (fun b o e b8=>ap.2.1 b (Aa bT (by omega) b o e) b8)) (by omega);obtain⟨c0,c1,c2,c3,c4⟩:=bb j aH;have aJ:=Ab (Aa bX j aH aI);have aK:Dk (c.take (j+1)) N.length=(M++c[j] (N.length+M.length),d++[((N.length+M.length+(c[j] (N.length+M.length)).length:Nat):Int)-1]):=by rw[zc aI,TW,Aa aD]
   have bc:(N++M).length+(c[j] (N++M).length).length<=65535:=by
    have q:=TX c N.length (j+1);rw[aK]at q;simp only[zB]at q|-;have:=Aa a5;omega
   have bd:=Ab aK;have aL:=Ab bc;have bf:=Ab ao;have bg:=Ab (show d.length<=3 by have:=Xb (c.take j) N.length;rw[Aa aD]at this;simp at this;have:=Aa az;omega);generalize P[j]=k at c0 c1 c2 c3 c4 aJ;generalize c[j]=f at aJ bd aL;obtain⟨bh,bi,bj,bk,bl,bm,bn,bo,bp⟩:=k;dsimp only at c0 c1 c2 c3 c4;have t:=AN wr (Bs bh bi bj bk bl bm bn bo bp);have br:=Ab (X.below t aG);have b9:=Ab (ap.trans (Cp.of_below t));have ca:=Ab ba;have cb:hi<=(wr.alloc (Bs bh bi bj bk bl bm bn bo bp)).heap.size:=by have:=t.size;omega
   have cc:=zC aG t.size;clear ao aH aI bb ap aK bc X t ba;go_wp2_with fail
   refine(Aa aJ (N++M) _ (z++E) (A++F) _ (Aa b9) cb (Aa ca) (Aa br).C cc (Aa aL)).mono ?_;rintro r aM ⟨cB,cd,ce,rfl,bs,bt,aN,aO⟩;have I:=(Aa br).call bs bt aN aO;obtain⟨L,y⟩:∃L,L=(N++M++f (N++M).length).length:=⟨_,rfl⟩
   obtain⟨cC,cD,ae,_⟩:=Ae I.C.own;rw[<-y]at ae;subst ae;have cf:L<=65535:=by rw[y,zB];exact Aa aL
   have aP:=Ab y;have cE:w.heap.size<=aM.heap.size:=I.K.low.size;have bu:=Ab I;have aa:=World.ownsRow.alloc I.O (.cells #[U V ((L:Int)-1)] 3);obtain⟨m0,ai,aj,ak,al⟩:=DM I.Rr;obtain⟨cg,n1,ch,ci,cj⟩:=DM (I.Rr.alloc (.cells #[U V ((L:Int)-1)] 3));have hkd:=Aa bg;clear bs bt y I c0 c1 c2 c3 c4 bg;dsimp only;go_wp2_with (at_builtin;refine wpList_append_lies _ rfl _ _ 67 rfl w.heap.size 3 bN (U V 0) 1 8 underlying67 bO bP bQ bR rfl (by decide) _ _ _ rfl aa ⟨aM.heap.size,0,T⟩ 1 1 [U V ((L:Int)-1)] rfl rfl ?c1 ?c2 (by decide) ?c3 ?c4 ?c5 (aM.heap.size+1) (by simp) ?_)
   case c1=>exact Dr _ _ _ _ (by simp)
   case c2=>intro u hu;simp at hu;subst hu;rfl
   case c3=>unfold maxLen;simp;omega
   case c4=>first|omega|(simp;omega)
   case c5=>simp;omega
   intro gk cap cF bv J hat ck;obtain⟨aQ,aR⟩:=(Aa bu).app ac (zh _) bv J hat;obtain⟨cG,cH,cI,cJ,cK⟩:=DM aQ;have cL:=fun k=>aQ.frozen k;rw[zJ N,zJ z,zJ A]at aR;have cl:=Ab aR;have cm:=Ab (show Dk (c.take (j+1)) N.length=(M++f (N++M).length,d++[(L:Int)-1]) by rw[Aa aP,Aa bd];simp only[zB]);have aq:=Ab (MJ aE (TN aN (show w.heap.size<=_ from by simp;omega)));have ar:=Ab (MJ aF (TN aO (show w.heap.size<=_ from by simp;omega)));clear bv J hat ck aQ aR aa bu m0 ai aj ak al cg n1 ch ci cj aN aO;go_wp2
   go_roundw
   case rel=>exact⟨j+1,_,_,_,E++cd,F++ce,Aa bf,by go_num,cm,Aa cl,Aa aq,Aa ar⟩
   case measure=>have:=Aa bf;simp[intOf];omega
  ·have co:j=m:=by omega
   subst co;have bw:=Ab (show Dk c N.length=(M,d) by rw[<-Aa aD,zf (by rw[Aa az];exact NLN)]);obtain⟨L,y⟩:∃L,L=(N++M).length:=⟨_,rfl⟩
   have cf:L<=65535:=by have:=Aa a5;rw[Aa bw]at this;rw[y,zB];simp at this;omega
   obtain⟨cp,cx,ae,_⟩:=Ae X.C.own;rw[<-y]at ae;subst ae;have bx:=X.Rr;obtain⟨m0,ai,aj,ak,al⟩:=DM bx;have aa:=World.ownsRow.alloc X.C.own (EV op num text l nn n G d.length H);have bz:=World.news_of_block (heap_alloc_new wr (EV op num text l nn n G d.length H));rw[<-y]at aa;have aP:=Ab y;have bA:=Ab X;have cq:=Ab aE;have cr:=Ab aF;clear y X bx aE aF;go_wp2_with (at_builtin;refine wpList_append_lies _ rfl _ _ 65 rfl B 134 bI (jE #[U V 0,U V 0,Q jK,.slice T 0 0,.slice T 0 0]) 5 80 underlying65 bJ bK bL bM rfl (by decide) (.slice cp L cx) L (XA (N++M) (z++E) (A++F)) rfl aa ⟨wr.heap.size,0,T⟩ 1 1 [U V op,U V num,Q text,.slice l nn n,.slice G d.length H] rfl rfl bz (by intro u hu;simp at hu;rcases hu with rfl|rfl|rfl|rfl|rfl<;>rfl) (by decide) (by unfold maxLen;omega) (by omega) (by simp;omega) _ rfl ?_)
   intro g7 c7 bB bC J hat cs;have X:=Aa bA;have t:=AN wr (EV op num text l nn n G d.length H);have bD:=X.C.blocks (w':=wr.alloc (EV op num text l nn n G d.length H)) (fun k _ hk=>t.block k hk);have bE:=Fv (Ad (w':=wr.alloc (EV op num text l nn n G d.length H)) X.Uu (fun q a=>t.block q (X.Uu.lt q a).2)) ac;have bF:=Fv (Ad (w':=wr.alloc (EV op num text l nn n G d.length H)) X.O (fun q a=>t.block q (X.O.lt q a).2)) ac;have aS:=bD.snoc (x:=⟨op,num,text,ss,d⟩) bE bF (fun j s q a e=>X.apu q e j s a) (fun j s q a e=>X.apk q e j s a) (by rw[<-Aa aP];exact bC) J;rw[zJ N,zJ z,zJ A]at aS;have bG:Pk B v w (.slice (Y ⟨g7,0,T⟩) (L+1) c7) bB:=X.K.trans ⟨(t.mono aG).grown J (by simp;omega) (fun q a=>(X.C.lts.1 q a).1),fun k h1 au=>BJ J k h1 au,fun q a=>by
    have e:g7=q:=by simpa[Value.ownBlock]using a
    subst e;exact hat.imp id (fun e=>by rw[e];exact zh _)⟩
   have aq:=MJ (Aa cq) (WA (fun q a=>(X.Uu.lt q a).1));have ar:=MJ (Aa cr) (WA (fun q a=>(X.O.lt q a).1));have ct:=Ab (show PuO B N v z A ((fun b=>(Dk c b).1++[⟨op,num,text,ss,(Dk c b).2⟩]) N.length) w (.returned (.slice (Y ⟨g7,0,T⟩) (L+1) c7)) bB from⟨_,_,_,rfl,by dsimp only;rw[Aa bw];exact aS,bG,aq,ar⟩);clear bC J hat cs X t bD bE bF aS bG aq ar aa bz bA;go_wp2
   go_ret
   exact Aa ct
theorem Fk (e:Ex): 1<=e.cnt:=by cases e<;>simp[Ex.cnt]<;>omega
theorem GT {B:Nat}{w0:Z}(d:wz.heap.size<=B){e:Ex}(hk:e.kids=[])(h:Tq w0 e k)(f:Eg e=fun _=> [Ed e]):PuV wz lo hi B w0 k (Eg e):=by
 have g:k.op=(Ed e).op/\k.num=(Ed e).num/\k.text=(Ed e).text/\k.kn=0/\SQ w0 k.an k.nn k.cn (Ed e).names/\(Ed e).kids=[]:=by
  cases e<;>first|exact⟨h.1,h.2.1,h.2.2.1,h.2.2.2.1,h.2.2.2.2,rfl⟩|cases hk
 obtain⟨h1,i,l,a,h5,m⟩:=g;have q:=MS wz lo hi B d w0 k.op k.num k.text k.an k.nn k.cn k.ka 0 k.kc [] (Dy w0 _) (fun h=>absurd h (by decide)) rfl (by decide) k.cn (Ed e).names (fun o c=>(NS c.1 c.2.2 h5.1 h5.2.2).1) h5.1.len (by rw[h5.1.len];exact h5.2.1) [] rfl (fun j n=>absurd n (by simp));have e0:(fun b=>(Dk [] b).1++[(⟨k.op,k.num,k.text,(Ed e).names,(Dk [] b).2⟩:Nd)])=Eg e:=by
  rw[f]
  funext b
  simp only[Dk,List.nil_append];rw[h1,i,l,<-m]
 rw[e0]at q;obtain⟨p,a1,a2,a3,a4,a5,a6,r,s⟩:=k;dsimp only at a;subst a;exact q
theorem NY (w:Z)(a:Option jD):AJ w a 0 0 []:=⟨rfl,zE _,zE _,fun j h=>absurd h (by simp),fun j h=>absurd h (by simp)⟩
theorem Pn {wz:Z}{lo hi B:Nat}{w0:Z}(a:wz.heap.size<=B):∀(e:Ex) (k:K5),Py wz lo hi w0 k e->PuV wz lo hi B w0 k (Eg e)
 |.un i op c,k,h=>by
  obtain⟨h1,d,f,g,h5,hp,m,n,p⟩:=h;obtain⟨o,a1,a2,a3,a4,a5,a6,y,s⟩:=k;dsimp only at h1 d f g h5 n hp;subst h1 d f g h5;have q:=MS wz lo hi B a w0 o 0 ⟨#[]⟩ a3 0 a5 a6 1 s [m] n (fun _=>hp) rfl (by decide) 0 [] (fun u _=>NY u _) rfl (by decide) [Eg c] rfl (fun j v z=>by
   match j,v with
   |0,_=>exact Pn a c m p)
  have e0:(fun b=>(Dk [Eg c] b).1++[(⟨o,0,⟨#[]⟩,[],(Dk [Eg c] b).2⟩:Nd)])=Eg (.un i o c):=by
   funext b
   have:=Fk c;simp only[Dk,Eg,AK,zd];rw[show((b+c.cnt:Nat):Int)-1=((b+c.cnt-1 :Nat):Int) by omega]
  rw[e0]at q;exact q
 |.bin i op l r,k,h=>by
  obtain⟨h1,d,f,g,h5,hp,m,w,n,p,x⟩:=h;obtain⟨o,a1,a2,a3,a4,a5,a6,y,s⟩:=k;dsimp only at h1 d f g h5 n hp;subst h1 d f g h5;have q:=MS wz lo hi B a w0 o 0 ⟨#[]⟩ a3 0 a5 a6 2 s [m,w] n (fun _=>hp) rfl (by decide) 0 [] (fun u _=>NY u _) rfl (by decide) [Eg l,Eg r] rfl (fun j v z=>by
   match j,v with
   |0,_=>exact Pn a l m p
   |1,_=>exact Pn a r w x)
  have e0:(fun b=>(Dk [Eg l,Eg r] b).1++[(⟨o,0,⟨#[]⟩,[],(Dk [Eg l,Eg r] b).2⟩:Nd)])=Eg (.bin i o l r):=by
   funext b
   have:=Fk l;have:=Fk r;simp only[Dk,Eg,AK,zd];rw[show((b+l.cnt:Nat):Int)-1=((b+l.cnt-1 :Nat):Int) by omega,show((b+l.cnt+r.cnt:Nat):Int)-1=((b+l.cnt+r.cnt-1 :Nat):Int) by omega]
  rw[e0]at q;exact q
 |.ite i c t e,k,h=>by
  obtain⟨h1,d,f,g,h5,hp,m,w,A,n,p,x,C⟩:=h;obtain⟨o,a1,a2,a3,a4,a5,a6,y,s⟩:=k;dsimp only at h1 d f g h5 n hp;subst h1 d f g h5;have q:=MS wz lo hi B a w0 27 0 ⟨#[]⟩ a3 0 a5 a6 3 s [m,w,A] n (fun _=>hp) rfl (by decide) 0 [] (fun u _=>NY u _) rfl (by decide) [Eg c,Eg t,Eg e] rfl (fun j v z=>by
   match j,v with
   |0,_=>exact Pn a c m p
   |1,_=>exact Pn a t w x
   |2,_=>exact Pn a e A C)
  have e0:(fun b=>(Dk [Eg c,Eg t,Eg e] b).1++[(⟨27,0,⟨#[]⟩,[],(Dk [Eg c,Eg t,Eg e] b).2⟩:Nd)])=Eg (.ite i c t e):=by
   funext b
   have:=Fk c;have:=Fk t;have:=Fk e;simp only[Dk,Eg,AK,zd,zJ];rw[show((b+c.cnt:Nat):Int)-1=((b+c.cnt-1 :Nat):Int) by omega,show((b+c.cnt+t.cnt:Nat):Int)-1=((b+c.cnt+t.cnt-1 :Nat):Int) by omega,show((b+c.cnt+t.cnt+e.cnt:Nat):Int)-1=((b+c.cnt+t.cnt+e.cnt-1 :Nat):Int) by omega]
  rw[e0]at q;exact q
 |.int ..,k,h=>GT a rfl (Tl.tq h) rfl
 |.text ..,k,h=>GT a rfl (Tl.tq h) rfl
 |.bool ..,k,h=>GT a rfl (Tl.tq h) rfl
 |.set ..,k,h=>GT a rfl (Tl.tq h) rfl
 |.name ..,k,h=>GT a rfl (Tl.tq h) rfl
 |.attr ..,k,h=>GT a rfl (Tl.tq h) rfl
 |.lett ..,k,h=>GT a rfl (Tl.tq h) rfl
set_option maxHeartbeats 1600000
def nmL (left:List Int) (n:Int) (j:Nat):Int:=if n∈left.take j then ixL left n else n
theorem Afv {n:Int}(hd:left.Nodup){j:Nat}(h:j<left.length)(e:left[j]=n):nmL left n (j+1)=(j:Int):=by
 have hm:n∈left.take (j+1):=by rw[zc h];exact zM.2 (.inr (zO.2 e.symm))
 have hi:left.idxOf n<left.length:=List.idxOf_lt_length_iff.2 (by rw[<-e];exact zH h);have he:left[left.idxOf n]=left[j]:=by rw[List.getElem_idxOf hi,e]
 have:left.idxOf n=j:=(List.getElem_inj hd).1 he;rw[nmL,if_pos hm,ixL,this]
theorem AdH {n:Int}{j:Nat}(h:j<left.length)(e:left[j]≠n):nmL left n (j+1)=nmL left n j:=by
 have:n∈left.take (j+1)↔n∈left.take j:=by
  rw[zc h,zM];exact⟨fun q=>q.elim id (fun q=>absurd (zO.1 q).symm e),.inl⟩
 unfold nmL;simp only[this]
theorem Abd (wz:Z){w:Z}(S:wz.heap.size<=w.heap.size){i n:Int}{I:Option jD}{m:Nat}(he:Tq w (.lett i n) k)(t:Em w I m hi left)(hd:left.Nodup)(hm:n∈left):
  Calls jL 49 #[jE #[U V k.op,U V k.num,Q k.text,X k.an k.nn k.cn,X k.ka k.kn k.kc],X I m hi] w (XB wz (DU left (.lett i n)) w):=by
 obtain⟨e1,e2,e3,e4,e5⟩:=he;obtain⟨W,a,d,f,g,h,r,ao,s⟩:=k;dsimp only at e1 e2 e3 e4 e5;have aa:W=7:=e1;have ab:a=n:=e2;clear e1 e2;subst aa ab e4;have K:=t.len;have ap:=t.small;have L:=((AN w (Bs 7 a d f g h r 0 s)).alloc (by simp) Gm).alloc (by simp;omega) (Bs 7 a d f g h T 0 0);have M:=((Ah.new w #[U V 7,U V a,Q d,X f g h,X r 0 s] 101).alloc Gm).alloc (Bs 7 a d f g h T 0 0);have C:=(Ah.new (w.alloc (Bs 7 a d f g h r 0 s)) #[U V 0,U V 0,Q ⟨#[]⟩,X T 0 0,X T 0 0] 101).alloc (Bs 7 a d f g h T 0 0);have D:=Ah.new ((w.alloc (Bs 7 a d f g h r 0 s)).alloc Gm) #[U V 7,U V a,Q d,X f g h,X T 0 0] 101;simp only[World.size_alloc]at C D;have E:=Ab e5;have ac:=Ab e3;have ad:=Ab t;have ae:=Ab hd;have af:=Ab hm;have N:=Ab K;clear e5 e3 t hd hm K;go_enter func49,ntmps49
 go_wp2_with fail
 generalize ((w.alloc (Bs 7 a d f g h r 0 s)).alloc Gm).alloc (Bs 7 a d f g h T 0 0)=aq at L M C D|-;go_loopw [17] (fun i wr=>∃ (j:Nat) (z:Int),j<=m/\i=U V j/\Hid (z=nmL left a j)/\Ah wr w.heap.size #[U V 7,U V a,Q d,X f g h,X r 0 s] 101/\Ah wr (w.heap.size+1) #[U V 0,U V 0,Q ⟨#[]⟩,X T 0 0,X T 0 0] 101/\Ah wr (w.heap.size+1+1) #[U V 7,U V z,Q d,X f g h,X T 0 0] 101/\An w wr) (fun i _=>m-(intOf i).toNat)
 case atStart=>exact⟨0,a,zE _,rfl,Ab (by simp[nmL]),M,C,D,L⟩
 case round=>
  obtain⟨j,z,ar,rfl,O,RT,o,RO,l⟩:=hrel;obtain⟨au,av,aw,ax,ay,-⟩:=Aq RT;obtain⟨az,aA,aB,aC,aD,-⟩:=Aq RO;obtain⟨aE,f1,f2,aF,aG⟩:=Fl RO;by_cases F:j<m
  ·have aH:(j:Int)<(m:Int):=by omega
   have u:j<left.length:=by rw[Aa N];exact F
   obtain⟨b,aI,rfl,aJ,hc⟩:=((Aa ad).below l NLN).cells j u;have v:=Ab (fun e=>Afv (n:=a) (Aa ae) u e);have x:=Ab (fun e=>AdH (n:=a) u e);have A:=Ab F;generalize left[j]=y at hc v x;clear F u;by_cases hy:y=a
   ·have q:(y==a)=true:=zF.2 hy;have G:=Ab (Aa v hy);have ag:=RO.set 1 (U V (j:Int));have ah:=RT.setFar (p:=⟨w.heap.size+1+1,1,T⟩) (by show w.heap.size≠w.heap.size+1+1;omega) (U V (j:Int));have ai:=o.setFar (p:=⟨w.heap.size+1+1,1,T⟩) (by show w.heap.size+1≠w.heap.size+1+1;omega) (U V (j:Int));have aj:=l.setCell (p:=⟨w.heap.size+1+1,1,T⟩) (by show w.heap.size<=w.heap.size+1+1;omega) (U V (j:Int));clear hy v x RO RT o l;go_wp2
    go_roundw
    case rel=>exact⟨j+1,j,Aa A,by go_num,Ab (Aa G).symm,ah,ai,ag,aj⟩
    case measure=>have:=Aa A;simp[intOf];omega
   ·have q:(y==a)=false:=zA.2 hy;have G:=Ab (Aa x hy);clear hy v x;go_wp2
    go_roundw
    case rel=>exact⟨j+1,z,Aa A,by go_num,Ab (by rw[Aa G];exact Aa O),RT,o,RO,l⟩
    case measure=>have:=Aa A;simp[intOf];omega
  ·have e:j=m:=by omega
   subst e;have ak:=Ab (show z=ixL left a by rw[Aa O,nmL,zf (by rw[Aa N];exact NLN),if_pos (Aa af)]);have P:Py wz w.heap.size wr.heap.size wr ⟨7,z,d,f,g,h,T,0,0⟩ (DU left (.lett i a)):=If rfl (by
    rw[Aa ak];exact⟨rfl,rfl,Aa ac,rfl,(Aa E).1.below l NLN,(Aa E).2.1,(Aa E).2.2.below l NLN⟩)
   have H:=Ab (Ef (w0:=wz) (B:=w.heap.size+2) (c:=⟨7,z,d,f,g,h,T,0,0⟩) S l o (by omega) (by omega) (show Py wz (w.heap.size+2) wr.heap.size wr _ _ from If rfl (Tl.tq P)));obtain⟨aK,aL,aM,aN,aO,-⟩:=Aq o;obtain⟨aP,aQ,aR,aS,aT⟩:=Fl o;clear P RT o RO l;go_wp2_with fail
   go_loopw [32] (fun i al=>i=U V 0/\al=wr) (fun _ _=>0)
   case atStart=>exact⟨rfl,rfl⟩
   case round=>
    obtain⟨rfl,rfl⟩:=hrel;go_wp2
    exact bodyPost_ret (Gj results49 rfl (Aa H).2.1) rfl ⟨_,rfl,(Aa H).2.2,(Aa H).1⟩
theorem FH (wz:Z){w:Z}(d:wz.heap.size<=w.heap.size){e:Ex}(hk:e.kids=[])(h:Tq w e k)(f:k.op≠7)(g:DU left e=e)(a:Option jD)(b c:Nat):
  Calls jL 49 #[jE #[U V k.op,U V k.num,Q k.text,X k.an k.nn k.cn,X k.ka k.kn k.kc],X a b c] w (XB wz (DU left e) w):=by
 have i:k.op=(Ed e).op/\k.num=(Ed e).num/\k.text=(Ed e).text/\k.kn=0/\SQ w k.an k.nn k.cn (Ed e).names/\(Ed e).kids=[]:=by
  cases e<;>first|exact⟨h.1,h.2.1,h.2.2.1,h.2.2.2.1,h.2.2.2.2,rfl⟩|cases hk
 obtain⟨h1,l,m,n,h5,o⟩:=i;rw[g,n];exact Jr wz w d a b c w BRN k.op k.num k.text k.an k.nn k.cn k.ka 0 k.kc [] (Dy w _) rfl (by decide) f [] rfl (Ed e).names (fun _=>h5) h5.1.len e (.leaf e hk (by rw[h1,l,m,<-o])) (fun j p=>absurd p (by simp))
theorem Ig (wz:Z){left:List Int}(hd:left.Nodup){b:Option jD}{d f:Nat} :∀(e:Ex) (k:K5) (w:Z),wz.heap.size<=w.heap.size->Tq w e k->Em w b d f left->Bi e=true->(∀m,usE m e=true->m∈left)->
  Calls jL 49 #[jE #[U V k.op,U V k.num,Q k.text,X k.an k.nn k.cn,X k.ka k.kn k.kc],X b d f] w (XB wz (DU left e) w)
 |.lett i n,k,w,hz,h,hL,ho,hu=>Abd wz hz h hL hd (hu n (by simp[usE]))
 |.un i op c,k,w,hz,h,hL,ho,hu=>by
  obtain⟨h1,p,q,s,h5,g,u,v⟩:=h;simp only[Bi,zD,zG]at ho;rw[h5];exact Jr wz w hz b d f w BRN k.op k.num k.text k.an k.nn k.cn k.ka 1 k.kc [g] u rfl (by decide) (by omega) [DU left c] rfl [] (fun e=>by cases e) s _ (by rw[DU,<-h1];exact .un i _ ⟨p,q,rfl⟩) (fun j a1 a2 o a=>by
   match j,a1 with
   |0,_=>exact Ig wz hd c g o (zC hz a.size) (v.below a NLN) (hL.below a NLN) ho.2 (fun m hm=>hu m (by simp[usE,hm])))
 |.bin i op l r,k,w,hz,h,hL,ho,hu=>by
  obtain⟨h1,p,q,s,h5,g,x,u,v,y⟩:=h;simp only[Bi,zD,zG]at ho;rw[h5];exact Jr wz w hz b d f w BRN k.op k.num k.text k.an k.nn k.cn k.ka 2 k.kc [g,x] u rfl (by decide) (by omega) [DU left l,DU left r] rfl [] (fun e=>by cases e) s _ (by rw[DU,<-h1];exact .bin i _ _ ⟨p,q,rfl⟩) (fun j a1 a2 o a=>by
   match j,a1 with
   |0,_=>exact Ig wz hd l g o (zC hz a.size) (v.below a NLN) (hL.below a NLN) ho.2.1 (fun m hm=>hu m (by simp[usE,hm]))
   |1,_=>exact Ig wz hd r x o (zC hz a.size) (y.below a NLN) (hL.below a NLN) ho.2.2 (fun m hm=>hu m (by simp[usE,hm])))
 |.ite i c t e,k,w,hz,h,hL,ho,hu=>by
  obtain⟨h1,p,q,s,h5,g,x,z,u,v,y,A⟩:=h;simp only[Bi,zD]at ho;rw[h5];exact Jr wz w hz b d f w BRN k.op k.num k.text k.an k.nn k.cn k.ka 3 k.kc [g,x,z] u rfl (by decide) (by rw[h1];decide) [DU left c,DU left t,DU left e] rfl [] (fun e=>by cases e) s _ (by rw[DU];exact .ite i _ _ _ h1 ⟨p,q,rfl⟩) (fun j a1 a2 o a=>by
   match j,a1 with
   |0,_=>exact Ig wz hd c g o (zC hz a.size) (v.below a NLN) (hL.below a NLN) ho.1 (fun m hm=>hu m (by simp[usE,hm]))
   |1,_=>exact Ig wz hd t x o (zC hz a.size) (y.below a NLN) (hL.below a NLN) ho.2.1 (fun m hm=>hu m (by simp[usE,hm]))
   |2,_=>exact Ig wz hd e z o (zC hz a.size) (A.below a NLN) (hL.below a NLN) ho.2.2 (fun m hm=>hu m (by simp[usE,hm])))
 |.int ..,k,w,hz,h,hL,ho,hu=>FH wz hz rfl h (by rw[h.op];simp[FO,Ed]) rfl b d f
 |.text ..,k,w,hz,h,hL,ho,hu=>FH wz hz rfl h (by rw[h.op];simp[FO,Ed]) rfl b d f
 |.bool ..,k,w,hz,h,hL,ho,hu=>FH wz hz rfl h (by rw[h.op];simp[FO,Ed]) rfl b d f
 |.set ..,k,w,hz,h,hL,ho,hu=>FH wz hz rfl h (by rw[h.op];simp[FO,Ed]) rfl b d f
 |.name ..,k,w,hz,h,hL,ho,hu=>FH wz hz rfl h (by rw[h.op];simp[FO,Ed]) rfl b d f
 |.attr ..,k,w,hz,h,hL,ho,hu=>FH wz hz rfl h (by rw[h.op];simp[FO,Ed]) rfl b d f
structure Sv (B ob:Nat) (w5:Z) (nd sv:jB) (N:List Nd) (L:List St) (nv kv:List jB) (w:Z):Prop where
 C:Du w B nd N nv kv
 S:w.ownsRow B 93 4 sv L.length (En L)
 Rr:Ah w ob #[nd,sv,X T 0 0] 69
 F:Below B w5 w
 low:B<=ob
theorem Sv.below {B b:Nat}{c:Z}{nd:jB}{N:List Nd}{L:List St}{f g:List jB}{w w':Z}(h:Sv B b c nd d N L f g w)(a:An w w'):Sv B b c nd d N L f g w':=
 ⟨h.C.blocks (fun k _ hk=>a.block k hk),Ad h.S (fun q i=>a.block q (h.S.lt q i).2),h.Rr.after a NLN,h.F.trans (a.mono (by have:=h.Rr.lt;have:=h.low;omega)),h.low⟩
theorem Sv.set {B:Nat}{k:Z}{nd f:jB}{N:List Nd}{L:List St}{l m:List jB}{w:Z}(h:Sv B hi k nd f N L l m w){j:Nat}{u:jB}{o:Array jB}{t:jI}(R:Ah w g o t)(h1:t≠134)(r:t≠9)(s:t≠3)(v:t≠69)(h5:f.ownBlock≠Y g)(hg:B<=g):Sv B hi k nd f N L l m (w.setCell ⟨g,j,T⟩ u):=by
 have c:∀q,q≠g->(w.setCell ⟨g,j,T⟩ u).heap[q]? =w.heap[q]? :=fun q a=>heap_setCell_other w ⟨g,j,T⟩ q u a;have x:hi≠g:=fun e=>by
  have n:=h.Rr.out;have i:=R.out;rw[e]at n;rw[n]at i;simp only[Option.some.injEq,Obj.cells.injEq]at i;exact v i.2.1.symm
 exact⟨h.C.upto (fun q a=>c q (fun e=>Ac R h.C.own h1 (by rw[a,e]))) (fun j b q a=>c q (fun e=>Ac R (h.C.names j (by rw[<-h.C.len];exact b) b) r (by rw[a,e]))) (fun j b q a=>c q (fun e=>Ac R (h.C.kids j (by rw[<-h.C.lenk];exact b) b) s (by rw[a,e]))),Ad h.S (fun q a=>c q (fun e=>h5 (by rw[a,e]))),h.Rr.setFar (p:=⟨g,j,T⟩) x u,h.F.setCell (p:=⟨g,j,T⟩) hg u,h.low⟩
theorem Sv.put {B b:Nat}{m:Z}{nd c g:jB}{N M:List Nd}{L:List St}{k n o:List jB}{w w':Z}(h:Sv B b m nd g N L k l w)(d:Du w' B c (N++M) (k++n) (l++o))(K:Pk B nd w c w'):
  Ah w' b #[nd,g,X T 0 0] 69/\Sv B b m c g (N++M) L (k++n) (l++o) (w'.setCell ⟨b,0,T⟩ c):=by
 have R':=K.row h.C h.Rr (by decide);have i:∀q,q≠b->(w'.setCell ⟨b,0,T⟩ c).heap[q]? =w'.heap[q]? :=fun q a=>heap_setCell_other w' ⟨b,0,T⟩ q _ a;have r:w'.ownsRow B 93 4 g L.length (En L):=Ad h.S (fun q a=>K.block q (h.S.lt q a).2 (fun e=>Ak h.S h.C.own (by decide) q a e));refine⟨R',d.upto (fun q a=>i q (fun e=>Ac R' d.own (by decide) (by rw[a,e]))) (fun j f q a=>i q (fun e=>Ac R' (d.names j (by rw[<-d.len];exact f) f) (by decide) (by rw[a,e]))) (fun j f q a=>i q (fun e=>Ac R' (d.kids j (by rw[<-d.lenk];exact f) f) (by decide) (by rw[a,e]))),Ad r (fun q a=>i q (fun e=>Ac R' r (by decide) (by rw[a,e]))),R'.set 0 c,(h.F.trans K.low).setCell (p:=⟨b,0,T⟩) h.low c,h.low⟩
theorem Sv.stm {B c:Nat}{nd k:jB}{N:List Nd}{L:List St}{n:List jB}{w d:Z}{s:St}(h:Sv B c wz nd k N L m n w)(t:d.ownsRow B 93 4 f (L.length+1) (En L++[U V s.kind,Q s.name,U V s.cond,U V s.grant]))(hg:(w.alloc o).grownBy d k.ownBlock):
  Ah d c #[nd,k,X T 0 0] 69/\Sv B c wz nd f N (L++[s]) m n (d.setCell ⟨c,1,T⟩ f):=by
 have hk:=BJ hg;have g:Ah d c #[nd,k,X T 0 0] 69:=⟨(hk c h.Rr.lt (Ac h.Rr h.S (by decide))).trans h.Rr.out⟩
 have l:∀q,q≠c->(d.setCell ⟨c,1,T⟩ f).heap[q]? =d.heap[q]? :=fun q a=>heap_setCell_other d ⟨c,1,T⟩ q _ a;have i:Du d B nd N m n:=h.C.upto (fun q a=>hk q (h.C.lts.1 q a).2 (fun e=>Ak h.S h.C.own (by decide) q e a)) (fun j b q a=>hk q (h.C.lts.2.1 j b q a).2 (fun e=>Ak h.S (h.C.names j (by rw[<-h.C.len];exact b) b) (by decide) q e a)) (fun j b q a=>hk q (h.C.lts.2.2 j b q a).2 (fun e=>Ak h.S (h.C.kids j (by rw[<-h.C.lenk];exact b) b) (by decide) q e a));have u:B<=w.heap.size:=by have:=h.Rr.lt;have:=h.low;omega
 refine⟨g,i.upto (fun q a=>l q (fun e=>Ac g i.own (by decide) (by rw[a,e]))) (fun j b q a=>l q (fun e=>Ac g (i.names j (by rw[<-i.len];exact b) b) (by decide) (by rw[a,e]))) (fun j b q a=>l q (fun e=>Ac g (i.kids j (by rw[<-i.lenk];exact b) b) (by decide) (by rw[a,e]))),?_,g.set 1 f,((h.F.alloc u o).grown hg (by simp;omega) (fun q a=>(h.S.lt q a).1)).setCell (p:=⟨c,1,T⟩) h.low f,h.low⟩;rw[zB,Aa5];exact Ad t (fun q a=>l q (fun e=>Ac g t (by decide) (by rw[a,e])))
theorem Xd {w:Z}{B n c:Nat}{e:jI}{a:Option jD}{L:List Int}(h:w.ownsRow B e 1 (X a n c) n (Aw L))(b:L.length=n)(hs:n<=1048576):Em w a n c L:=by
 refine⟨b,hs,fun j d=>?_⟩;obtain⟨x,c',e',hx⟩:=Ae h;simp only[Value.slice.injEq]at e';obtain⟨rfl,_,_⟩:=e';obtain⟨g,rfl,_,hc⟩:=hx (by omega);refine⟨g,0,rfl,(h.lt g rfl).2,?_⟩;rw[zP];refine hc j _ ?_;simp[Aw,d]
theorem Afx {K:List (Sx×Int)}{t:Nat}(h:t<K.length):Dp (K.take (t+1))=Dp (K.take t)++(if K[t].1.kind=1 then [K[t].2]else []):=by
 unfold Dp;rw[zc h,List.filter_append,zl]
 congr 1
 by_cases hk:K[t].1.kind=1<;>simp[hk]
theorem AgI (K:List (Sx×Int)):(Dp K).length<=K.length:=by
 unfold Dp;rw[zU];exact List.length_filter_le _ _
theorem AdL (X:List Sx)(t:Nat):Cn (X.take t)<=Cn X:=by
 have:Cn X=Cn (X.take t)+Cn (X.drop t):=by rw[<-Wz,Z9]
 omega
structure TyM (B Bt:Nat) (nd sv tv:jB) (N:List Nd) (L:List St) (T:List Int) (nv kv:List jB) (w:Z):Prop where
 C:Du w B nd N nv kv
 S:w.ownsRow B 93 4 sv L.length (En L)
 Tt:w.ownsRow Bt 3 1 tv T.length (Aw T)
theorem TyM.set {B:Nat}{nd f i:jB}{N:List Nd}{L:List St}{T:List Int}{k:List jB}{w:Z}(h:TyM B hi nd f i N L T k l w){m:Array jB}(R:Ah w g m 69)(j:Nat)(u:jB):TyM B hi nd f i N L T k l (w.setCell ⟨g,j,none⟩ u):=by
 have b:∀q,q≠g->(w.setCell ⟨g,j,none⟩ u).heap[q]? =w.heap[q]? :=fun q a=>heap_setCell_other w ⟨g,j,none⟩ q u a;exact⟨h.C.upto (fun q a=>b q (fun e=>Ac R h.C.own (by decide) (by rw[a,e]))) (fun j c q a=>b q (fun e=>Ac R (h.C.names j (by rw[<-h.C.len];exact c) c) (by decide) (by rw[a,e]))) (fun j c q a=>b q (fun e=>Ac R (h.C.kids j (by rw[<-h.C.lenk];exact c) c) (by decide) (by rw[a,e]))),Ad h.S (fun q a=>b q (fun e=>Ac R h.S (by decide) (by rw[a,e]))),Ad h.Tt (fun q a=>b q (fun e=>Ac R h.Tt (by decide) (by rw[a,e])))⟩
def CkT (T:List Int) (w:Z) (r:Ending) (w':Z):Prop:=(∃ (Bt:Nat) (tv p:jB) (f0 f1:Int),r= .returned (.tuple #[tv,p,jE #[U V f0,U V f1]])/\w'.ownsRow Bt 3 1 tv T.length (Aw T))/\An w w'
end Go.Proofs.YtppafecmccdplaaGreat
