import Derived.Test.YteiieikcjcfkkaaGreatDoorMXAV
open Go.Proofs.Tryz
open Option renaming none->T,some->X
open Go.Value renaming int->U,slice->Y,string->Q,agg->jG
open Go.IntKind renaming i64->V
open Go renaming World->Z,Value->R,Addr->jD,Calls->jE,TypeId->jJ,maxLen->jM,bodyPost_ret->jN,info_parts->jZ,heap_setCell_other->jc,run_underlying->jl
open Go.Ending renaming returned->jH
open And renaming intro->jS
open ByteArray renaming empty->jU
open Go.World renaming size_alloc->jW,cell?_of_block->j0
open Go.Proofs.Tryz renaming prog->j4
namespace Go.Proofs.YteiieikcjcfkkaaGreatDoor
open Go.RowKit
set_option linter.unusedVariables false
variable {x:jD}{cs:Array R}{L:List Int}{N:List Nd}{d i:List R}{b n p u c m:Nat}{a y z:Option jD}{t:jJ}{v:R}{w w':Z}
theorem Cg.st_one {i:Nat}{e:Ex}(t:Cg N i e):∀{f:Ex},Cg N i f->e.st=f.st:=by
 induction t with
 |int h j d=>intro f u;rcases u.inv h with⟨o,b⟩|⟨o,b⟩|⟨o,b⟩|⟨o,b⟩|⟨o,b⟩|⟨o,b⟩|⟨o,b⟩|⟨o,b⟩|⟨o,b⟩|⟨o,b⟩<;>first|omega|(subst b;rfl)
 |text h j d=>intro f u;rcases u.inv h with⟨o,b⟩|⟨o,b⟩|⟨o,b⟩|⟨o,b⟩|⟨o,b⟩|⟨o,b⟩|⟨o,b⟩|⟨o,b⟩|⟨o,b⟩|⟨o,b⟩<;>first|omega|(subst b;rfl)
 |bool h j d=>intro f u;rcases u.inv h with⟨o,b⟩|⟨o,b⟩|⟨o,b⟩|⟨o,b⟩|⟨o,b⟩|⟨o,b⟩|⟨o,b⟩|⟨o,b⟩|⟨o,b⟩|⟨o,b⟩<;>first|omega|(subst b;rfl)
 |name h j d=>intro f u;rcases u.inv h with⟨o,b⟩|⟨o,b⟩|⟨o,b⟩|⟨o,b⟩|⟨o,b⟩|⟨o,b⟩|⟨o,b⟩|⟨o,b⟩|⟨o,b⟩|⟨o,b⟩<;>first|omega|(subst b;rfl)
 |attr h j d=>intro f u;rcases u.inv h with⟨o,b⟩|⟨o,b⟩|⟨o,b⟩|⟨o,b⟩|⟨o,b⟩|⟨o,b⟩|⟨o,b⟩|⟨o,b⟩|⟨o,b⟩|⟨o,b⟩<;>first|omega|(subst b;rfl)
 |lett h j d=>intro f u;rcases u.inv h with⟨o,b⟩|⟨o,b⟩|⟨o,b⟩|⟨o,b⟩|⟨o,b⟩|⟨o,b⟩|⟨o,b⟩|⟨o,b⟩|⟨o,b⟩|⟨o,b⟩<;>first|omega|(subst b;rfl)
 |set h j d a n c=>intro f u;rcases u.inv h with⟨o,b⟩|⟨o,b⟩|⟨o,b⟩|⟨o,b⟩|⟨o,b⟩|⟨o,b⟩|⟨o,b⟩|⟨o,b⟩|⟨o,b⟩|⟨o,b⟩<;>first|omega|(obtain⟨_,_,_,b⟩:=b;subst b;rfl)
 |un h j d hi t r=>
  intro f u;rcases u.inv h with⟨o,b⟩|⟨o,b⟩|⟨o,b⟩|⟨o,b⟩|⟨o,b⟩|⟨o,b⟩|⟨o,b⟩|⟨o,q,e',g,k,b⟩|⟨o,b⟩|⟨o,b⟩<;>first|omega|skip
  subst b;rw[d]at g;obtain rfl:=Int.ofNat.inj (List.cons.inj g).1;simp only[Ex.st,r k]
 |bin h j d hi t u l m=>
  intro f v;rcases v.inv h with⟨o,b⟩|⟨o,b⟩|⟨o,b⟩|⟨o,b⟩|⟨o,b⟩|⟨o,b⟩|⟨o,b⟩|⟨o,b⟩|⟨o,q,s,e',w,g,k,p,b⟩|⟨o,b⟩<;>first|omega|skip
  subst b;rw[d]at g;simp only[List.cons.injEq,and_true,Int.natCast_inj]at g;obtain⟨rfl,rfl⟩:=g;simp only[Ex.st,l k,m p]
 |ite h j d hi t u v l m x=>
  intro f z;rcases z.inv h with⟨o,b⟩|⟨o,b⟩|⟨o,b⟩|⟨o,b⟩|⟨o,b⟩|⟨o,b⟩|⟨o,b⟩|⟨o,b⟩|⟨o,b⟩|⟨o,q,s,A,e',w,B,g,k,p,y,b⟩<;>first|omega|skip
  subst b;rw[d]at g;simp only[List.cons.injEq,and_true,Int.natCast_inj]at g;obtain⟨rfl,rfl,rfl⟩:=g;simp only[Ex.st,l k,m p,x y]
set_option maxRecDepth 100000
set_option maxHeartbeats 1600000
theorem AfC (L:List Int)(n k:Nat)(a:n=L.length)(b:k<n):(((L.take k).map (U V))++List.replicate (n-k) (U V 0)).set k (U V (L[k]'(by omega)))=((L.take (k+1)).map (U V))++List.replicate (n-(k+1)) (U V 0):=by
 have h1:((L.take k).map (U V)).length=k:=by rw[ze,zr];omega
 rw[List.set_append_right _ _ (by omega),h1,Nat.sub_self,show n-k=(n-(k+1))+1 by omega,List.replicate_succ,zh,zQ (by omega),zR,zT];rfl
theorem X9 (L:List Int)(n k:Nat)(a:n=L.length)(b:k<n):(((L.take k).map (U V))++List.replicate (n-k) (U V 0))[k]? =X (U V 0):=by
 have h1:((L.take k).map (U V)).length=k:=by rw[ze,zr];omega
 rw[yL (by omega),h1,Nat.sub_self,List.getElem?_replicate,if_pos (by omega)]
theorem RA (a:Option jD)(n c:Nat)(L:List Int)(w:Z)(h:Gv w a n c L)(A:n<=1048576):
  jE j4 23 #[Y a n c] w fun e w'=>e=jH (Y (X ⟨w.heap.size,0,T⟩) n n)/\Ah w w'/\w'.ownsRow w.heap.size 3 1 (Y (X ⟨w.heap.size,0,T⟩) n n) n (Aq L):=by
 obtain⟨i,hi,u,v,y⟩:=jZ Kr;have f:=Ab h.len;go_enter func23,ntmps23
 go_wp2_with (at_make;refine wpList_make_full _ rfl _ _ 24 rfl w.heap.size 3 i (U V 0) 1 underlying24 hi u v _ _ _ _ n rfl rfl rfl rfl ?b2 ?b3 ?b4 ?_)
 case b2=>rw[y];omega
 case b3=>unfold jM;omega
 case b4=>exact NLN
 intro l d m;have o:Ah w l:=BRN.grown m NLN (fun k p=>by cases p);clear m;have q:l.ownsRow w.heap.size 3 1 (Y (X ⟨w.heap.size,0,T⟩) n n) n (((L.take 0).map (U V))++List.replicate (n-0) (U V 0)):=by
  simp only[List.take_zero,List.map_nil,List.nil_append,Nat.sub_zero];rw[<-toList_madeCells_one,<-Nat.mul_one n];simpa using d
 clear d;go_wp2
 go_loopw [4] (fun i wr=>∃k:Nat,k<=n/\i=U V k/\wr.ownsRow w.heap.size 3 1 (Y (X ⟨w.heap.size,0,T⟩) n n) n (((L.take k).map (U V))++List.replicate (n-k) (U V 0))/\Ah w wr) (fun i _=>n-(intOf i).toNat)
 case atStart=>exact⟨0,zD _,rfl,q,o⟩
 case round=>
  obtain⟨k,p,rfl,d,j⟩:=hrel;clear q o;by_cases g:k<n
  ·have z:k<L.length:=by rw[Aa f];exact g
   obtain⟨b,B,rfl,_,hc⟩:=(h.below j NLN).cells k z;have C:=d.frozenAt k;have D:=(d.cellAt k (by omega)).trans (X9 L n k (Aa f).symm g);have r:=Ab (d.stored k (U V L[k])).1;have s:=Ab (AfC L n k (Aa f).symm g);have t:=Ab g;clear d;generalize L[k]=x at hc r s;go_wp2
   go_roundw
   case rel=>exact⟨k+1,Aa t,by go_num,by rw[<-Aa s];exact Aa r,j.setCell NLN _⟩
   case measure=>have:=Aa t;simp[intOf];omega
  ·have e:k=n:=by omega
   subst e;go_wp2
   go_ret
   refine⟨rfl,j,?_⟩;rw[zY (by rw[Aa f];exact NLN),Nat.sub_self]at d;simpa[Aq]using d
theorem AK.setFar {n c:Nat}(h:AK w a n c L){p:jD}(hp:∀x,a=X x->p.block≠x.block)(u:R):AK (w.setCell p u) a n c L:=
 ⟨h.len,h.small,fun j f=>by
  obtain⟨b,g,d,i,hc⟩:=h.cells j f;refine⟨b,g,d,by simpa using i,?_⟩;rw[<-hc];exact j0 (jc w p b u (fun e=>hp _ d e.symm))⟩
theorem Z1 (x:Nd)(an:Option jD)(nn cn:Nat)(o:Option jD)(a q:Nat)(w:Z)(h1:Ap w an nn cn x.names)(h2:Gv w o a q x.kids)(S:nn<=1048576)(I:a<=1048576):
  jE j4 49 #[jG #[U V x.op,U V x.num,Q x.text,Y an nn cn,Y o a q]] w fun e w'=>
   ∃z x2,e=jH (jG #[U V x.op,U V x.num,Q x.text,Y (X z) nn nn,Y (X x2) a a])/\Ap w' (X z) nn nn x.names/\AK w' (X x2) a a x.kids/\Wd w' z nn 9/\Wd w' x2 a 3/\w.heap.size<=z.block/\w.heap.size<=x2.block/\Ah w w':=by
 go_enter func49,ntmps49
 go_wp2_with fail
 have C:=(((Av w (.cells #[U V x.op,U V x.num,Q x.text,Y an nn cn,Y o a q] 78)).alloc (by simp) (.cells #[U V 0,U V 0,Q ⟨#[]⟩,Y T 0 0,Y T 0 0] 85)).alloc (by simp;omega) (Dw x.op x.num x.text T 0 0 T 0 0))
 have J:=((Ag.new w #[U V x.op,U V x.num,Q x.text,Y an nn cn,Y o a q] 78).alloc (.cells #[U V 0,U V 0,Q ⟨#[]⟩,Y T 0 0,Y T 0 0] 85)).alloc (Dw x.op x.num x.text T 0 0 T 0 0);have D:=(Ag.new (w.alloc (.cells #[U V x.op,U V x.num,Q x.text,Y an nn cn,Y o a q] 78)) #[U V 0,U V 0,Q ⟨#[]⟩,Y T 0 0,Y T 0 0] 85).alloc (Dw x.op x.num x.text T 0 0 T 0 0);have E:=Ag.new ((w.alloc (.cells #[U V x.op,U V x.num,Q x.text,Y an nn cn,Y o a q] 78)).alloc (.cells #[U V 0,U V 0,Q ⟨#[]⟩,Y T 0 0,Y T 0 0] 85)) #[U V x.op,U V x.num,Q x.text,Y T 0 0,Y T 0 0] 85;simp only[jW]at D E;refine(Sl _ _ _ _ _ (h1.below C NLN) S).mono ?_;rintro e K ⟨rfl,r,A⟩;have L:=C.trans (r.mono (by simp;omega));have M:=J.after r NLN;have N:=D.after r NLN;have r2:=E.after r NLN;have W:=r.size;have F:=Ap.of_owns A h1.sizes;have G:=Wd.of_owns A;have l1:=(A.lt _ rfl).2;simp only[jW]at W F l1 G;clear C J D E A r;have d:=M.cell 4;have f:=r2.cell 3;have g:=r2.frozen 3;simp only[List.getElem?_toArray,z6,yG]at d f;go_wp2_with fail
 have H:=L.setCell (p:=⟨w.heap.size+1+1,3,T⟩) (by show w.heap.size<=w.heap.size+1+1;omega) (Y (X ⟨w.heap.size+1+1+1,0,T⟩) nn nn);refine(RA _ _ _ _ _ (h2.below H NLN) I).mono ?_;rintro e af ⟨rfl,h,B⟩;have b:=(N.setFar (p:=⟨w.heap.size+1+1,3,T⟩) (by show w.heap.size+1≠w.heap.size+1+1;omega) (Y (X ⟨w.heap.size+1+1+1,0,T⟩) nn nn)).after h NLN;have c:=(r2.set 3 (Y (X ⟨w.heap.size+1+1+1,0,T⟩) nn nn)).after h NLN;have aa:=(F.setFar (p:=⟨w.heap.size+1+1,3,T⟩) (fun x hx=>by cases hx;show w.heap.size+1+1≠w.heap.size+1+1+1;omega) (Y (X ⟨w.heap.size+1+1+1,0,T⟩) nn nn)).below h NLN;have O:=BS B I;have ab:=(G.setFar (p:=⟨w.heap.size+1+1,3,T⟩) (by show w.heap.size+1+1≠w.heap.size+1+1+1;omega) (Y (X ⟨w.heap.size+1+1+1,0,T⟩) nn nn)).below h NLN;have P:=Wd.of_owns B;have ac:=H.trans (h.mono (by simp;omega));have ad:=h.size;have ae:=(B.lt _ rfl).2;simp only[World.size_setCell]at ad O ae P;clear M N r2 F G d f g L H h B;have u:=fun j=>b.frozen j;have y:=fun j=>c.frozen j;have i:=b.cell 0;have k:=b.cell 1;have l:=b.cell 2;have m:=b.cell 3;have n:=b.cell 4;have d:=c.cell 0;have f:=c.cell 1;have g:=c.cell 2;have s:=c.cell 3;have t:=c.cell 4;simp at i k l m n d f g s t;go_wp2_with fail
 refine jN (v:= jG #[U V x.op,U V x.num,Q x.text,Y (X ⟨w.heap.size+1+1+1,0,T⟩) nn nn,Y (X ⟨K.heap.size,0,T⟩) a a]) (by simp[results,results49,go_sem,i,k,l,m,n]) rfl ⟨_,_,rfl,?_,?_,?_,?_,by show w.heap.size<=w.heap.size+1+1+1;omega,by show w.heap.size<=K.heap.size;omega,?_⟩
 ·clear i k l m n d f g s t u y b c;refine Ap.setFar (Ap.setFar (Ap.setFar (Ap.setFar (Ap.setFar (Ap.setFar aa ?_ _) ?_ _) ?_ _) ?_ _) ?_ _) ?_ _
  all_goals (intro x hx;cases hx;dsimp only;omega)
 ·clear i k l m n d f g s t u y b c;refine AK.setFar (AK.setFar (AK.setFar (AK.setFar (AK.setFar (AK.setFar O ?_ _) ?_ _) ?_ _) ?_ _) ?_ _) ?_ _
  all_goals (intro x hx;cases hx;dsimp only;omega)
 ·clear i k l m n d f g s t u y b c;refine Wd.setFar (Wd.setFar (Wd.setFar (Wd.setFar (Wd.setFar (Wd.setFar ab ?_ _) ?_ _) ?_ _) ?_ _) ?_ _) ?_ _
  all_goals (dsimp only;omega)
 ·clear i k l m n d f g s t u y b c;refine Wd.setFar (Wd.setFar (Wd.setFar (Wd.setFar (Wd.setFar (Wd.setFar P ?_ _) ?_ _) ?_ _) ?_ _) ?_ _) ?_ _
  all_goals (dsimp only;omega)
 ·clear i k l m n d f g s t u y b c;refine Below.setCell (Below.setCell (Below.setCell (Below.setCell (Below.setCell (Below.setCell ac ?_ _) ?_ _) ?_ _) ?_ _) ?_ _) ?_ _
  all_goals (dsimp only;omega)
theorem AjO:(j4.info? 85).map (fun i=>(i.zero,i.size,i.bytes))=X (X (jG #[U V 0,U V 0,Q jU,Y T 0 0,Y T 0 0]),5,80):=by kernel_rfl
theorem AiS:(j4.info? 53).map (fun i=>(i.zero,i.size,i.bytes))=X (X (jG #[U V 0,Q jU,U V 0,U V 0]),4,40):=by kernel_rfl
theorem Gp {e:jJ}{size g n:Nat}(h:w.ownsRow b e size (Y (X ⟨g,0,T⟩) n c) n d):∃a,Ag w g a e/\a.size=c*size:=by
 rcases h.2 with⟨hv,_⟩|⟨f,cap,a,hv,h1,h2,h3,h4,h5,h6⟩
 ·cases hv
 ·cases hv;exact⟨a,⟨h2⟩,h5⟩
def GC (cs:Array R) (p:Nat) (v0 v1 v2 v3 v4:R):Array R:=((((cs.setIfInBounds p v0).setIfInBounds (p+1) v1).setIfInBounds (p+2) v2).setIfInBounds (p+3) v3).setIfInBounds (p+4) v4
theorem Z8 (cs:Array R)(p:Nat)(a b c d f:R):(GC cs p a b c d f).size=cs.size:=by simp[GC]
theorem AfD {p:Nat}(h:p+5<=cs.size)(a b c d f:R):(GC cs p a b c d f)[p]? =X a/\(GC cs p a b c d f)[p+1]? =X b/\(GC cs p a b c d f)[p+2]? =X c/\(GC cs p a b c d f)[p+3]? =X d/\(GC cs p a b c d f)[p+4]? =X f:=by
 unfold GC;refine⟨?_,?_,?_,?_,?_⟩<;>simp[Array.getElem?_setIfInBounds]<;>omega
theorem JQ {p q:Nat}(h:q<p)(a b c d f:R):(GC cs p a b c d f)[q]? =cs[q]? :=by
 unfold GC;rw[zq (by omega),zq (by omega),zq (by omega),zq (by omega),zq (by omega)]
def Po (W:Z) (b p:Nat) (v0 v1 v2 v3 v4:R):Z:=((((W.setCell ⟨b,p,T⟩ v0).setCell ⟨b,p+1,T⟩ v1).setCell ⟨b,p+2,T⟩ v2).setCell ⟨b,p+3,T⟩ v3).setCell ⟨b,p+4,T⟩ v4
theorem AfE {i:Z}{p:Nat}(h:Ag i b cs t)(a c d f g:R):Ag (Po i b p a c d f g) b (GC cs p a c d f g) t:=((((h.set p a).set (p+1) c).set (p+2) d).set (p+3) f).set (p+4) g
theorem Z9 {B:Nat}{c:Z}{b:Nat}(h:Below B w c)(a:B<=b)(d f g i j:R):Below B w (Po c b p d f g i j):=
 ((((h.setCell (p:=⟨b,p,T⟩) a d).setCell (p:=⟨b,p+1,T⟩) a f).setCell (p:=⟨b,p+2,T⟩) a g).setCell (p:=⟨b,p+3,T⟩) a i).setCell (p:=⟨b,p+4,T⟩) a j
theorem Ap.put5 {n c:Nat}{ss:List ByteArray}(h:Ap w (X x) n c ss){b p:Nat}(hp:b≠x.block)(a d f g i:R):Ap (Po w b p a d f g i) (X x) n c ss:=
 ((((h.setFar (p:=⟨b,p,T⟩) (fun y e=>by cases e;exact hp) a).setFar (p:=⟨b,p+1,T⟩) (fun y e=>by cases e;exact hp) d).setFar (p:=⟨b,p+2,T⟩) (fun y e=>by cases e;exact hp) f).setFar (p:=⟨b,p+3,T⟩) (fun y e=>by cases e;exact hp) g).setFar (p:=⟨b,p+4,T⟩) (fun y e=>by cases e;exact hp) i
theorem AK.put5 {n c:Nat}{ss:List Int}(h:AK w (X x) n c ss){b p:Nat}(hp:b≠x.block)(a d f g i:R):AK (Po w b p a d f g i) (X x) n c ss:=
 ((((h.setFar (p:=⟨b,p,T⟩) (fun y e=>by cases e;exact hp) a).setFar (p:=⟨b,p+1,T⟩) (fun y e=>by cases e;exact hp) d).setFar (p:=⟨b,p+2,T⟩) (fun y e=>by cases e;exact hp) f).setFar (p:=⟨b,p+3,T⟩) (fun y e=>by cases e;exact hp) g).setFar (p:=⟨b,p+4,T⟩) (fun y e=>by cases e;exact hp) i
theorem Wd.put5 {n:Nat}(h:Wd w x n t){b:Nat}(hp:b≠x.block)(a c d f g:R):Wd (Po w b p a c d f g) x n t:=
 ((((h.setFar (p:=⟨b,p,T⟩) hp a).setFar (p:=⟨b,p+1,T⟩) hp c).setFar (p:=⟨b,p+2,T⟩) hp d).setFar (p:=⟨b,p+3,T⟩) hp f).setFar (p:=⟨b,p+4,T⟩) hp g
def NdX (w:Z) (g:Nat) (cs:Array R) (o:Nat) (x:Nd):Prop:=∃x1 nn x2 nk,cs[o]? =X (U V x.op)/\cs[o+1]? =X (U V x.num)/\cs[o+2]? =X (Q x.text)/\cs[o+3]? =X (Y (X x1) nn nn)/\cs[o+4]? =X (Y (X x2) nk nk)/\Ap w (X x1) nn nn x.names/\AK w (X x2) nk nk x.kids/\(Wd w x1 nn 9/\Wd w x2 nk 3)/\g<x1.block/\g<x2.block
theorem NdX.step {b:Z}{g:Nat}{o:Nat}{x:Nd}(h:NdX w g cs o x)(a:Ah w b)(hp:o+5<=p)(c d f i j:R):NdX (Po b g p c d f i j) g (GC cs p c d f i j) o x:=by
 obtain⟨l,nn,x2,m,n,c1,c2,c3,c4,q,r,k,g1,g2⟩:=h;exact⟨l,nn,x2,m,(JQ (by omega) _ _ _ _ _).trans n,(JQ (by omega) _ _ _ _ _).trans c1,(JQ (by omega) _ _ _ _ _).trans c2,(JQ (by omega) _ _ _ _ _).trans c3,(JQ (by omega) _ _ _ _ _).trans c4,(q.below a NLN).put5 (by omega) _ _ _ _ _,(r.below a NLN).put5 (by omega) _ _ _ _ _,⟨(k.1.below a NLN).put5 (by omega) _ _ _ _ _,(k.2.below a NLN).put5 (by omega) _ _ _ _ _⟩,g1,g2⟩
theorem NdX.at {g:Nat}{o:Nat}{x:Nd}(h:NdX w g cs o x)(R:Ag w g cs t):Afw w g o x:=by
 obtain⟨d,nn,x2,f,a,c1,c2,c3,c4,b,c,_,_,_⟩:=h;exact⟨_,_,_,_,_,_,(R.cell _).trans a,(R.cell _).trans c1,(R.cell _).trans c2,(R.cell _).trans c3,(R.cell _).trans c4,b,c⟩
def Hi (w:Z) (g:Nat) (N:List Nd):Prop:=∃cs,(Ag w g cs 85/\cs.size=N.length*5)/\∀j,(hj:j<N.length)->NdX w g cs (j*5) N[j]
theorem Hi.nds {g:Nat}(h:Hi w g N)(a:N.length=n)(b:n<=1048576)(hs:∀x∈N,EW x):GY w (X ⟨g,0,T⟩) n n N:=by
 obtain⟨cs,⟨R,_⟩,hx⟩:=h;exact⟨a,b,fun x hx=>(hs x hx).1,fun j c=>⟨g,0,rfl,R.lt,by rw[zU];exact(hx j c).at R⟩⟩
theorem Hi.below {w w':Z}{B g:Nat}{N:List Nd}(h:Hi w g N)(a:Below B w w')(hB:w.heap.size<=B):Hi w' g N:=by
 obtain⟨cs,⟨R,z⟩,hx⟩:=h;refine⟨cs,⟨R.after a hB,z⟩,fun j c=>?_⟩;obtain⟨d,nn,x2,f,i,c1,c2,c3,c4,k,l,b,g1,g2⟩:=hx j c;exact⟨d,nn,x2,f,i,c1,c2,c3,c4,k.below a hB,l.below a hB,⟨b.1.below a hB,b.2.below a hB⟩,g1,g2⟩
theorem Hi.setLow {g:Nat}(h:Hi w g N){p:jD}(hp:p.block<g)(u:Value):Hi (w.setCell p u) g N:=by
 obtain⟨cs,⟨R,z⟩,hx⟩:=h;refine⟨cs,⟨R.setFar (by omega) u,z⟩,fun j b=>?_⟩;obtain⟨c,nn,x2,d,f,c1,c2,c3,c4,i,k,a,g1,g2⟩:=hx j b;exact⟨c,nn,x2,d,f,c1,c2,c3,c4,i.setFar (fun y e=>by cases e;omega) u,k.setFar (fun y e=>by cases e;omega) u,⟨a.1.setFar (by omega) u,a.2.setFar (by omega) u⟩,g1,g2⟩
theorem Jl.setFar {g c:Nat}{L:List St}(h:Jl w (X ⟨g,0,T⟩) n c L){p:jD}(hp:p.block≠g)(u:R):Jl (w.setCell p u) (X ⟨g,0,T⟩) n c L:=
 ⟨h.len,h.small,h.sizes,fun j a=>by
  obtain⟨b,k,d,f,i,c1,c2,c3⟩:=h.cells j a;cases d;have e:∀o,(w.setCell p u).cell? ⟨g,o,T⟩=w.cell? ⟨g,o,T⟩:=fun o=>j0 (jc w p g u (fun e=>hp e.symm));exact⟨g,0,rfl,by simpa using f,(e _).trans i,(e _).trans c1,(e _).trans c2,(e _).trans c3⟩⟩
theorem Cb {p:Nat}(h:p<cs.size):∃u,cs[p]? =X u:=⟨_,Array.getElem?_eq_getElem h⟩
theorem Ya (a:Option jD)(n c:Nat)(N:List Nd)(w:Z)(h:Pa w a n c N)(az:n<=1048576)(hs:∀x∈N,EW x):
  jE j4 21 #[Y a n c] w fun e w'=>e=jH (Y (X ⟨w.heap.size,0,T⟩) n n)/\Ah w w'/\Hi w' w.heap.size N:=by
 obtain⟨i,hi,S,W,q⟩:=jZ AjO;have A:=Ab h.len;go_enter func21,ntmps21
 go_wp2_with (at_make;refine wpList_make_full _ rfl _ _ 28 rfl w.heap.size 85 i (jG #[U V 0,U V 0,Q jU,Y T 0 0,Y T 0 0]) 5 underlying28 hi S W _ _ _ _ n rfl rfl rfl rfl ?b2 ?b3 ?b4 ?_)
 case b2=>rw[q];omega
 case b3=>unfold jM;omega
 case b4=>exact NLN
 intro aa F G;have H:Ah w aa:=BRN.grown G NLN (fun k I=>by cases I);clear G;obtain⟨ab,J,ac⟩:=Gp F;have ad:=Ab hs;clear F hs;go_wp2_with fail
 go_loopw [4] (fun i wr=>∃ (k:Nat) (cs:Array R),k<=n/\i=U V k/\Ag wr w.heap.size cs 85/\cs.size=n*5/\Ah w wr/\Hid (∀j,(f:j<N.length)->j<k->NdX wr w.heap.size cs (j*5) N[j])) (fun i _=>n-(intOf i).toNat)
 case atStart=>exact⟨0,ab,zD _,rfl,J,ac,H,Ab (fun j _ h=>absurd h (by omega))⟩
 case round=>
  obtain⟨k,cs,I,rfl,B,q,r,s⟩:=hrel;clear J H;by_cases K:k<n
  ·have ae:(k:Int)<(n:Int):=by omega
   have L:k<N.length:=by rw[Aa A];exact K
   have C:=Aa ad N[k] (zH L);obtain⟨b,aA,rfl,aB,an,nn,cn,af,g,ag,ah,c1,c2,c3,c4,D,E⟩:=(h.below r NLN).cells k L;have aC:=B.lt;have ai:nn<=1048576:=by rw[D.len];exact C.2.1
   have aj:g<=1048576:=by rw[<-E.len];exact C.2.2.2
   have M:=Ab (fun (l:Z) (m:Ah wr l) (t u v y z:R) (e:NdX (Po l w.heap.size (k*5) t u v y z) w.heap.size (GC cs (k*5) t u v y z) (k*5) N[k])=>show ∀j,(f:j<N.length)->j<k+1->NdX (Po l w.heap.size (k*5) t u v y z) w.heap.size (GC cs (k*5) t u v y z) (j*5) N[j]from fun j f aD=>by
    by_cases ak:j=k
    ·subst ak;exact e
    ·exact(Aa s j f (by omega)).step m (by omega) _ _ _ _ _)
   have O:=Ab K;clear s h C;generalize N[k]=x at ah c1 c2 c3 c4 D E M;obtain⟨u0,e0⟩:=Cb (cs:=cs) (p:=k*5) (by omega);obtain⟨u1,e1⟩:=Cb (cs:=cs) (p:=k*5+1) (by omega);obtain⟨u2,e2⟩:=Cb (cs:=cs) (p:=k*5+2) (by omega);obtain⟨u3,e3⟩:=Cb (cs:=cs) (p:=k*5+3) (by omega);obtain⟨u4,e4⟩:=Cb (cs:=cs) (p:=k*5+4) (by omega);have o:=Ab (jS e0 (jS e1 (jS e2 (jS e3 e4))));clear e0 e1 e2 e3 e4;go_wp2_with (go_at_call 49;refine(Z1 x an nn cn af g ag _ D E ai aj).mono ?_;rintro e l ⟨P,x2,rfl,al,ao,ap,aq,g1,g2,m⟩;have d:=B.after m NLN;have aE:=(fun j=>d.frozen j);have aF:=(d.cell _).trans (Aa o).1;have d1:=(d.cell _).trans (Aa o).2.1;have d2:=(d.cell _).trans (Aa o).2.2.1;have d3:=(d.cell _).trans (Aa o).2.2.2.1;have d4:=(d.cell _).trans (Aa o).2.2.2.2)
   obtain⟨m0,ar,au,av,aw⟩:=AfD (cs:=cs) (p:=k*5) (by omega) (U V x.op) (U V x.num) (Q x.text) (Y (X P) nn nn) (Y (X x2) g g);have ax:=r.trans (m.mono r.size);refine⟨⟨k+1,_,Aa O,by go_num,AfE d _ _ _ _ _,by rw[Z8];exact q,Z9 ax NLN _ _ _ _ _,Ab (Aa M l m _ _ _ _ _ ⟨P,nn,x2,g,m0,ar,au,av,aw,al.put5 (by omega) _ _ _ _ _,ao.put5 (by omega) _ _ _ _ _,⟨ap.put5 (by omega) _ _ _ _ _,aq.put5 (by omega) _ _ _ _ _⟩,by omega,by omega⟩)⟩,by have:=Aa O;simp[intOf];omega⟩
  ·have e:k=n:=by omega
   have ay:=Ab (show Hi wr w.heap.size N from⟨cs,⟨B,by rw[Aa A];exact q⟩,fun j f=>Aa s j f (by have:=Aa A;omega)⟩);clear s;have ae: ¬ ((k:Int)<(n:Int)):=by omega
   go_wp2_with fail
   go_ret
   exact⟨rfl,r,Aa ay⟩
theorem Aaa (s:St)(w:Z):
  jE j4 50 #[jG #[U V s.kind,Q s.name,U V s.cond,U V s.grant]] w fun e w'=>e=jH (jG #[U V s.kind,Q s.name,U V s.cond,U V s.grant])/\Ah w w':=by
 go_enter func50,ntmps50
 go_wp2_with fail
 refine jN (v:= jG #[U V s.kind,Q s.name,U V s.cond,U V s.grant]) (by simp[results,results50,go_sem]) rfl ⟨rfl,?_⟩
 exact((Av w _).alloc (by simp) _).alloc (by simp;omega) _
def IZ (cs:Array R) (p:Nat) (v0 v1 v2 v3:R):Array R:=(((cs.setIfInBounds p v0).setIfInBounds (p+1) v1).setIfInBounds (p+2) v2).setIfInBounds (p+3) v3
theorem Aab (cs:Array R)(p:Nat)(a b c d:R):(IZ cs p a b c d).size=cs.size:=by simp[IZ]
theorem AfF {p:Nat}(h:p+4<=cs.size)(a b c d:R):(IZ cs p a b c d)[p]? =X a/\(IZ cs p a b c d)[p+1]? =X b/\(IZ cs p a b c d)[p+2]? =X c/\(IZ cs p a b c d)[p+3]? =X d:=by
 unfold IZ;refine⟨?_,?_,?_,?_⟩<;>simp[Array.getElem?_setIfInBounds]<;>omega
theorem MH {p q:Nat}(h:q<p)(a b c d:R):(IZ cs p a b c d)[q]? =cs[q]? :=by
 unfold IZ;rw[zq (by omega),zq (by omega),zq (by omega),zq (by omega)]
def StX (cs:Array R) (o:Nat) (s:St):Prop:=cs[o]? =X (U V s.kind)/\cs[o+1]? =X (Q s.name)/\cs[o+2]? =X (U V s.cond)/\cs[o+3]? =X (U V s.grant)
theorem StX.step {o p:Nat}{s:St}(h:StX cs o s)(hp:o+4<=p)(a b c d:R):StX (IZ cs p a b c d) o s:=
 ⟨(MH (by omega) _ _ _ _).trans h.1,(MH (by omega) _ _ _ _).trans h.2.1,(MH (by omega) _ _ _ _).trans h.2.2.1,(MH (by omega) _ _ _ _).trans h.2.2.2⟩
theorem Yb (a:Option jD)(n c:Nat)(N:List St)(w:Z)(h:Pb w a n c N)(I:n<=1048576)(hs:∀x∈N,x.name.size<=1048576):
  jE j4 22 #[Y a n c] w fun e w'=>e=jH (Y (X ⟨w.heap.size,0,T⟩) n n)/\Ah w w'/\Jl w' (X ⟨w.heap.size,0,T⟩) n n N/\Wd w' ⟨w.heap.size,0,T⟩ (n*4) 53:=by
 obtain⟨i,hi,J,K,l⟩:=jZ AiS;have s:=Ab h.len;go_enter func22,ntmps22
 go_wp2_with (at_make;refine wpList_make_full _ rfl _ _ 29 rfl w.heap.size 53 i (jG #[U V 0,Q jU,U V 0,U V 0]) 4 underlying29 hi J K _ _ _ _ n rfl rfl rfl rfl ?b2 ?b3 ?b4 ?_)
 case b2=>rw[l];omega
 case b3=>unfold jM;omega
 case b4=>exact NLN
 intro L t u;have v:Ah w L:=BRN.grown u NLN (fun k y=>by cases y);clear u;obtain⟨M,z,O⟩:=Gp t;have P:=Ab hs;clear t hs;go_wp2_with fail
 go_loopw [4] (fun i wr=>∃ (k:Nat) (cs:Array R),k<=n/\i=U V k/\Ag wr w.heap.size cs 53/\cs.size=n*4/\Ah w wr/\Hid (∀j,(g:j<N.length)->j<k->StX cs (j*4) N[j])) (fun i _=>n-(intOf i).toNat)
 case atStart=>exact⟨0,M,zD _,rfl,z,O,v,Ab (fun j _ h=>absurd h (by omega))⟩
 case round=>
  obtain⟨k,cs,y,rfl,d,l,m,o⟩:=hrel;clear z v;by_cases A:k<n
  ·have S:(k:Int)<(n:Int):=by omega
   have W:k<N.length:=by rw[Aa s];exact A
   obtain⟨b,ae,rfl,af,aa,c1,c2,c3⟩:=(h.below m NLN).cells k W;have B:=Ab (fun (C D E F:R) (e:StX (IZ cs (k*4) C D E F) (k*4) N[k])=>show ∀j,(g:j<N.length)->j<k+1->StX (IZ cs (k*4) C D E F) (j*4) N[j]from fun j g ag=>by
    by_cases ab:j=k
    ·subst ab;exact e
    ·exact(Aa o j g (by omega)).step (by omega) _ _ _ _)
   have G:=Ab A;clear o h;generalize N[k]=x at aa c1 c2 c3 B;obtain⟨u0,e0⟩:=Cb (cs:=cs) (p:=k*4) (by omega);obtain⟨u1,e1⟩:=Cb (cs:=cs) (p:=k*4+1) (by omega);obtain⟨u2,e2⟩:=Cb (cs:=cs) (p:=k*4+2) (by omega);obtain⟨u3,e3⟩:=Cb (cs:=cs) (p:=k*4+3) (by omega);have r:=Ab (jS e0 (jS e1 (jS e2 e3)));clear e0 e1 e2 e3;go_wp2_with (go_at_call 50;refine(Aaa x _).mono ?_;rintro e ah ⟨rfl,H⟩;have f:=d.after H NLN;have ai:=(fun j=>f.frozen j);have aj:=(f.cell _).trans (Aa r).1;have d1:=(f.cell _).trans (Aa r).2.1;have d2:=(f.cell _).trans (Aa r).2.2.1;have d3:=(f.cell _).trans (Aa r).2.2.2)
   have ac:=m.trans (H.mono m.size);refine⟨⟨k+1,_,Aa G,by go_num,(((f.set (k*4) _).set (k*4+1) _).set (k*4+2) _).set (k*4+3) _,(Aab cs (k*4) _ _ _ _).trans l,(((ac.setCell (p:=⟨w.heap.size,k*4,T⟩) NLN _).setCell (p:=⟨w.heap.size,k*4+1,T⟩) NLN _).setCell (p:=⟨w.heap.size,k*4+2,T⟩) NLN _).setCell (p:=⟨w.heap.size,k*4+3,T⟩) NLN _,Ab (Aa B _ _ _ _ (AfF (by omega) _ _ _ _))⟩,by have:=Aa G;simp[intOf];omega⟩
  ·have e:k=n:=by omega
   have ad:=Ab (show Jl wr (X ⟨w.heap.size,0,T⟩) n n N from⟨Aa s,I,Aa P,fun j g=>by
    have q:=Aa o j g (by have:=Aa s;omega);refine⟨w.heap.size,0,rfl,d.lt,?_⟩;rw[zU];exact⟨(d.cell _).trans q.1,(d.cell _).trans q.2.1,(d.cell _).trans q.2.2.1,(d.cell _).trans q.2.2.2⟩⟩)
   clear o;have S: ¬ ((k:Int)<(n:Int)):=by omega
   go_wp2_with fail
   go_ret
   exact⟨rfl,m,Aa ad,_,cs,rfl,d,l⟩
theorem BI {a c d:Value}(R:Ag w b #[a,c,d] t):w.cell? ⟨b,0,T⟩=X a/\w.cell? ⟨b,1,T⟩=X c/\w.cell? ⟨b,2,T⟩=X d:=⟨R.cell 0,R.cell 1,R.cell 2⟩
def Ur (n m p:Nat) (N:List Nd) (L:List St):Prop:=AiR n m N L/\p<=1048576
theorem Ws (a b f:Option jD)(n c m d p g:Nat)(N:List Nd)(L:List St)(T:List Int)(w:Z)(h1:Pa w a n c N)(h2:Pb w b m d L)(h3:Gv w f p g T):
  jE j4 4 #[jG #[Y a n c,Y b m d,Y f p g],U V 1048576] w fun e w'=>ZX 1048576 (Ur n m p N L) e/\Ah w w':=by
 have q:=Ag.new w #[Y a n c,Y b m d,Y f p g] 26;have i:=Av w (.cells #[Y a n c,Y b m d,Y f p g] 26);have v:=h1.below i NLN;have x:=h2.below i NLN;have hp:p<=jM:=zB h3.cap h3.small;go_enter func4,ntmps4
 go_wp2_with (first
  |(go_at_call 11;refine(XZ _ _ _ _ _ _ v (by omega) (by omega)).mono ?_;rintro e B ⟨⟨r,rfl,k⟩,j⟩;have hr1: -1<=r/\r<=1048576:=(by rcases k with h|h<;>omega);have y:=Ab k;clear k;obtain⟨C,D,E⟩:=BI (q.after j NLN);have l:=i.trans (j.mono i.size))
  |(go_at_call 12;refine(X8 _ _ _ _ _ _ (x.below j NLN) (by omega) (by omega)).mono ?_;rintro e F ⟨⟨r2,rfl,hr2⟩,s⟩;have G: -1<=r2/\r2<=1048576:=(by rcases hr2 with h|h<;>omega);have z:=Ab hr2;clear hr2;obtain⟨H,I,J⟩:=BI ((q.after j NLN).after s NLN);have o:=l.trans (s.mono l.size))
  |(go_at_call 13;refine(Rz _ _ _ _ _ hp (by omega) (by omega)).mono ?_;rintro e K ⟨⟨r3,rfl,t⟩,u⟩;rw[u];clear u;have A:=Ab t;clear t))
 ·go_ret
  exact⟨EB _ _,l⟩
 ·go_ret
  exact⟨EB _ _,o⟩
 ·go_ret
  exact⟨EB _ _,o⟩
 ·go_ret
  have a1:=Aa y;have a2:=Aa z;have a3:=Aa A;refine⟨⟨_,rfl,.inr ⟨by omega,by omega,⟨?_,?_⟩,?_⟩⟩,o⟩
  ·rcases a1 with e|e
   ·omega
   ·exact e.2.2
  ·rcases a2 with e|e
   ·omega
   ·exact e.2.2
  ·rcases a3 with e|e
   ·omega
   ·exact e.2.2
theorem DX {P:Program}{ops:Array Oper}{rest:List Oper}{o:Oper}{a:Act}{b:Exit->Act->Z->Prop}(f:o.guard=T)(s x:Operand)(t:jJ)
  (j:o.op= .call { callee:= .builtin .append,args:=#[s,x],argTypes:=#[t,t] })
  (k:Nat)(e:jJ)(i:TypeInfo)(size c:Nat)(d:P.underlying t=X (.slice e))(hi:P.info? e=X i)
  (v:R)(n:Nat)(l:List R)(hs:a.eval s=v)(m:w.ownsRow k e size v n l)(hx:a.eval x=Y T 0 c)
  (h:wpList P ops b rest (a.put o.dst v) w):wpList P ops b (o ::rest) a w:=by
 refine wpList_plain f fun K p=>?_;have q:(Builtin.append_ #[t,t] o.type #[v,Y T 0 c]).run P w= .ok v w:=by
  rcases m.2 with⟨rfl,rfl⟩|⟨g,cap,u,rfl,_,_,r,_⟩
  ·simp[Builtin.append_,jl d,sizeOf,typeInfo,hi,Builtin.lenOf,Builtin.firstCells]
  ·simp[Builtin.append_,jl d,sizeOf,typeInfo,hi,Builtin.lenOf,Builtin.firstCells,r,storeCells]
 unfold Oper.wp;simp[execOp,j,resolve,invoke,builtin,hs,hx,q,Result.andThen];exact p _ _ h
structure ED (w:Z) (lo hi:Nat) (x:Option jD) (n cx:Nat) (y:Option jD) (m cy:Nat) (z:Option jD) (p cz:Nat) (N:List Nd) (nv kv:List R) (L:List St) (T:List Int):Prop where
 nd:Ci w lo (Y x n cx) N nv kv
 st:w.ownsRow lo 53 4 (Y y m cy) m (Dk L)
 ty:w.ownsRow lo 3 1 (Y z p cz) p (Aq T)
 apart:∀q,(Y z p cz).ownBlock=X q->∀j,(hj:j<kv.length)->kv[j].ownBlock≠X q
 inN:InN (Y x n cx) nv kv hi
 inS:∀q,(Y y m cy).ownBlock=X q->q<hi
 inT:∀q,(Y z p cz).ownBlock=X q->q<hi
 top:hi<=w.heap.size
 nn:N.length=n
 ns:L.length=m
 nt:T.length=p
def okT (N:List Nd) (L:List St) (T:List Int):Prop:=(N.length<=65535/\∀x∈N,okN x/\x.text.size<=1048576/\x.names.length+x.kids.length<=65535)/\(L.length<=65535/\∀s∈L,s.name.size<=1048576)/\T.length<=65535
theorem ED.touch {lo hi l n c m d p f:Nat}{x:Option jD}{g:List R}{L:List St}{T:List Int}(h:ED w lo hi x n c y m d z p f N g i L T)(t:As l u w w')(k:hi<=l\/u<=lo):ED w' lo hi x n c y m d z p f N g i L T:=by
 have a:∀q,lo<=q->q<hi->w'.heap[q]? =w.heap[q]? :=fun q h1 h2=>t.block q (zE h2 h.top) (by omega);exact⟨h.nd.upto (fun q hq=>a q (h.nd.lts.1 q hq).1 (h.inN.1 q hq)) (fun j b q hq=>a q (h.nd.lts.2.1 j b q hq).1 (h.inN.2.1 j b q hq)) (fun j b q hq=>a q (h.nd.lts.2.2 j b q hq).1 (h.inN.2.2 j b q hq)),Af h.st (fun q hq=>a q (h.st.lt q hq).1 (h.inS q hq)),Af h.ty (fun q hq=>a q (h.ty.lt q hq).1 (h.inT q hq)),h.apart,h.inN,h.inS,h.inT,zB h.top t.size,h.nn,h.ns,h.nt⟩
theorem ED.below {lo hi B n b c p d:Nat}{x:Option jD}{f g:List R}{L:List St}{T:List Int}(h:ED w lo hi x n b y m c z p d N f g L T)(a:Below B w w')(hB:hi<=B):ED w' lo hi x n b y m c z p d N f g L T:=
 h.touch (l:=hi) (u:=w.heap.size+hi) ⟨a.os,a.tape,a.output,a.size,fun k i j=>a.block k (by omega)⟩ (.inl NLN)
theorem Ci.nds {lo c:Nat}{k l:List R}(h:Ci w lo (Y a n c) N k l)(q:N.length=n)(hs:n<=1048576)(ok:∀x∈N,okN x/\x.text.size<=1048576):GY w a n c N:=by
 refine⟨q,hs,fun x hx=>(ok x hx).2,fun j b=>?_⟩;have m:j<k.length:=by rw[h.len];exact b
 have o:j<l.length:=by rw[h.lenk];exact b
 have d:=UG N k l j b m o;have r:=d 0 (by decide);have s:=d 1 (by decide);have x2:=d 2 (by decide);have x3:=d 3 (by decide);have p:=d 4 (by decide);simp only[RQ,zX,yG,z6]at r s x2 x3 p;obtain⟨g,y⟩:∃g,a=X ⟨g,0,T⟩:=by
  rcases h.own.2 with⟨_,h0⟩|⟨g,cap,D,hv,_⟩
  ·omega
  ·simp only[Value.slice.injEq]at hv;exact⟨g,hv.1⟩
 subst y;subst q;have f:∀i,i<5->w.cell? ⟨g,0+j*5+i,T⟩=(Og N k l)[j*5+i]? :=fun i hi=>by
  rw[zU];exact h.own.cellAt (g:=g) (n:=N.length) (j*5+i) (by omega)
 obtain⟨an,cn,z⟩:=Bo (h.names j b m);obtain⟨A,B,C⟩:=Bo (h.kids j b o);have t:=h.names j b m;have u:=h.kids j b o;rw[z]at x3 t;rw[C]at p u;have v:=ok _ (zH b);refine⟨g,0,rfl,(h.own.lt g rfl).2,an,_,cn,A,_,B,(f 0 (by omega)).trans r,(f 1 (by omega)).trans s,(f 2 (by omega)).trans x2,(f 3 (by omega)).trans x3,(f 4 (by omega)).trans p,Ap.of_owns t (fun i hi=>?_),FK u rfl v.1.2.1⟩;rw[Bv _ i hi];exact v.1.2.2 _ (zH hi)
theorem JA {lo c:Nat}{L:List St}(h:w.ownsRow lo 53 4 (Y a n c) n (Dk L))(i:L.length=n)(k:n<=1048576)(ok:∀s∈L,s.name.size<=1048576):Jl w a n c L:=by
 refine⟨i,k,ok,fun j l=>?_⟩;have b:=Ps L j l;have d:=b 0 (by decide);have f:=b 1 (by decide);have x2:=b 2 (by decide);have x3:=b 3 (by decide);simp only[zX,yG,z6]at d f x2 x3;obtain⟨x,c',e,hx⟩:=Ae h;cases e;obtain⟨g,rfl,hg,hc⟩:=hx (by omega);refine⟨g,0,rfl,(h.lt g rfl).2,?_,?_,?_,?_⟩
 ·rw[zU];exact hc _ _ d
 ·rw[zU];exact hc _ _ f
 ·rw[zU];exact hc _ _ x2
 ·rw[zU];exact hc _ _ x3
theorem ED.mem {lo hi n a m b p c:Nat}{x:Option jD}{f:List R}{L:List St}{T:List Int}(h:ED w lo hi x n a y m b z p c N d f L T)(ok:okT N L T):GY w x n a N/\Jl w y m b L/\AK w z p c T:=by
 have e1:=h.nn;have e2:=h.ns;have e3:=h.nt;exact⟨h.nd.nds e1 (by have:=ok.1.1;omega) (fun x hx=>⟨(ok.1.2 x hx).1,(ok.1.2 x hx).2.1⟩),JA h.st e2 (by have:=ok.2.1.1;omega) ok.2.1.2,FK h.ty e3 (by have:=ok.2.2;omega)⟩
theorem Tu (N:List Nd)(h:N.length<=65535)(ok:∀x∈N,x.names.length+x.kids.length<=65535):Ee 1 N N.length<=8589934592:=by
 have hs:∀L:List Nd,(∀x∈L,x.names.length+x.kids.length<=65535)->(L.map Pc).sum<=65535*L.length:=by
  intro L
  induction L with
  |nil=>intro _;simp
  |cons x L b=>
   intro a;have h1:=b (fun y hy=>a y (zf _ hy));have h2:=a x (za ..);simp only[List.map_cons,List.sum_cons,List.length_cons,Pc];omega
 have:=hs N ok;rw[Ee,Z2];have: 65535*N.length<=65535*65535:=Nat.mul_le_mul_left _ h;omega
def mkY (N:List Nd) (m p:Nat):Int:=(Ee 1 N N.length:Nat)+4*(m:Int)+(p:Int)
theorem Agw {a c d:Value}(R:Ag w b #[a,c,d] t):w.cell? ⟨b,0,T⟩=X a/\w.cell? ⟨b,1,T⟩=X c/\w.cell? ⟨b,2,T⟩=X d:=⟨R.cell 0,R.cell 1,R.cell 2⟩
theorem Tv {lo hi:Nat}(h:Ag w b cs t)(T:As lo hi w w')(a:b<lo\/hi<=b):Ag w' b cs t:=⟨(T.block b h.lt a).trans h.out⟩
theorem Wx {base':Nat}{e:jJ}{size:Nat}{n:Nat}{a xs':List R}(h:w.ownsRow b e size v n a)(c:∀q,v.ownBlock=X q->base'<=q):w.ownsRow base' e size v n a:=by
 refine⟨h.1,?_⟩;rcases h.2 with h2|⟨g,cap,d,hv,h3,h4⟩
 ·exact .inl h2
 ·exact .inr ⟨g,cap,d,hv,c g (by rw[hv];rfl),h4⟩
set_option maxHeartbeats 3200000
theorem Sq (lo hi n i m d p k:Nat)(x y z:Option jD)(N:List Nd)(A B:List R)(L:List St)(T:List Int)(w:Z)(h:ED w lo hi x n i y m d z p k N A B L T)(ok:okT N L T):
  jE j4 9 #[jG #[Y x n i,Y y m d,Y z p k],U V 1] w fun e w'=>e=jH (U V (mkY N m p))/\ED w' lo hi x n i y m d z p k (UH 1 N) A B (Dg (Ee 1 N N.length) m) (BY (Ee 1 N N.length+4*m) p)/\As lo hi w w':=by
 have ab:=Tu N ok.1.1 (fun x hx=>(ok.1.2 x hx).2.2);have hm:m<=65535:=by rw[<-h.ns];exact ok.2.1.1
 have hp:p<=65535:=by rw[<-h.nt];exact ok.2.2
 have ac:=Ag.new w #[Y x n i,Y y m d,Y z p k] 31;have C:=Av w (Fo x n i y m d z p k);have h0:=h.below C h.top;have ad:=Ab ok;have av:=h.top;have I:=Ab h.nn;have J:=Ab (show mkY N m p=((Ee 1 N N.length:Nat):Int)+4*(m:Int)+(p:Int)from rfl);have b:=Ab h;clear h ok;go_enter func9,ntmps9
 go_wp2_with fail
 refine(Sr lo hi x n i N A B 1 _ h0.nd h0.inN h0.top (Aa I) (fun x hx=>((Aa ad).1.2 x hx).1) (by omega)).mono ?_;rintro e t ⟨rfl,c,D,K⟩;have l:=Af (w':=t) h0.st (fun q hq=>K q (h0.st.lt q hq).2 (Ai h0.st h0.nd.own (by decide) q hq) (fun j a=>Ai h0.st (h0.nd.names j (by rw[<-h0.nd.len];exact a) a) (by decide) q hq) (fun j a=>Ai h0.st (h0.nd.kids j (by rw[<-h0.nd.lenk];exact a) a) (by decide) q hq));have E:=Af (w':=t) h0.ty (fun q hq=>K q (h0.ty.lt q hq).2 (Ai h0.ty h0.nd.own (by decide) q hq) (fun j a=>Ai h0.ty (h0.nd.names j (by rw[<-h0.nd.len];exact a) a) (by decide) q hq) (fun j a=>h0.apart q hq j a));have M:=Tv ac D (.inr (by omega));obtain⟨ae,af,ag⟩:=Agw M;generalize O:Ee 1 N N.length=F at ab J|-;have P:=Ab O;clear O;dsimp only;go_wp2_with fail
 obtain⟨ah,S,ai,aj,G,u⟩:=Jz l (Aa b).inS;have aw:=D.size;have ax:=C.size;have ak:S<=t.heap.size:=by rcases G with e|e<;>omega
 refine(Su ah S y m d L _ t ai aj ak (Aa b).ns (by omega) (by omega)).mono ?_;rintro e r ⟨rfl,W,f⟩;rw[zV]at W;have al:Ag r w.heap.size _ 31:=Tv M f (.inr (by rcases G with e|e<;>omega));obtain⟨ay,az,r2⟩:=Agw al;have s:=Af (w':=r) E (fun q hq=>f.block q (E.lt q hq).2 (u q (fun e=>Ai E l (by decide) q hq e)));have g:=c.upto (w':=r) (fun q hq=>f.block q (c.lts.1 q hq).2 (u q (fun e=>Ai l c.own (by decide) q e hq))) (fun j a q hq=>f.block q (c.lts.2.1 j a q hq).2 (u q (fun e=>Ai l (c.names j (by rw[<-c.len];exact a) a) (by decide) q e hq))) (fun j a q hq=>f.block q (c.lts.2.2 j a q hq).2 (u q (fun e=>Ai l (c.kids j (by rw[<-c.lenk];exact a) a) (by decide) q e hq)));clear ae af ag;dsimp only;go_wp2_with fail
 obtain⟨ao,ap,aq,ar,au,v⟩:=Jz s (Aa b).inT;refine(Ma ao ap z p k T _ r aq ar (Aa b).nt (by omega) (by omega)).mono ?_;rintro e aA ⟨rfl,aa,o⟩;have e5:((F:Int)+4*(m:Int)).toNat=F+4*m:=by omega
 rw[e5]at aa;have aB:=f.size;have aC:=o.size;dsimp only;go_wp2_with fail
 go_ret
 have H:r.ownsRow lo 53 4 (Y y m d) m (Dk (Dg F m)):=Wx (xs':= []) W (fun q hq=>(l.lt q hq).1);refine⟨by rw[Aa J];rfl,⟨?_,?_,?_,(Aa b).apart,(Aa b).inN,(Aa b).inS,(Aa b).inT,by omega,by rw[FJ];exact Aa I,EM _ _,CL _ _⟩,?_⟩
 ·exact g.upto (fun q hq=>o.block q (g.lts.1 q hq).2 (v q (fun e=>Ai s g.own (by decide) q e hq))) (fun j a q hq=>o.block q (g.lts.2.1 j a q hq).2 (v q (fun e=>Ai s (g.names j (by rw[<-g.len];exact a) a) (by decide) q e hq))) (fun j a q hq=>o.block q (g.lts.2.2 j a q hq).2 (v q (fun e=>(Aa b).apart q e j a hq)))
 ·rw[Aa P];exact Af H (fun q hq=>o.block q (H.lt q hq).2 (v q (fun e=>Ai H s (by decide) q hq e)))
 ·rw[Aa P];exact Wx (xs':= []) aa (fun q hq=>(s.lt q hq).1)
 ·exact((As.of_below C NLN).trans D).trans ((f.wide G).trans (o.wide au))
theorem Kv (lo hi n b m c p d:Nat)(x y z:Option jD)(N:List Nd)(l o:List R)(L:List St)(T:List Int)(w:Z)(h:ED w lo hi x n b y m c z p d (UH 1 N) l o (Dg (Ee 1 N N.length) m) (BY (Ee 1 N N.length+4*m) p))(ok:okT N L T)(hm:m<=65535)(hp:p<=65535):
  jE j4 10 #[jG #[Y x n b,Y y m c,Y z p d],U V 1] w fun e w'=>e=jH (U V (mkY N m p))/\Ah w w':=by
 have A:=Tu N ok.1.1 (fun x hx=>(ok.1.2 x hx).2.2);have B:=Ag.new w #[Y x n b,Y y m c,Y z p d] 31;have f:=Av w (Fo x n b y m c z p d);have h0:=h.below f h.top;have r:=Ab (show mkY N m p=((Ee 1 N N.length:Nat):Int)+4*(m:Int)+(p:Int)from rfl);have s:N.length=n:=by have:=h.nn;rwa[FJ]at this
 have C:=Ab s;have D:=Ab ok;clear s ok;go_enter func10,ntmps10
 go_wp2_with fail
 refine(Ss lo x n b N l o 1 _ h0.nd (Aa C) (fun x hx=>((Aa D).1.2 x hx).1) (by omega)).mono ?_;rintro e j ⟨rfl,a⟩;have t:=B.after a NLN;obtain⟨E,F,G⟩:=Agw t;have u:=Af (w':=j) h0.st (fun q hq=>a.block q (h0.st.lt q hq).2);have k:=Af (w':=j) h0.ty (fun q hq=>a.block q (h0.ty.lt q hq).2);generalize H:Ee 1 N N.length=g at A r u k;rw[H]at*;have O: ¬ (((g:Nat):Int)<0):=by omega
 have P: ¬ (((g:Nat):Int)+4*(m:Int)<0):=by omega
 dsimp only;go_wp2_with fail
 refine(Sv lo y m c _ j (by rw[zV];exact u) (by omega) (by omega)).mono ?_;rintro e v ⟨rfl,i⟩;have I:=t.after i NLN;clear E F G;obtain⟨S,W,r2⟩:=Agw I;have J:=Af (w':=v) k (fun q hq=>i.block q (k.lt q hq).2);have e5:((g:Int)+4*(m:Int)).toNat=g+4*m:=by omega
 have K:=FK J (CL _ _) (by omega);dsimp only;go_wp2_with fail
 refine(Mb z p d _ v (by rw[e5];exact K) (by omega) (by omega)).mono ?_;rintro e aa ⟨rfl,M⟩;dsimp only;go_wp2_with fail
 go_ret
 exact⟨by rw[Aa r];rfl,((f.trans (a.mono f.size)).trans (i.mono (by have:=f.size;have:=a.size;omega))).trans (M.mono (by have:=f.size;have:=a.size;have:=i.size;omega))⟩
end Go.Proofs.YteiieikcjcfkkaaGreatDoor
