import Derived.Test.YteiieikcjcfkkaaGreatDoorMXAM
import Derived.Test.YteiieikcjcfkkaaGreatDoorDVF
import Derived.Test.YteiieikcjcfkkaaGreatDoorMXAL
open Go.Proofs.Tryz
open Option renaming none->T,some->X
open Go.Value renaming int->U,slice->Y,string->Q,iface->jB,agg->jG,pointer->jK,nilIface->jL,tuple->jO
open Go.IntKind renaming i64->V
open Go renaming World->Z,Value->R,Addr->jD,Calls->jE,TypeId->jJ,maxLen->jM,bodyPost_ret->jN,results->jR,Ending->jT
open Go.Ending renaming returned->jH
open List renaming length_cons->jY
open Go.Proofs.Tryz renaming prog->j4
namespace Go.Proofs.YteiieikcjcfkkaaGreatDoor
open Go.RowKit
set_option linter.unusedVariables false
set_option maxRecDepth 100000
set_option maxHeartbeats 6400000
variable {a:jT}{o:Ev}{op:Int}{L:List Int}{B n c:Nat}{v:Vv}{w w':Z}
def Dk (L:List St):List R:=L.flatMap fun s=> [U V s.kind,Q s.name,U V s.cond,U V s.grant]
theorem Ad3:∀(L:List St),(Dk L).length=L.length*4
 |[]=>rfl
 |s ::L=>by
  have:=Ad3 L;rw[Dk,zi,zC];rw[Dk]at this;rw[this,jY];simp;omega
theorem Ps:∀(L:List St) (j:Nat) (h:j<L.length),∀a,a<4->(Dk L)[j*4+a]? =([U V L[j].kind,Q L[j].name,U V L[j].cond,U V L[j].grant]:List R)[a]?
 |s ::L,0,_,a,hr=>by
  rw[Dk,zi,z0,zU,Z5 (by simp;omega)];rfl
 |s ::L,j+1,h,a,hr=>by
  have b:=Ps L j (by simpa using h) a hr;rw[Dk,zi,yL (by simp;omega)];have e:(j+1)*4+a-([U V s.kind,Q s.name,U V s.cond,U V s.grant]:List R).length=j*4+a:=by simp;omega
  rw[e];rw[Dk]at b;rw[b];rfl
 |[],_,h,_,_=>absurd h (by simp)
theorem Wv:∀(L:List St) (j:Nat) (h:j<L.length) (y:St),Dk (L.set j y)=((((Dk L).set (j*4) (U V y.kind)).set (j*4+1) (Q y.name)).set (j*4+2) (U V y.cond)).set (j*4+3) (U V y.grant)
 |s ::L,0,_,y=>by simp[Dk]
 |s ::L,j+1,h,y=>by
  have b:=Wv L j (by simpa using h) y;have e:∀(A:List R) i v,([U V s.kind,Q s.name,U V s.cond,U V s.grant]++A).set ((j+1)*4+i) v=[U V s.kind,Q s.name,U V s.cond,U V s.grant]++A.set (j*4+i) v:=fun A i v=>by
   rw[List.set_append_right _ _ (by simp;omega)]
   congr 2
   simp;omega
  have c:∀x a,Dk (x ::a)=[U V x.kind,Q x.name,U V x.cond,U V x.grant]++Dk a:=fun x a=>by simp[Dk]
  rw[zk,c,c,b];have e0:=e (Dk L) 0 (U V y.kind);simp only[zX]at e0;rw[e0,e,e,e]
 |[],_,h,_=>absurd h (by simp)
def Pf (k j:Nat):St:=⟨((k+4*j:Nat):Int),Br (k+4*j+1),((k+4*j+2 :Nat):Int),((k+4*j+3 :Nat):Int)⟩
def Dg (k n:Nat):List St:=(List.range n).map (Pf k)
def IC (L:List St) (k j:Nat):List St:=Dg k j++L.drop j
theorem EM (k n:Nat):(Dg k n).length=n:=by simp[Dg]
theorem Ww (k n:Nat):Dg k (n+1)=Dg k n++[Pf k n]:=by simp[Dg,List.range_succ]
theorem Ab2 (L:List St)(k:Nat):IC L k 0=L:=by simp[IC,Dg]
theorem Ab3 (L:List St)(k:Nat):IC L k L.length=Dg k L.length:=by simp[IC]
theorem Ad4 (L:List St)(k j:Nat)(h:j<=L.length):(IC L k j).length=L.length:=by
 rw[IC,zC,EM,List.length_drop];omega
theorem Ad5 (L:List St)(k j:Nat)(h:j<L.length):(IC L k j).set j (Pf k j)=IC L k (j+1):=by
 rw[IC,z5 h,List.set_append_right _ _ (by rw[EM];exact NLN),EM,Nat.sub_self,zh,IC,Ww,zT];rfl
theorem Su (lo hi:Nat)(a:Option jD)(n c:Nat)(L:List St)(x:Int)(w:Z)(h:w.ownsRow lo 53 4 (Y a n c) n (Dk L))(N:∀q,(Y a n c).ownBlock=X q->q<hi)(af:hi<=w.heap.size)(C:L.length=n)(hx: 0<=x)(ag:x+4*n<=35184372088832):
  jE j4 35 #[Y a n c,U V x] w fun e w'=>e=jH (U V (x+4*n))/\w'.ownsRow lo 53 4 (Y a n c) n (Dk (Dg x.toNat n))/\As lo hi w w':=by
 obtain⟨k,rfl⟩:=yJ hx;rw[zV];have D:=Ab C;clear C;go_enter func35,ntmps35
 go_wp2
 go_loopw [1,5] (fun q i wr=>∃ (j:Nat) (z:Int),j<=n/\i=U V j/\q=U V z/\z=((k+4*j:Nat):Int)/\wr.ownsRow lo 53 4 (Y a n c) n (Dk (IC L k j))/\As lo hi w wr) (fun _ i _=>n-(intOf i).toNat)
 case atStart=>exact⟨0,k,zD _,rfl,rfl,by simp,by rw[Ab2];exact h,As.refl _ _ _⟩
 case round=>
  obtain⟨j,z,ah,rfl,rfl,d,b,y⟩:=hrel;by_cases E:j<n
  ·have O:j<L.length:=by rw[Aa D];exact E
   have ai:(IC L k j).length=L.length:=Ad4 L k j (by omega);have F:j<(IC L k j).length:=by omega
   have aj:(j:Int)<(n:Int):=by omega
   have ak: 0<=z:=by omega
   have al:z+4<=35184372088832:=by omega
   obtain⟨g,hg⟩:∃g,a=X ⟨g,0,T⟩:=by
    rcases b.2 with⟨_,h0⟩|⟨g,cap,ao,hv,_⟩
    ·omega
    ·simp only[Value.slice.injEq]at hv;exact⟨g,hv.1⟩
   subst hg;have m:=(b.lt g rfl).1;have o:g<hi:=N g rfl;have f:=Ps (IC L k j) j F;have A:=f 0 (by decide);have p:=f 1 (by decide);have x2:=f 2 (by decide);have x3:=f 3 (by decide);simp only[zX,yG,z6]at A p x2 x3;have G:=(b.cellAt (j*4) (by omega)).trans A;have P:=fun i=>b.frozenAt i;have r:=(b.stored (j*4) (U V z)).1;have s:=y.trans (As.setCell (lo:=lo) (hi:=hi) wr ⟨g,j*4,T⟩ (U V z) m o);have H:=Ab d;have I:=Ab E;generalize (IC L k j)[j].kind=ap at G;generalize (IC L k j)[j].name=S at p;generalize (IC L k j)[j].cond=W at x2;generalize (IC L k j)[j].grant=aa at x3;clear d b A y f;go_wp2_with fail
   generalize wr.setCell ⟨g,j*4,T⟩ (U V z)=ab at r s|-;clear G P;refine(BN (z+1) ab (by omega) (by omega)).mono ?_;rintro e l ⟨rfl,B⟩;have t:=Af (w':=l) r (fun q hq=>B.block q (r.lt q hq).2);have J:=s.trans (As.of_below (lo:=lo) (hi:=hi) B (by have:=s.size;omega));clear r s B;have c1:l.cell? ⟨g,j*4+1,T⟩=X (Q S):=(t.cellAt (j*4+1) (by omega)).trans (by rw[zx (by omega)];exact p);have aq:=fun i=>t.frozenAt i;have u:=(t.stored (j*4+1) (Q (Br (z+1).toNat))).1;have K:=J.trans (As.setCell (lo:=lo) (hi:=hi) l ⟨g,j*4+1,T⟩ (Q (Br (z+1).toNat)) m o);have c2:(l.setCell ⟨g,j*4+1,T⟩ (Q (Br (z+1).toNat))).cell? ⟨g,j*4+2,T⟩=X (U V W):=(u.cellAt (j*4+2) (by omega)).trans (by rw[zx (by omega),zx (by omega)];exact x2);have ar:=fun i=>u.frozenAt i;have v:=(u.stored (j*4+2) (U V (z+1+1))).1;have M:=K.trans (As.setCell (lo:=lo) (hi:=hi) _ ⟨g,j*4+2,T⟩ (U V (z+1+1)) m o);have c3:((l.setCell ⟨g,j*4+1,T⟩ (Q (Br (z+1).toNat))).setCell ⟨g,j*4+2,T⟩ (U V (z+1+1))).cell? ⟨g,j*4+3,T⟩=X (U V aa):=(v.cellAt (j*4+3) (by omega)).trans (by rw[zx (by omega),zx (by omega),zx (by omega)];exact x3);have au:=fun i=>v.frozenAt i;have ac:=Ab (v.stored (j*4+3) (U V (z+1+1+1))).1;have ad:=M.trans (As.setCell (lo:=lo) (hi:=hi) _ ⟨g,j*4+3,T⟩ (U V (z+1+1+1)) m o);clear t u v J K M p x2 x3;dsimp only;go_wp2_with fail
   go_roundw
   case rel=>
    refine⟨j+1,z+1+1+1+1,Aa I,by go_num,by go_num,by have:=Aa H;omega,?_,ad⟩
    have d:=Aa H;rw[<-Ad5 L k j O,Wv _ _ F];have e0:(Pf k j).kind=z:=d.symm;have e1:(Pf k j).name=Br (z+1).toNat:=by show Br (k+4*j+1)=_;rw[show(z+1).toNat=k+4*j+1 by omega]
    have e2:(Pf k j).cond=z+1+1:=by show((k+4*j+2 :Nat):Int)=_;omega
    have e3:(Pf k j).grant=z+1+1+1:=by show((k+4*j+3 :Nat):Int)=_;omega
    rw[e0,e1,e2,e3];exact Aa ac
   case measure=>have:=Aa I;simp[intOf];omega
  ·have e:j=n:=by omega
   subst e;go_wp2
   go_ret
   have ae:IC L k j=Dg k j:=by have:=Ab3 L k;rwa[Aa D]at this
   rw[ae]at b;exact⟨by rw[d];push_cast;rfl,b,y⟩
theorem Sv (lo:Nat)(a:Option jD)(n c:Nat)(x:Int)(w:Z)(h:w.ownsRow lo 53 4 (Y a n c) n (Dk (Dg x.toNat n)))(hx: 0<=x)(A:x+4*n<=35184372088832):
  jE j4 38 #[Y a n c,U V x] w fun e w'=>e=jH (U V (x+4*n))/\Ah w w':=by
 obtain⟨k,rfl⟩:=yJ hx;rw[zV]at h;go_enter func38,ntmps38
 go_wp2
 go_loopw [1,5] (fun q i wr=>∃ (j:Nat) (z:Int),j<=n/\i=U V j/\q=U V z/\z=((k+4*j:Nat):Int)/\Ah w wr) (fun _ i _=>n-(intOf i).toNat)
 case atStart=>exact⟨0,k,zD _,rfl,rfl,by simp,BRN⟩
 case round=>
  obtain⟨j,z,B,rfl,rfl,d,f⟩:=hrel;by_cases s:j<n
  ·have C:(j:Int)<(n:Int):=by omega
   have v:j<(Dg k n).length:=by rw[EM];exact s
   have D: 0<=z:=by omega
   have E:z+4<=35184372088832:=by omega
   have h2:=Af (w':=wr) h (fun q hq=>f.block q (h.lt q hq).2);obtain⟨g,hg⟩:∃g,a=X ⟨g,0,T⟩:=by
    rcases h.2 with⟨_,h0⟩|⟨g,cap,F,hv,_⟩
    ·omega
    ·simp only[Value.slice.injEq]at hv;exact⟨g,hv.1⟩
   subst hg;have r:=(h2.lt g rfl).2;have G:=EM k n;have b:=Ps (Dg k n) j v;have t:(Dg k n)[j]=Pf k j:=by simp[Dg]
   rw[t]at b;have l:=b 0 (by decide);have m:=b 1 (by decide);have x2:=b 2 (by decide);have x3:=b 3 (by decide);simp only[zX,yG,z6]at l m x2 x3;have e0:(Pf k j).kind=z:=d.symm;have e1:(Pf k j).name=Br (z+1).toNat:=by show Br (k+4*j+1)=_;rw[show(z+1).toNat=k+4*j+1 by omega]
   have e2:(Pf k j).cond=z+1+1:=by show((k+4*j+2 :Nat):Int)=_;omega
   have e3:(Pf k j).grant=z+1+1+1:=by show((k+4*j+3 :Nat):Int)=_;omega
   rw[e0]at l;rw[e1]at m;rw[e2]at x2;rw[e3]at x3;have H:=(h2.cellAt (j*4) (by omega)).trans l;have c1:=(h2.cellAt (j*4+1) (by omega)).trans m;have c2:=(h2.cellAt (j*4+2) (by omega)).trans x2;have c3:=(h2.cellAt (j*4+3) (by omega)).trans x3;have y:=Ab d;have u:=Ab s;clear t e0 e1 e2 e3 d l m x2 x3 b h2;go_wp2_with fail
   go_region_held3 (fun w'=>w'.cell? ⟨g,j*4+1,T⟩=X (Q (Br (z+1).toNat))) (go_keep)
    ((go_at_call 71;refine(BN _ _ (by omega) (by omega)).mono ?_;rintro e I ⟨rfl,o⟩;have J:=(o.cell (p:=⟨g,j*4+1,T⟩) r).trans c1;have K:=(o.cell (p:=⟨g,j*4+2,T⟩) r).trans c2;have L:=(o.cell (p:=⟨g,j*4+3,T⟩) r).trans c3))
   all_goals
    go_wp2_with fail
    go_roundw
    case rel=>exact⟨j+1,z+1+1+1+1,Aa u,by go_num,by go_num,by have:=Aa y;omega,f.drew.trans (o.mono f.size)⟩
    case measure=>have:=Aa u;simp[intOf];omega
  ·have e:j=n:=by omega
   subst e;go_wp2
   go_ret
   exact⟨by rw[d];push_cast;rfl,f⟩
section
variable {aS aO aZ aW : jD} {G : Nat -> Prop}
def OL (G:Nat->Prop) (aS aO aZ aW:jD) (o:Ev) (w:Z) (r:jT) (w':Z):Prop:=
 (match o with
  |.ok v=>∃x,r=jH (jO #[x,jL])/\VIs G w' x v
  |.err c=>∃x e,r=jH (jO #[x,e])/\Adh aS aO aZ aW w' e c)/\Ah w w'
theorem OL.form (h:OL G aS aO aZ aW o w a w'):∃x e,a=jH (jO #[x,e])/\OL G aS aO aZ aW o w (jH (jO #[x,e])) w':=by
 obtain⟨h1,h2⟩:=h;cases o with
 |ok v=>obtain⟨x,rfl,h3⟩:=h1;exact⟨_,_,rfl,⟨_,rfl,h3⟩,h2⟩
 |err c=>obtain⟨x,e,rfl,h3⟩:=h1;exact⟨_,_,rfl,⟨_,_,rfl,h3⟩,h2⟩
theorem OL.back {a w':Z}{b:jT}(h:OL G aS aO aZ aW o a b w')(c:Ah w a):OL G aS aO aZ aW o w b w':=⟨h.1,c.trans (h.2.mono c.size)⟩
theorem Adh.form {v:R}{c:Int}(h:Adh aS aO aZ aW w v c):∃u,v=jB 245 u:=by
 obtain⟨_,b,d,a,h2,_⟩:=h;exact⟨_,h2⟩
def PH (P:Z->Prop):Prop:=∀W W',P W->Ah W W'->P W'
def VC (G:Nat->Prop) (aS aO aZ aW:jD) (eb:Nat) (P:Z->Prop) (x:R) (o:Ev):Prop:=∀W,P W->jE j4 138 #[jK (X ⟨eb,0,T⟩),x] W (OL G aS aO aZ aW o W)
def Adq (op:Int) (o:Ev):Ev:=match o with
 |.ok v=>GV op v
 |.err c=> .err c
theorem AbA (p:Nat)(P:Z->Prop)(h:PH P)(hS:∀a,P a->CZ a aS aO aZ aW)(i op:Int)(d:jJ)(f:R)(g:Ev)(K:Hid (VC G aS aO aZ aW p P (jB d f) g))(r:∀v,g= .ok v->∃t,nz (Ba op [v.ty])=X t)(a:Z)(L:P a):
  jE j4 169 #[jK (X ⟨p,0,T⟩),jG #[U V i,U V op,jB d f]] a (OL G aS aO aZ aW (Adq op g) a):=by
 have M:=Ag.new a #[U V i,U V op,jB d f] 166;have j:=Av a (.cells #[U V i,U V op,jB d f] 166);have s:=h a _ L j;have N:=Ab r;have O:=Ab h;have S:=Ab hS;clear r h hS;go_enter func169,ntmps169
 go_wp2_with fail
 refine(Aa K _ s).mono ?_;rintro u w ⟨b,k⟩;have l:=j.trans (k.mono j.size);have A:=M.after k NLN;have c1:w.cell? ⟨a.heap.size,1,T⟩=X (U V op):=A.cell 1;have W:=Aa O _ _ s k;cases g with
 |err c=>
  obtain⟨x,e,rfl,B⟩:=b;obtain⟨aa,rfl⟩:=B.form;dsimp only;go_wp2_with fail
  exact jN (v:= jO #[jL,jB 245 aa]) (by simp[jR,results169,go_sem]) rfl ⟨⟨_,_,rfl,B⟩,l⟩
 |ok v=>
  obtain⟨x,rfl,hv⟩:=b;obtain⟨tt,C⟩:=Aa N v rfl;have D:=Ab (Agb op x v tt w (Aa S _ W) hv C);obtain⟨ag,ah,rfl⟩:=hv.form;clear hv C;dsimp only;go_wp2_with fail
  refine(Aa D).mono ?_;rintro u ab ⟨b,E⟩;have m:=l.trans (E.mono l.size);have ac:=A.after E NLN;have ai:ab.cell? ⟨a.heap.size,0,T⟩=X (U V i):=ac.cell 0;generalize he:GV op v=o2 at b;have F:=Ab (show Adq op (.ok v)=o2 from he);clear he D;cases o2 with
  |ok z=>
   obtain⟨y,rfl,H⟩:=b;obtain⟨ty,ad,rfl⟩:=H.form;dsimp only;go_wp2_with fail
   refine jN (v:= jO #[jB ty ad,jL]) (by simp[jR,results169,go_sem]) rfl ?_
   rw[Aa F];exact⟨⟨_,rfl,H⟩,m⟩
  |err c=>
   obtain⟨y,rfl,n,o⟩:=b;obtain⟨q,hq⟩:=GW (aS:=aS) (aO:=aO) (aZ:=aZ) (aW:=aW) (c:=c) ⟨n,o⟩;have I:=Ab (And.intro (And.intro n o) hq);rw[hq];clear hq n o;dsimp only;go_wp2_with fail
   refine(Vx i q _).mono ?_;rintro u aj ⟨⟨J,rfl,ae⟩,af⟩;dsimp only;go_wp2_with fail
   refine jN (v:= jO #[jL,jB 245 (jK (X ⟨J,0,T⟩))]) (by simp[jR,results169,go_sem]) rfl ?_
   rw[Aa F];exact⟨⟨_,_,rfl,(Aa I).1,J,i,q,rfl,ae,(Aa I).2⟩,m.trans (af.mono m.size)⟩
noncomputable def AhS (op:Int) (o1 o2:Ev):Ev:=match o1 with
 |.ok v=>if Jf op v then .ok v else match o2 with
  |.ok u=>if op=25\/op=26 then .ok u else Ch op v u
  |.err c=> .err c
 |.err c=> .err c
theorem Adr {o2:Ev}(h:Jf op v=true):AhS op (.ok v) o2= .ok v:=if_pos h
theorem Agd {o2:Ev}(h:Jf op v=false):AhS op (.ok v) o2=(match o2 with| .ok u=>if op=25\/op=26 then .ok u else Ch op v u| .err c=> .err c):=if_neg (by rw[h];decide)
theorem YC (s:Nat)(P:Z->Prop)(w:PH P)(hS:∀a,P a->CZ a aS aO aZ aW)(ax:∀a,P a->∀b,a.heap.size<=b->G b)(i op:Int)(l:jJ)(m:R)(f:jJ)(g:R)(h o2:Ev)(ay:Hid (VC G aS aO aZ aW s P (jB l m) h))(az:Hid (VC G aS aO aZ aW s P (jB f g) o2))(M:∀v,h= .ok v->op=25\/op=26->v.ty=1)(N:∀v u,h= .ok v->o2= .ok u->∃t,nz (Ba op [v.ty,u.ty])=X t)(a:Z)(aA:P a):
  jE j4 170 #[jK (X ⟨s,0,T⟩),jG #[U V i,U V op,jB l m,jB f g]] a (OL G aS aO aZ aW (AhS op h o2) a):=by
 have aB:=Ag.new a #[U V i,U V op,jB l m,jB f g] 168;have A:=Av a (.cells #[U V i,U V op,jB l m,jB f g] 168);have O:=w a _ aA A;have S:=Ab N;have W:=Ab M;have aa:=Ab w;have aC:=Ab hS;clear N M w hS;go_enter func170,ntmps170
 go_wp2_with fail
 refine(Aa ay _ O).mono ?_;rintro n B ⟨d,C⟩;have o:=A.trans (C.mono A.size);have D:=aB.after C NLN;have c1:B.cell? ⟨a.heap.size,1,T⟩=X (U V op):=D.cell 1;have c3:B.cell? ⟨a.heap.size,3,T⟩=X (jB f g):=D.cell 3;have ab:=Aa aa _ _ O C;cases h with
 |err c=>
  obtain⟨x,e,rfl,j⟩:=d;obtain⟨E,rfl⟩:=j.form;dsimp only;go_wp2_with fail
  exact jN (v:= jO #[x,jB 245 E]) (by simp[jR,results170,go_sem]) rfl ⟨⟨_,_,rfl,j⟩,o⟩
 |ok v=>
  obtain⟨x,rfl,hv⟩:=d;have F:=Ab (Vy op x v B hv (Aa W v rfl));have aD:=Ab (Aa S v);clear S W;obtain⟨ac,ad,aE⟩:=hv.form;subst aE;have ae:=Ab hv;clear hv;generalize af:Jf op v=aF at F;have ag:=Ab af;clear af;dsimp only;go_wp2_with fail
  refine(Aa F).mono ?_;rintro n aR ⟨rfl,ah⟩;rw[ah];clear ah F;cases aF with
  |true=>
   dsimp only;go_wp2_with fail
   refine jN (v:= jO #[jB ac ad,jL]) (by simp[jR,results170,go_sem]) rfl ?_
   rw[Adr (Aa ag)];exact⟨⟨_,rfl,Aa ae⟩,o⟩
  |false=>
   have H:=Ab (Agd (o2:=o2) (Aa ag));dsimp only;go_wp2_with fail
   refine(Aa az _ ab).mono ?_;rintro n ai ⟨d,p⟩;have r:=o.trans (p.mono o.size);have aj:=D.after p NLN;have d1:ai.cell? ⟨a.heap.size,1,T⟩=X (U V op):=aj.cell 1;have ak:=Aa aa _ _ ab p;have aG:=Ab ((Aa ae).below p NLN);cases o2 with
   |err c=>
    obtain⟨y,e,rfl,j⟩:=d;obtain⟨E,rfl⟩:=j.form;dsimp only;go_wp2_with fail
    refine jN (v:= jO #[y,jB 245 E]) (by simp[jR,results170,go_sem]) rfl ?_
    rw[Aa H];exact⟨⟨_,_,rfl,j⟩,r⟩
   |ok u=>
    obtain⟨y,rfl,k⟩:=d;obtain⟨ty,al,aH⟩:=k.form;subst aH;by_cases hc:op=25\/op=26
    ·have I:=Ab ((Aa H).trans (if_pos hc));have aI:=Ab k;clear k;rcases hc with rfl|rfl
     all_goals
      dsimp only;go_wp2_with fail
      refine jN (v:= jO #[jB ty al,jL]) (by simp[jR,results170,go_sem]) rfl ?_
      rw[Aa I];exact⟨⟨_,rfl,Aa aI⟩,r⟩
    ·have I:=Ab ((Aa H).trans (if_neg hc));have aT:(op==25)=false:=zA.2 (fun e=>hc (.inl e));have aU:(op==26)=false:=zA.2 (fun e=>hc (.inr e));obtain⟨tt,ao⟩:=Aa aD u (by first|rfl|trivial) (by first|rfl|trivial)
     have ap:=Ab (Agc op (jB ac ad) (jB ty al) v u tt ai (Aa aC _ ak) (Aa aG) k ao ⟨fun e=>hc (.inl e),fun e=>hc (.inr e)⟩ (ax _ ak));clear hc k ao;dsimp only;go_wp2_with fail
     refine(Aa ap).mono ?_;rintro n aJ ⟨d,aq⟩;have J:=r.trans (aq.mono r.size);have aK:=aj.after aq NLN;have aV:aJ.cell? ⟨a.heap.size,0,T⟩=X (U V i):=aK.cell 0;generalize he:Ch op v u=aL at d;have ar:=Ab ((Aa I).trans he);clear he ap;cases aL with
     |ok z=>
      obtain⟨q,rfl,au⟩:=d;obtain⟨aM,aN,rfl⟩:=au.form;dsimp only;go_wp2_with fail
      refine jN (v:= jO #[jB aM aN,jL]) (by simp[jR,results170,go_sem]) rfl ?_
      rw[Aa ar];exact⟨⟨_,rfl,au⟩,J⟩
     |err c=>
      obtain⟨x9,rfl,K,L⟩:=d;obtain⟨q,hq⟩:=GW (aS:=aS) (aO:=aO) (aZ:=aZ) (aW:=aW) (c:=c) ⟨K,L⟩;have av:=Ab (And.intro (And.intro K L) hq);rw[hq];clear hq K L;dsimp only;go_wp2_with fail
      refine(Vx i q _).mono ?_;rintro n aX ⟨⟨aw,rfl,aP⟩,aQ⟩;dsimp only;go_wp2_with fail
      refine jN (v:= jO #[jL,jB 245 (jK (X ⟨aw,0,T⟩))]) (by simp[jR,results170,go_sem]) rfl ?_
      rw[Aa ar];exact⟨⟨_,_,rfl,(Aa av).1,aw,i,q,rfl,aP,(Aa av).2⟩,J.trans (aQ.mono J.size)⟩
noncomputable def Ajc (o1 o2 o3:Ev):Ev:=match o1 with
 |.ok (.bool b)=>if b then o2 else o3
 |.ok _=> .err 4
 |.err c=> .err c
theorem YD (l:Nat)(P:Z->Prop)(p:PH P)(i:Int)(m:jJ)(n:R)(f:jJ)(g:R)(h:jJ)(j:R)(o o2 u:Ev)(F:Hid (VC G aS aO aZ aW l P (jB m n) o))(H:Hid (VC G aS aO aZ aW l P (jB f g) o2))(I:Hid (VC G aS aO aZ aW l P (jB h j) u))(w:∀v,o= .ok v->v.ty=1)(a:Z)(J:P a):
  jE j4 171 #[jK (X ⟨l,0,T⟩),jG #[U V i,jB m n,jB f g,jB h j]] a (OL G aS aO aZ aW (Ajc o o2 u) a):=by
 have K:=Ag.new a #[U V i,jB m n,jB f g,jB h j] 213;have q:=Av a (.cells #[U V i,jB m n,jB f g,jB h j] 213);have y:=p a _ J q;have z:=Ab w;have L:=Ab p;have O:=Um;clear w p;go_enter func171,ntmps171
 go_wp2_with fail
 refine(Aa F _ y).mono ?_;rintro A B ⟨d,r⟩;have s:=q.trans (r.mono q.size);have C:=K.after r NLN;have c2:B.cell? ⟨a.heap.size,2,T⟩=X (jB f g):=C.cell 2;have c3:B.cell? ⟨a.heap.size,3,T⟩=X (jB h j):=C.cell 3;have D:=Aa L _ _ y r;cases o with
 |err c=>
  obtain⟨x,e,rfl,E⟩:=d;obtain⟨M,rfl⟩:=E.form;dsimp only;go_wp2_with fail
  exact jN (v:= jO #[jL,jB 245 M]) (by simp[jR,results171,go_sem]) rfl ⟨⟨_,_,rfl,E⟩,s⟩
 |ok v=>
  obtain⟨x,rfl,hv⟩:=d;obtain⟨b,rfl⟩:=Vv.bool_of (Aa z v rfl);obtain rfl:x=jB 251 (.bool b):=hv;clear z;cases b with
  |true=>
   dsimp only;go_wp2_with fail
   refine(Aa H _ D).mono ?_;intro A N d;obtain⟨x2,e2,rfl,k⟩:=d.form;have t:=Ab k;clear k d;dsimp only;go_wp2_with fail
   exact jN (v:= jO #[x2,e2]) (by simp[jR,results171,go_sem]) rfl ((Aa t).back s)
  |false=>
   dsimp only;go_wp2_with fail
   refine(Aa I _ D).mono ?_;intro A N d;obtain⟨x2,e2,rfl,k⟩:=d.form;have t:=Ab k;clear k d;dsimp only;go_wp2_with fail
   exact jN (v:= jO #[x2,e2]) (by simp[jR,results171,go_sem]) rfl ((Aa t).back s)
end
structure Gv (w:Z) (a:Option jD) (n c:Nat) (L:List Int):Prop where
 len:L.length=n
 cap:n<=c
 small:c<=jM
 cells:∀j,(h:j<L.length)->∃b off,a=X ⟨b,off,T⟩/\b<w.heap.size/\w.cell? ⟨b,off+j,T⟩=X (U V L[j])
def OC (w:Z) (b o:Nat) (x:Nd):Prop:=∃an nn cn ak nk ck,w.cell? ⟨b,o,T⟩=X (U V x.op)/\w.cell? ⟨b,o+1,T⟩=X (U V x.num)/\w.cell? ⟨b,o+2,T⟩=X (Q x.text)/\w.cell? ⟨b,o+3,T⟩=X (Y an nn cn)/\w.cell? ⟨b,o+4,T⟩=X (Y ak nk ck)/\Ap w an nn cn x.names/\Gv w ak nk ck x.kids
structure Pa (w:Z) (a:Option jD) (n c:Nat) (L:List Nd):Prop where
 len:L.length=n
 cap:n<=c
 small:c<=jM
 sizes:∀x∈L,x.text.size<=jM
 cells:∀j,(h:j<L.length)->∃b off,a=X ⟨b,off,T⟩/\b<w.heap.size/\OC w b (off+j*5) L[j]
structure Pb (w:Z) (a:Option jD) (n c:Nat) (L:List St):Prop where
 len:L.length=n
 cap:n<=c
 small:c<=jM
 sizes:∀s∈L,s.name.size<=jM
 cells:∀j,(h:j<L.length)->∃b off,a=X ⟨b,off,T⟩/\b<w.heap.size/\w.cell? ⟨b,off+j*4,T⟩=X (U V L[j].kind)/\w.cell? ⟨b,off+j*4+1,T⟩=X (Q L[j].name)/\w.cell? ⟨b,off+j*4+2,T⟩=X (U V L[j].cond)/\w.cell? ⟨b,off+j*4+3,T⟩=X (U V L[j].grant)
theorem Gv.below {a:Option jD}(h:Gv w a n c L)(d:Below B w w')(hB:w.heap.size<=B):Gv w' a n c L:=
 ⟨h.len,h.cap,h.small,fun j g=>by
  obtain⟨b,f,i,k,l⟩:=h.cells j g;exact⟨b,f,i,zE k d.size,(d.cell (p:=⟨b,f+j,T⟩) (by show b<B;omega)).trans l⟩⟩
theorem OC.below {w w':Z}{B b o:Nat}{x:Nd}(h:OC w b o x)(l:b<w.heap.size)(a:Below B w w')(hB:w.heap.size<=B):OC w' b o x:=by
 obtain⟨an,nn,cn,d,f,g,i,c1,c2,c3,c4,j,k⟩:=h;have c:b<B:=by omega
 exact⟨an,nn,cn,d,f,g,(a.cell (p:=⟨b,o,T⟩) c).trans i,(a.cell (p:=⟨b,o+1,T⟩) c).trans c1,(a.cell (p:=⟨b,o+2,T⟩) c).trans c2,(a.cell (p:=⟨b,o+3,T⟩) c).trans c3,(a.cell (p:=⟨b,o+4,T⟩) c).trans c4,j.below a hB,k.below a hB⟩
theorem Pa.below {w w':Z}{B:Nat}{a:Option jD}{n c:Nat}{L:List Nd}(h:Pa w a n c L)(d:Below B w w')(hB:w.heap.size<=B):Pa w' a n c L:=
 ⟨h.len,h.cap,h.small,h.sizes,fun j g=>by
  obtain⟨b,i,k,f,hc⟩:=h.cells j g;exact⟨b,i,k,zE f d.size,hc.below f d hB⟩⟩
theorem Pb.below {a:Option jD}{L:List St}(h:Pb w a n c L)(d:Below B w w')(hB:w.heap.size<=B):Pb w' a n c L:=
 ⟨h.len,h.cap,h.small,h.sizes,fun j i=>by
  obtain⟨b,f,k,l,m,c1,c2,c3⟩:=h.cells j i;have g:b<B:=by omega
  exact⟨b,f,k,zE l d.size,(d.cell (p:=⟨b,f+j*4,T⟩) g).trans m,(d.cell (p:=⟨b,f+j*4+1,T⟩) g).trans c1,(d.cell (p:=⟨b,f+j*4+2,T⟩) g).trans c2,(d.cell (p:=⟨b,f+j*4+3,T⟩) g).trans c3⟩⟩
def EW (x:Nd):Prop:=x.text.size<=1048576/\x.names.length<=1048576/\tot x.names<=1048576/\x.kids.length<=1048576
def ZX (L:Int) (P:Prop) (e:jT):Prop:=∃r:Int,e=jH (U V r)/\(r= -1\/0<=r/\r<=L/\P)
theorem EB (L:Int)(P:Prop):ZX L P (jH (U V (-1))):=⟨_,rfl,.inl rfl⟩
theorem Rz (a:Option jD)(n c:Nat)(L:Int)(w:Z)(b:n<=jM)(d: -1<=L)(f:L<=1048576):
  jE j4 13 #[Y a n c,U V L] w fun e w'=>ZX L (n<=1048576) e/\w'=w:=by
 unfold jM at b;by_cases h0:L-n<0
 ·go_enter func13,ntmps13
  go_wp2
  go_ret
  exact⟨EB _ _,rfl⟩
 ·have g: 0<=L-n:=by omega
  go_enter func13,ntmps13
  go_wp2
  go_ret
  exact⟨⟨_,rfl,.inr ⟨by omega,by omega,by omega⟩⟩,rfl⟩
theorem ZY (x:Nd)(an:Option jD)(nn cn:Nat)(f:Option jD)(a g:Nat)(L:Int)(w:Z)(c:Ap w an nn cn x.names)(i:a=x.kids.length)(m:a<=jM)(hs:x.text.size<=jM)(t: -1<=L)(u:L<=1048576):
  jE j4 40 #[jG #[U V x.op,U V x.num,Q x.text,Y an nn cn,Y f a g],U V L] w fun e w'=>ZX L (EW x) e/\Ah w w':=by
 have b:=Av w (.cells #[U V x.op,U V x.num,Q x.text,Y an nn cn,Y f a g] 78);have n:=c.below b NLN;have o:=Ab c.len;have p:=Ab i;have q:=hs;unfold jM at q;clear i c;by_cases h0:L-x.text.size<0
 ·go_enter func40,ntmps40
  go_wp2
  go_ret
  exact⟨EB _ _,b⟩
 ·have v: 0<=L-x.text.size:=by omega
  go_enter func40,ntmps40
  go_wp2_with (first
   |(go_at_call 74;refine(Sj _ _ _ _ _ _ n (by omega) (by omega)).mono ?_;rintro e y ⟨⟨j,rfl,d⟩,k⟩;rw[k];clear k;have hr1: -1<=j/\j<=1048576:=(by rcases d with h|h<;>omega);have r:=Ab d;clear d)
   |(go_at_call 13;refine(Rz _ _ _ _ _ m (by omega) (by omega)).mono ?_;rintro e z ⟨⟨r2,rfl,hr2⟩,l⟩;rw[l];clear l;have s:=Ab hr2;clear hr2))
  all_goals
   go_ret
   first
    |exact⟨EB _ _,b⟩
    |(have a1:=Aa r;have a2:=Aa s;have a3:=Aa o;have a4:=Aa p;exact⟨⟨_,rfl,.inr ⟨by omega,by omega,by omega,by omega,by omega,by omega⟩⟩,b⟩)
theorem XZ (a:Option jD)(n c:Nat)(N:List Nd)(L:Int)(w:Z)(h:Pa w a n c N)(J: -1<=L)(K:L<=1048576):
  jE j4 11 #[Y a n c,U V L] w fun e w'=>ZX L (n<=1048576/\∀x∈N,EW x) e/\Ah w w':=by
 have M:n<=9223372036854775807:=by have:=h.cap;have:=h.small;unfold jM at this;omega
 have o:=Ab h.len;by_cases h0:L-n<0
 ·go_enter func11,ntmps11
  go_wp2
  go_ret
  exact⟨EB _ _,BRN⟩
 ·have O: 0<=L-n:=by omega
  go_enter func11,ntmps11
  go_wp2_with fail
  go_loopw [1,4,5] (fun l _ i wr=>∃ (k:Nat) (f:Int),k<=n/\i=U V k/\l=U V f/\0<=f/\f<=L/\Ah w wr/\Hid (∀j,(d:j<N.length)->j<k->EW N[j])) (fun _ _ i _=>n-(intOf i).toNat)
  case atStart=>exact⟨0,L-n,by omega,rfl,rfl,by omega,by omega,BRN,Ab (fun j _ h=>absurd h (by omega))⟩
  case round=>
   obtain⟨k,f,P,rfl,rfl,z,A,b,m⟩:=hrel;by_cases p:k<n
   ·have S:(k:Int)<(n:Int):=by omega
    have q:k<N.length:=by rw[Aa o];exact p
    have r:=h.sizes N[k] (zH q);obtain⟨W,aa,rfl,ab,an,nn,cn,B,s,C,D,c1,c2,c3,c4,t,g⟩:=(h.below b NLN).cells k q;have u:=Ab (show EW N[k]->∀j,(d:j<N.length)->j<k+1->EW N[j]from fun e j d ac=>by
     by_cases E:j=k
     ·subst E;exact e
     ·exact Aa m j d (by omega))
    have F:=Ab p;have v:=Ab g.len;have G:s<=jM:=zB g.cap g.small;clear m g;generalize N[k]=x at D c1 c2 c3 c4 t r u v;go_wp2_with (go_at_call 40;refine(ZY x an nn cn B s C _ _ t (Aa v).symm G r (by omega) (by omega)).mono ?_;rintro e ad ⟨⟨r2,rfl,hr2⟩,y⟩;have H:=Ab hr2;clear hr2)
    ·go_ret
     exact⟨EB _ _,b.trans (y.mono b.size)⟩
    ·have a1:=Aa H;have a2:=Aa F;exact⟨⟨k+1,r2,a2,by go_num,rfl,by omega,by omega,b.trans (y.mono b.size),Ab (Aa u (by rcases a1 with e|e;omega;exact e.2.2))⟩,by simp[intOf];omega⟩
   ·have I:=Ab (show n<=1048576/\∀x∈N,EW x from⟨by omega,fun x hx=>by
     obtain⟨j,d,rfl⟩:=zy hx;exact Aa m j d (by have:=Aa o;omega)⟩)
    go_wp2_with fail
    go_ret
    exact⟨⟨_,rfl,.inr ⟨z,A,Aa I⟩⟩,b⟩
theorem ZZ (s:St)(L:Int)(w:Z)(hs:s.name.size<=jM)(b: -1<=L)(c:L<=1048576):
  jE j4 41 #[jG #[U V s.kind,Q s.name,U V s.cond,U V s.grant],U V L] w fun e w'=>ZX L (s.name.size<=1048576) e/\Ah w w':=by
 have a:=Av w (.cells #[U V s.kind,Q s.name,U V s.cond,U V s.grant] 80);unfold jM at hs;by_cases h0:L-s.name.size<0
 ·go_enter func41,ntmps41
  go_wp2
  go_ret
  exact⟨EB _ _,a⟩
 ·have d: 0<=L-s.name.size:=by omega
  go_enter func41,ntmps41
  go_wp2
  go_ret
  exact⟨⟨_,rfl,.inr ⟨by omega,by omega,by omega⟩⟩,a⟩
theorem X8 (a:Option jD)(n c:Nat)(N:List St)(L:Int)(w:Z)(h:Pb w a n c N)(C: -1<=L)(D:L<=1048576):
  jE j4 12 #[Y a n c,U V L] w fun e w'=>ZX L (n<=1048576/\∀x∈N,x.name.size<=1048576) e/\Ah w w':=by
 have E:n<=9223372036854775807:=by have:=h.cap;have:=h.small;unfold jM at this;omega
 have m:=Ab h.len;by_cases h0:L-n<0
 ·go_enter func12,ntmps12
  go_wp2
  go_ret
  exact⟨EB _ _,BRN⟩
 ·have F: 0<=L-n:=by omega
  go_enter func12,ntmps12
  go_wp2_with fail
  go_loopw [1,4,5] (fun l _ i wr=>∃ (k:Nat) (f:Int),k<=n/\i=U V k/\l=U V f/\0<=f/\f<=L/\Ah w wr/\Hid (∀j,(d:j<N.length)->j<k->N[j].name.size<=1048576)) (fun _ _ i _=>n-(intOf i).toNat)
  case atStart=>exact⟨0,L-n,by omega,rfl,rfl,by omega,by omega,BRN,Ab (fun j _ h=>absurd h (by omega))⟩
  case round=>
   obtain⟨k,f,G,rfl,rfl,t,u,b,g⟩:=hrel;by_cases o:k<n
   ·have H:(k:Int)<(n:Int):=by omega
    have p:k<N.length:=by rw[Aa m];exact o
    have q:=h.sizes N[k] (zH p);obtain⟨I,J,rfl,K,v,c1,c2,c3⟩:=(h.below b NLN).cells k p;have r:=Ab (show N[k].name.size<=1048576->∀j,(d:j<N.length)->j<k+1->N[j].name.size<=1048576 from fun e j d M=>by
     by_cases y:j=k
     ·subst y;exact e
     ·exact Aa g j d (by omega))
    have z:=Ab o;clear g;generalize N[k]=x at v c1 c2 c3 q r;go_wp2_with (go_at_call 41;refine(ZZ x _ _ q (by omega) (by omega)).mono ?_;rintro e O ⟨⟨r2,rfl,hr2⟩,s⟩;have A:=Ab hr2;clear hr2)
    ·go_ret
     exact⟨EB _ _,b.trans (s.mono b.size)⟩
    ·have a1:=Aa A;have a2:=Aa z;exact⟨⟨k+1,r2,a2,by go_num,rfl,by omega,by omega,b.trans (s.mono b.size),Ab (Aa r (by rcases a1 with e|e;omega;exact e.2.2))⟩,by simp[intOf];omega⟩
   ·have B:=Ab (show n<=1048576/\∀x∈N,x.name.size<=1048576 from⟨by omega,fun x hx=>by
     obtain⟨j,d,rfl⟩:=zy hx;exact Aa g j d (by have:=Aa m;omega)⟩)
    go_wp2_with fail
    go_ret
    exact⟨⟨_,rfl,.inr ⟨t,u,Aa B⟩⟩,b⟩
def AiR (n m:Nat) (N:List Nd) (L:List St):Prop:=(n<=1048576/\∀x∈N,EW x)/\m<=1048576/\∀x∈L,x.name.size<=1048576
set_option maxHeartbeats 3200000
def Io (F:Int->Nat) (ks:List Int):Nat:=ks.foldl (fun d k=>max d (F k)) 0
theorem ZV (F:Int->Nat)(ks:List Int)(k:Int):Io F (ks++[k])=max (Io F ks) (F k):=by
 rw[Io,List.foldl_append];rfl
theorem XW {F:Int->Nat}{M:Nat}(h:∀k,F k<=M):∀(ks:List Int) (d:Nat),d<=M->ks.foldl (fun d k=>max d (F k)) d<=M
 |[],d,hd=>hd
 |k ::ks,d,hd=>by
  rw[List.foldl_cons];exact XW h ks _ (by have:=h k;omega)
theorem M5 (K:List (List Int)):∀(n:Nat) (t:Int),BL K n t<=n+1
 |0,t=>by rw[BL];show 1<=0+1;omega
 |n+1,t=>by
  rw[BL];dsimp only;have:=XW (F:=BL K n) (M:=n+1) (M5 K n) (K.getD t.toNat []) 0 (by omega);omega
theorem CF (a:Option jD)(n c:Nat)(N:List Nd)(w0:Z)(E:GY w0 a n c N)(G:∀t,(h:t<N.length)->∀y∈N[t].kids,0<=y/\y<(t:Int)):
  ∀(fuel t:Nat) (w:Z),fuel<=4001->t<n->t<fuel->Ah w0 w->
  jE j4 78 #[Y a n c,U V t] w fun e w'=>e=jH (U V (BL (N.map Nd.kids) fuel (t:Int)))/\Ah w w':=by
 have M:=Ab E.len;have O:=Ab G;clear G;intro fuel
 induction fuel with
 |zero=>intro t w _ _ h;omega
 |succ fuel r=>
  intro t w ak P al u;have v:t<N.length:=by rw[Aa M];exact P
  have ao:(t:Int)<(n:Int):=by omega
  have z:=Aa O t v;have H:=Ab (show BL (N.map Nd.kids) (fuel+1) (t:Int)=Io (BL (N.map Nd.kids) fuel) N[t].kids+1 by
   rw[BL];dsimp only;rw[zV,yC,zZ,zG v];rfl)
  have I:=Ab (M5 (N.map Nd.kids) fuel);obtain⟨b,S,rfl,W,an,nn,cn,ap,g,aq,aa,c1,c2,c3,c4,ab,m⟩:=E.cells t v;have c4:=(u.cell (p:=⟨b,S+t*5+4,T⟩) W).trans c4;rw[Aa H];clear H aa c1 c2 c3;generalize N[t]=x at c4 ab m z|-;generalize BL (N.map Nd.kids) fuel=F at r I|-;have J:=Ab m.len;have ar:=m.small;have ac:=Ab z;clear z;go_enter func78,ntmps78
  go_wp2_with fail
  go_loopw [5,15] (fun d i wr=>∃j:Nat,j<=g/\i=U V j/\d=U V (Io F (x.kids.take j))/\Io F (x.kids.take j)<=4001/\Ah w wr) (fun _ i _=>g-(intOf i).toNat)
  case atStart=>exact⟨0,by omega,rfl,rfl,by simp[Io],BRN⟩
  case round=>
   obtain⟨j,au,rfl,rfl,A,f⟩:=hrel;have B:=u.trans (f.mono u.size);by_cases K:j<g
   ·have av:(j:Int)<(g:Int):=by omega
    have C:j<x.kids.length:=by rw[Aa J];exact K
    obtain⟨aw,ok,rfl,ax,ad⟩:=(m.below B NLN).cells j C;obtain⟨ae,af⟩:=Aa ac x.kids[j] (zH C);have o:=Ab (show Io F (x.kids.take (j+1))=max (Io F (x.kids.take j)) (F x.kids[j]) by rw[zQ C,ZV]);have q:=Ab K;generalize x.kids[j]=y at ad ae af o;obtain⟨s,rfl⟩:∃s:Nat,y=(s:Int):=⟨y.toNat,by omega⟩
    have ay:=Aa I (s:Int);generalize Io F (x.kids.take j)=k at A o;by_cases az:k<F (s:Int)
    ·have ag:(k:Int)<(F (s:Int):Int):=by omega
     have l:=Ab (show Io F (x.kids.take (j+1))=F (s:Int) by rw[Aa o];omega);go_wp2_with (go_at_call 78;refine(r s wr (by omega) (by omega) (by omega) B).mono ?_;rintro e ah ⟨rfl,D⟩)
     go_roundw
     case rel=>exact⟨j+1,Aa q,by go_num,by rw[Aa l],by rw[Aa l];omega,f.trans (D.mono f.size)⟩
     case measure=>have:=Aa q;simp[intOf];omega
    ·have ag: ¬ ((k:Int)<(F (s:Int):Int)):=by omega
     have l:=Ab (show Io F (x.kids.take (j+1))=k by rw[Aa o];omega);go_wp2_with (go_at_call 78;refine(r s wr (by omega) (by omega) (by omega) B).mono ?_;rintro e ah ⟨rfl,D⟩)
     go_roundw
     case rel=>exact⟨j+1,Aa q,by go_num,by rw[Aa l],by rw[Aa l];omega,f.trans (D.mono f.size)⟩
     case measure=>have:=Aa q;simp[intOf];omega
   ·have e:j=g:=by omega
    subst e;have ai:=Ab (show x.kids.take j=x.kids from zY (by rw[Aa J];exact NLN));rw[Aa ai]at A|-;generalize L:Io F x.kids=k at A|-;have aj:=Ab L;clear L;go_wp2_with fail
    go_ret
    exact⟨by rw[Aa aj,Int.natCast_add];rfl,f⟩
def P6 (L:List St) (j:Nat) (h:j<L.length):Bool:=Cu (decide (j+1=L.length)) L[j]
theorem KR:∀(L:List St),F9 L=true↔∀j,(h:j<L.length)->P6 L j h=true
 |[]=>by simp[F9]
 |s ::r=>by
  rw[F9,zF,KR r];have e:r.isEmpty=decide (0+1=(s ::r).length):=by cases r<;>simp
  constructor
  ·rintro⟨h1,h2⟩ j a;cases j with
   |zero=>rw[e]at h1;exact h1
   |succ j=>
    have:=h2 j (by simpa using a);rw[P6]at this|-;simp only[z8,jY]at this|-;rw[show decide (j+1+1=r.length+1)=decide (j+1=r.length) by rw[decide_eq_decide];omega];exact this
  ·intro h;refine⟨by rw[e];exact h 0 (by simp),fun j a=>?_⟩;have:=h (j+1) (by simpa using a);rw[P6]at this|-;simp only[z8,jY]at this;rw[show decide (j+1+1=r.length+1)=decide (j+1=r.length) by rw[decide_eq_decide];omega]at this;exact this
theorem Qa (L:List St)(k:Nat)(h:k<L.length):(L.take (k+1)).flatMap At=(L.take k).flatMap At++At L[k]:=by
 rw[zQ h,yE];simp
def LO (K:List (List Int)) (n:Nat) (rs:List Int):List Int:=rs.foldl (fun o r=>Bd K n r o) []
theorem V9 (K:List (List Int))(n:Nat)(rs a:List Int):LO K n (rs++a)=a.foldl (fun o b=>Bd K n b o) (LO K n rs):=by rw[LO,List.foldl_append,LO]
theorem Au.kids {K:List (List Int)}{a b:Nat}{c:List (Nat×Nat)}(h:Au K a c b):∀j,a<=j->j<b->∃ks,K[j]? =X (Am ks)/\∀p∈ks,p.1<j:=by
 induction h with
 |nil a=>intro j h1 h2;omega
 |cons d f hf g i=>
  rename_i a t b ks c;intro j h1 h2;rcases Nat.lt_trichotomy j t with e|e|e
  ·exact g j h1 e
  ·subst e;exact⟨ks,f,fun p hp=>(d.lt p hp).2⟩
  ·exact i j (by omega) h2
theorem YJ {N:List Nd}{n:Nat}{rs:List Int}(f:N.length=n)(c:(LO (N.map Nd.kids) n rs).length=n)(hg:good (LO (N.map Nd.kids) n rs)):
  (∀t,(h:t<N.length)->∀y∈N[t].kids,0<=y/\y<(t:Int))/\∀a∈rs,0<=a/\a<(n:Int):=by
 obtain⟨d,e1,hf⟩:=Lw (K:=N.map Nd.kids) (n:=n) rs [] hg;have hf':Au (N.map Nd.kids) 0 d n:=by
  have:(rs.foldl (fun o k=>Bd (N.map Nd.kids) n k o) []).length=n:=c;rw[this]at hf;exact hf
 constructor
 ·intro t h y hy;obtain⟨ks,h1,h2⟩:=hf'.kids t (zD _) (by omega);rw[zZ,zG h]at h1;have h3:N[t].kids=Am ks:=by simpa using h1
  rw[h3]at hy;obtain⟨p,hp,rfl⟩:=zg.1 hy;have:=h2 p hp;omega
 ·intro a b;rw[<-e1]at b;obtain⟨p,hp,rfl⟩:=zg.1 b;have:=hf'.lt p hp;omega
end Go.Proofs.YteiieikcjcfkkaaGreatDoor
