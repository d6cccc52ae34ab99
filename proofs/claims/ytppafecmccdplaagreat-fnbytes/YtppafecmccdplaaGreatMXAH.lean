import Derived.Test.YtppafecmccdplaaGreatZA
import Derived.Test.YtppafecmccdplaaGreatMXAI
open Go.Proofs.Tryz
open Option renaming none->T,some->Y
open Go.Value renaming int->U,slice->X,string->Q,pointer->jH
open Go.IntKind renaming i64->V
open Go renaming World->Z,Value->jB,Addr->jD,TypeId->jI
open Go.Proofs.Tryz renaming prog->jL
namespace Go.Proofs.YtppafecmccdplaaGreat
open Go.RowKit
set_option linter.unusedVariables false
set_option maxRecDepth 100000
set_option maxHeartbeats 3200000
variable {I':List Cg}{st':List Int}{d:List jB}{lo l1 h1:Nat}{S:Nat->Prop}{v:jB}{x:Vl}{f w2:Z}
theorem Gy (n:Int)(w:Z):Calls jL 85 #[U V n] w fun r w'=>r= .returned (U V (BL n))/\w'=w:=by
 by_cases h1:n<2
 ·have a:=Ab (show BL n=3 by rw[BL,if_pos h1]);go_enter func85,ntmps85
  go_wp2
  go_ret
  exact⟨by rw[Aa a];rfl,rfl⟩
 by_cases b:n<4
 ·have a:=Ab (show BL n=2 by rw[BL,if_neg h1,if_pos b]);go_enter func85,ntmps85
  go_wp2
  go_ret
  exact⟨by rw[Aa a];rfl,rfl⟩
 ·have a:=Ab (show BL n=4 by rw[BL,if_neg h1,if_neg b]);go_enter func85,ntmps85
  go_wp2
  go_ret
  exact⟨by rw[Aa a];rfl,rfl⟩
def Gd:Int->List Int->List Int->Option Int
 |any,[],_=>Y any
 |any,w ::ws,ks=>match ks with
  |[]=>T
  |k ::ks=>if w=0 then (if any=0 then Gd k ws ks else if k=any then Gd any ws ks else T)else if k=w then Gd any ws ks else T
def CD (op:Int) (K:List Int):Int:=match Gd 0 (CG op).1 K with
 |none=>0
 |some any=>if (CG op).2=0 then any else (CG op).2
theorem Aag {any:Int}{a K:List Int}{k:Nat}(h1:k<a.length)(b:k<K.length):Gd any (a.drop k) (K.drop k)=
  if a[k]=0 then (if any=0 then Gd K[k] (a.drop (k+1)) (K.drop (k+1))else if K[k]=any then Gd any (a.drop (k+1)) (K.drop (k+1))else T)else if K[k]=a[k]then Gd any (a.drop (k+1)) (K.drop (k+1))else T:=by
 rw[Z4 h1,Z4 b,Gd]
theorem Yf (op:Int)(h:I6 op)(a:Option jD)(n c:Nat)(K:List Int)(w:Z)(y:Em w a n c K)(z:(CG op).1.length<=n):
  Calls jL 121 #[U V op,X a n c] w fun r w'=>r= .returned (U V (CD op K))/\An w w':=by
 have A:=Ab (ST op h w);obtain⟨d,s⟩:∃d,d=(CG op).1:=⟨_,rfl⟩
 obtain⟨o,B⟩:∃o,o=(CG op).2:=⟨_,rfl⟩
 have C:=Ab (show CD op K=match Gd 0 d K with|none=>0|some any=>if o=0 then any else o by rw[s,B];rfl)
 unfold Ad4 at A;rw[<-s,<-B]at A;rw[<-s]at z;have L:=Ab z;have I:=Ab y.len;have P:=y.small;clear s B z h;go_enter func121,ntmps121
 go_wp2_with fail
 refine(Aa A).mono ?_;rintro r M ⟨⟨x,m,c1,rfl,D⟩,g⟩;have J:=Ab D.len;have N:=y.below g NLN;have hm:=D.small;dsimp only;go_wp2_with fail
 go_loopw [7,17] (fun v i wr=>∃ (k:Nat) (any:Int),k<=m/\v=U V any/\i=U V k/\An M wr/\Hid (Gd 0 d K=Gd any (d.drop k) (K.drop k))) (fun _ i _=>m-(intOf i).toNat)
 case atStart=>exact⟨0,0,by omega,rfl,rfl,BRN,Ab rfl⟩
 case round=>
  obtain⟨k,any,hk,rfl,rfl,j,E⟩:=hrel;by_cases G:k<m
  ·have S:(k:Int)<(m:Int):=by omega
   have h1:k<d.length:=by rw[Aa J];exact G
   have t:k<K.length:=by have:=Aa L;rw[Aa I];omega
   have W:(k:Int)<(n:Int):=by have:=Aa I;omega
   obtain⟨b1,aa,rfl,ab,c0⟩:=(D.below j NLN).cells k h1;obtain⟨b2,ac,rfl,ad,c2⟩:=(N.below j NLN).cells k t;have f:=Ab ((Aa E).trans (Aag h1 t));have l:=Ab (show(if d[k]=0 then (if any=0 then Gd K[k] (d.drop (k+1)) (K.drop (k+1))else if K[k]=any then Gd any (d.drop (k+1)) (K.drop (k+1))else T)else if K[k]=d[k]then Gd any (d.drop (k+1)) (K.drop (k+1))else T)=T->CD op K=0 from fun e=>by rw[Aa C,Aa E,Aag h1 t,e]);have p:=Ab G;generalize Gd 0 d K=F at f C;generalize d[k]=u at c0 f l;generalize K[k]=v at c2 f l;clear G h1 t;by_cases hu:u=0
   ·subst hu;by_cases q:any=0
    ·subst q;have b:=Ab ((Aa f).trans (by rw[if_pos rfl,if_pos rfl]));clear f l;go_wp2
     go_roundw
     case rel=>exact⟨k+1,v,Aa p,rfl,by go_num,j,b⟩
     case measure=>have:=Aa p;simp[intOf];omega
    ·have ae:(any==0)=false:=zA.2 q;by_cases hv:v=any
     ·have H:(v !=any)=false:=by simp[hv]
      have b:=Ab ((Aa f).trans (by rw[if_pos rfl,if_neg q,if_pos hv]));clear f l q hv;go_wp2
      go_roundw
      case rel=>exact⟨k+1,any,Aa p,rfl,by go_num,j,b⟩
      case measure=>have:=Aa p;simp[intOf];omega
     ·have H:(v !=any)=true:=zp.2 hv;have b:=Ab (Aa l (by rw[if_pos rfl,if_neg q,if_neg hv]));clear f l q hv;go_wp2
      go_ret
      exact⟨by rw[Aa b];rfl,g.trans (j.mono g.size)⟩
   ·have af:(u==0)=false:=zA.2 hu;by_cases hv:v=u
    ·have H:(v !=u)=false:=by simp[hv]
     have b:=Ab ((Aa f).trans (by rw[if_neg hu,if_pos hv]));clear f l hu hv;go_wp2
     go_roundw
     case rel=>exact⟨k+1,any,Aa p,rfl,by go_num,j,b⟩
     case measure=>have:=Aa p;simp[intOf];omega
    ·have H:(v !=u)=true:=zp.2 hv;have b:=Ab (Aa l (by rw[if_neg hu,if_neg hv]));clear f l hu hv;go_wp2
     go_ret
     exact⟨by rw[Aa b];rfl,g.trans (j.mono g.size)⟩
  ·have e:k=m:=by omega
   subst e;have b:=Ab (show CD op K=if o=0 then any else o by
    rw[Aa C,Aa E,yG (by rw[Aa J];omega)];rfl)
   by_cases h0:o=0
   ·subst h0;have b:=Ab ((Aa b).trans (if_pos rfl));go_wp2
    go_ret
    exact⟨by rw[Aa b];rfl,g.trans (j.mono g.size)⟩
   ·have e0:(o==0)=false:=zA.2 h0;have O:=Ab h0;clear h0;go_wp2
    go_ret
    exact⟨by rw[Aa b,if_neg (Aa O)];rfl,g.trans (j.mono g.size)⟩
structure Gs where
 p:Nat
 P:List Vl
 I:List Cg
 st:List Int
 sl:List Int
def Lr (zs:List Int) (x:Int) (p:Nat) (v:Vl) (q:Nat):Prop:=
 if x % 4=0 then v=⟨1,x / 4 % 2,⟨#[]⟩,[]⟩/\q=p
 else if x % 4=1 then v=⟨2,(Sw zs p).1,⟨#[]⟩,[]⟩/\q=(Sw zs p).2
 else if x % 4=2 then v=⟨3,0,(Hb zs p).1,[]⟩/\q=(Hb zs p).2
 else v=⟨4,0,⟨#[]⟩,v.names⟩/\XC zs p v.names q
def VaX (zs:List Int) (s s':Gs):Prop:=∃v q,Lr zs (nx zs s.p).1 (nx zs s.p).2 v q/\s'=⟨q,s.P++[v],s.I++[⟨1,s.P.length⟩],s.st++[v.kind],s.sl⟩
def GX (s:Gs) (ty:Int):Gs:=⟨s.p,s.P++[⟨ty,0,⟨#[]⟩,[]⟩],s.I++[⟨1,s.P.length⟩],s.st,s.sl⟩
def Ue (want st:List Int):Prop:=want.length<=st.length/\∀i,i<want.length->(0<want.getD i 0->want.getD i 0=st.getD (st.length-want.length+i) 0)/\(want.getD i 0=0->st.getD (st.length-want.length+i) 0=st.getD (st.length-want.length) 0)
def Hh (st:List Int):Int:=st.getD (st.length-1) 0
def Mh (s:Gs) (m:Nat):Gs:=⟨s.p,s.P,s.I,s.st.take (s.st.length-m),s.sl⟩
def EZ (s:Gs) (op arg:Int):Gs:=⟨s.p,s.P,s.I++[⟨op,arg⟩],s.st,s.sl⟩
def Ni (s:Gs) (ty:Int):Gs:=⟨s.p,s.P,s.I,s.st++[ty],s.sl⟩
def PQ (s:Gs) (u:Nat) (v:Int):Gs:=⟨s.p,s.P,s.I.modify u fun i=>⟨i.op,v⟩,s.st,s.sl⟩
def XE (s:Gs) (j:Nat) (v:Int):Gs:=⟨s.p,s.P,s.I,s.st,s.sl.set j v⟩
abbrev Mv:=Gs->Gs->Prop
open Classical in
def Gx (Br:Mv) (zs:List Int) (k low Cq:Nat) (x:Int) (s s':Gs):Prop:=
 if 0<x % 3/\low+(CG (8+x % 17)).1.length<=s.st.length/\Ue (CG (8+x % 17)).1 s.st then s'=Ni (Mh (EZ s (5+x % 17) 0) (CG (8+x % 17)).1.length) (CG (8+x % 17)).2
 else if x % 7=6/\low<s.st.length/\0<k then
  (if s.sl.getD (x / 7 % k).toNat 0=0/\Cq=0\/s.sl.getD (x / 7 % k).toNat 0=Hh s.st then s'=Mh (EZ (XE s (x / 7 % k).toNat (Hh s.st)) 4 (x / 7 % k)) 1 else s'=s)
 else if x % 7=5/\0<k/\0<s.sl.getD (x / 7 % k).toNat 0 then s'=Ni (EZ s 3 (x / 7 % k)) (s.sl.getD (x / 7 % k).toNat 0)
 else if x % 7=4 then s'=Ni (EZ s 2 (x / 7 % 6)) (BL (x / 7 % 6))
 else if x % 7=3/\Cq<3/\low<s.st.length/\Hh s.st=1 then Br s s'
 else VaX zs s s'
def XF (zs:List Int) (s:Gs):Gs:=⟨(nx zs s.p).2,s.P,s.I,s.st,s.sl⟩
def Mf (Br:Mv) (zs:List Int) (k low Cq:Nat):Nat->Mv
 |0,s,s'=>s'=s
 |n+1,s,s'=>if s.p<zs.length/\s.I.length<300 then ∃s1,Gx Br zs k low Cq (nx zs s.p).1 (XF zs s) s1/\Mf Br zs k low Cq n s1 s' else s'=s
def brF (u kp:Nat) (s:Gs):Gs:=
 PQ ((s.st.drop kp).foldl GX (PQ (EZ s 22 0) u (s.I.length+1))) s.I.length ((s.st.drop kp).foldl GX (PQ (EZ s 22 0) u (s.I.length+1))).I.length
def Hj (zs:List Int) (k:Nat):Nat->Mv
 |0,_,_=>False
 |d+1,s,s'=>∃s1 s2,Mf (Hj zs k d) zs k (s.st.length-1) (3-d) 2 (EZ (Mh s 1) 23 0) s1/\VaX zs s1 s2/\s'=brF s.I.length (s.st.length-1) s2
def mI:Nat->Nat
 |0=>1
 |d+1=>4+2*mI d+2*2 ^ d
structure Grw (m st low:Nat) (s s':Gs):Prop where
 low:low<=s'.st.length
 st:s'.st.length<=s.st.length+st
 ins:s'.I.length<=s.I.length+m
 inl:s.I.length<=s'.I.length
 pool:s'.P.length<=s.P.length+m
 sl:s'.sl.length=s.sl.length
theorem SS:∀(l:List Int) (s:Gs),(l.foldl GX s).I.length=s.I.length+l.length/\(l.foldl GX s).P.length=s.P.length+l.length/\(l.foldl GX s).st=s.st/\(l.foldl GX s).sl=s.sl
 |[],s=>by simp
 |x ::l,s=>by
  have:=SS l (GX s x);simp only[List.foldl_cons,List.length_cons];refine⟨by rw[this.1];simp[GX];omega,by rw[this.2.1];simp[GX];omega,this.2.2.1,this.2.2.2⟩
theorem VaX.grw {zs:List Int}{s a:Gs}(h:VaX zs s a):a.I.length=s.I.length+1/\a.P.length=s.P.length+1/\a.st.length=s.st.length+1/\a.sl=s.sl:=by
 obtain⟨v,q,_,rfl⟩:=h;simp
theorem AbQ:∀d,1<=mI d
 |0=>NLN
 |d+1=>by rw[mI];omega
theorem Gx.grw {b:Mv}{d:Nat}{low:Nat}(f:∀s a,low<s.st.length->b s a->Grw (mI d) (2 ^ d) low s a){zs:List Int}{k Cq:Nat}{x:Int}{s a:Gs}(h:Gx b zs k low Cq x s a)(i:low<=s.st.length):Grw (mI d) (2 ^ d) low s a:=by
 have h1:=AbQ d;have j: 1<=2 ^ d:=Nat.one_le_two_pow;unfold Gx at h;split at h
 ·rename_i c;subst h;refine⟨?_,?_,?_,?_,?_,rfl⟩<;>simp[Ni,Mh,EZ]<;>omega
 ·split at h
  ·rename_i c;split at h
   ·subst h;refine⟨?_,?_,?_,?_,?_,?_⟩<;>simp[XE,Mh,EZ]<;>omega
   ·subst h;exact⟨i,by omega,by omega,by omega,by omega,rfl⟩
  ·split at h
   ·subst h;refine⟨?_,?_,?_,?_,?_,rfl⟩<;>simp[Ni,EZ]<;>omega
   ·split at h
    ·subst h;refine⟨?_,?_,?_,?_,?_,rfl⟩<;>simp[Ni,EZ]<;>omega
    ·split at h
     ·rename_i c;exact f _ _ c.2.2.1 h
     ·have g:=h.grw;exact⟨by omega,by omega,by omega,by omega,by omega,by rw[g.2.2.2]⟩
theorem Mf.grw {i:Mv}{d:Nat}{low:Nat}(j:∀s c,low<s.st.length->i s c->Grw (mI d) (2 ^ d) low s c){zs:List Int}{k Cq:Nat} :∀(n:Nat) {s c:Gs},Mf i zs k low Cq n s c->low<=s.st.length->Grw (n*mI d) (n*2 ^ d) low s c
 |0,s,c,h,hl=>by obtain rfl:c=s:=h;exact⟨hl,by omega,by omega,by omega,by omega,rfl⟩
 |n+1,s,c,h,hl=>by
  unfold Mf at h;rw[Nat.add_mul,Nat.one_mul,Nat.add_mul,Nat.one_mul];split at h
  ·obtain⟨s1,a,b⟩:=h;have g:=a.grw j (by exact hl);have f:=Mf.grw j n b g.low;exact⟨f.low,by have:=g.st;have:=f.st;simp only[XF]at*;omega,by have:=g.ins;have:=f.ins;simp only[XF]at*;omega,zC g.inl f.inl,by have:=g.pool;have:=f.pool;simp only[XF]at*;omega,f.sl.trans g.sl⟩
  ·subst h;exact⟨hl,Nat.le_add_right _ _,Nat.le_add_right _ _,NLN,Nat.le_add_right _ _,rfl⟩
theorem Hj.grw (zs:List Int)(k:Nat):∀(d low:Nat) (s f:Gs),low<s.st.length->Hj zs k d s f->Grw (mI d) (2 ^ d) low s f
 |0,_,_,_,_,h=>h.elim
 |d+1,low,s,f,hl,h=>by
  obtain⟨s1,s2,a,b,rfl⟩:=h;have g:=Mf.grw (low:=s.st.length-1) (fun t j l m=>Hj.grw zs k d _ t j l m) 2 a (by simp[EZ,Mh]);have r:=g.low;have n:=g.st;have o:=g.ins;have p:=g.inl;have q:=g.pool;have i:=g.sl;simp only[EZ,Mh,zv,zB,zg]at n o p q i;have v:=b.grw;have c:=SS (s2.st.drop (s.st.length-1)) (PQ (EZ s2 22 0) s.I.length (s2.I.length+1));simp only[PQ,EZ,List.length_modify,zB,zg,List.length_drop]at c;refine⟨?_,?_,?_,?_,?_,?_⟩<;>simp only[brF,PQ,EZ,List.length_modify,mI,c.1,c.2.1,c.2.2.1,c.2.2.2]<;>first|omega|(rw[v.2.2.2];exact i)
def Uf (x:Vl) (u:jB):List jB:= [U V x.kind,U V x.num,Q x.text,u]
def Iz:List Vl->List jB->List jB
 |x ::P,u ::nv=>Uf x u++Iz P nv
 |_,_=> []
theorem PV:∀(P:List Vl) (a:List jB) (x:Vl) (u:jB),a.length=P.length->Iz (P++[x]) (a++[u])=Iz P a++Uf x u
 |[],[],x,u,_=>by simp[Iz]
 |[],_ ::_,x,u,h=>by simp at h
 |y ::P,[],x,u,h=>by simp at h
 |y ::P,z ::a,x,u,h=>by
  have:=PV P a x u (by simpa using h);simp only[List.cons_append,Iz,this,zJ]
theorem PR:∀(P:List Vl) (a:List jB) (j:Nat) (h:j<P.length) (h':j<a.length),(Iz P a)[j*4]? =Y (U V P[j].kind)/\(Iz P a)[j*4+1]? =Y (U V P[j].num)/\(Iz P a)[j*4+2]? =Y (Q P[j].text)/\(Iz P a)[j*4+3]? =Y a[j]
 |x ::P,u ::a,0,_,_=>by simp[Iz,Uf]
 |x ::P,u ::a,j+1,h,h'=>by
  have b:=PR P a j (by simpa using h) (by simpa using h');have e:∀i,(Iz (x ::P) (u ::a))[(j+1)*4+i]? =(Iz P a)[j*4+i]? :=fun i=>by
   rw[Iz,z8 (by simp[Uf];omega)]
   congr 1
   simp[Uf];omega
  exact⟨(e 0).trans b.1,(e 1).trans b.2.1,(e 2).trans b.2.2.1,(e 3).trans b.2.2.2⟩
 |[],_,_,h,_=>absurd h (by simp)
 |_ ::_,[],_,_,h=>absurd h (by simp)
structure BU (w:Z) (lo:Nat) (v:jB) (P:List Vl) (nv:List jB):Prop where
 len:nv.length=P.length
 own:w.ownsRow lo 44 4 v P.length (Iz P nv)
 names:∀j,(h:j<P.length)->(h':j<nv.length)->w.ownsRow lo 9 1 nv[j] P[j].names.length (P[j].names.map Value.string)
 apart:∀i j,(hij:i<j)->(h:j<nv.length)->∀q,(nv[i]'(by omega)).ownBlock=Y q->nv[j].ownBlock≠Y q
 far:∀j,(h:j<nv.length)->∀q,nv[j].ownBlock=Y q->v.ownBlock≠Y q
theorem BU.nil (w:Z)(lo:Nat):BU w lo (X T 0 0) [] []:=
 ⟨rfl,World.ownsRow_nil _ _ _ _,fun j h=>absurd h (by simp),fun i j _ h=>absurd h (by simp),fun j h=>absurd h (by simp)⟩
theorem BU.lts {w:Z}{P:List Vl}{a:List jB}(h:BU w lo v P a):(∀q,v.ownBlock=Y q->lo<=q/\q<w.heap.size)/\∀j,(b:j<a.length)->∀q,a[j].ownBlock=Y q->lo<=q/\q<w.heap.size:=
 ⟨fun q c=>h.own.lt q c,fun j b q c=>(h.names j (by rw[<-h.len];exact b) b).lt q c⟩
theorem BU.blocks {w w':Z}{P:List Vl}{c:List jB}(h:BU w lo v P c)(hd:∀k,lo<=k->k<w.heap.size->w'.heap[k]? =w.heap[k]?):BU w' lo v P c:=
 ⟨h.len,Ad h.own (fun q a=>hd q (h.lts.1 q a).1 (h.lts.1 q a).2),fun j d b=>Ad (h.names j d b) (fun q a=>hd q (h.lts.2 j b q a).1 (h.lts.2 j b q a).2),h.apart,h.far⟩
theorem BU.touch {w w':Z}{P:List Vl}{a:List jB}(h:BU w lo v P a)(T:Al l1 h1 w w')(hd:h1<=lo):BU w' lo v P a:=
 h.blocks (fun k hk b=>T.block k b (.inr (by omega)))
theorem BU.set {w:Z}{P:List Vl}{a:List jB}(h:BU w lo v P a)(p:jD)(u:jB)(hp:p.block<lo):BU (w.setCell p u) lo v P a:=
 h.blocks (fun k hk b=>heap_setCell_other w p k u (by omega))
theorem BU.alloc {w:Z}{lo:Nat}{v:jB}{P:List Vl}{a:List jB}(h:BU w lo v P a)(o:Obj):BU (w.alloc o) lo v P a:=
 h.blocks (fun k hk b=>Below.heap_alloc w o k b)
theorem BU.low {w:Z}{lo':Nat}{P:List Vl}{a:List jB}(h:BU w lo v P a)(b:lo'<=lo):BU w lo' v P a:=
 ⟨h.len,Aj h.own b,fun j c d=>Aj (h.names j c d) b,h.apart,h.far⟩
theorem BU.grown {w w':Z}{P:List Vl}{b:List jB}{row:Option Nat}(h:BU w lo v P b)(hg:w.grownBy w' row)(d:∀q,row=Y q->v.ownBlock≠Y q/\∀j,(f:j<b.length)->b[j].ownBlock≠Y q):BU w' lo v P b:=
 ⟨h.len,Ad h.own (fun q a=>hg.block q (h.lts.1 q a).2 (fun e=>(d q e.symm).1 a)),fun j f c=>Ad (h.names j f c) (fun q a=>hg.block q (h.lts.2 j c q a).2 (fun e=>(d q e.symm).2 j c a)),h.apart,h.far⟩
theorem BU.snoc {v' u:jB}{P:List Vl}{a:List jB}(h:BU f lo v P a)
  (hu:f.ownsRow lo 9 1 u x.names.length (x.names.map Value.string))(o:∀j,(c:j<a.length)->∀q,a[j].ownBlock=Y q->u.ownBlock≠Y q)(p:∀q,u.ownBlock=Y q->v.ownBlock≠Y q)
  (r:w2.ownsRow lo 44 4 v' (P.length+1) (Iz P a++Uf x u))(hg:f.grownBy w2 v.ownBlock)(hv:∀q,v'.ownBlock=Y q->v.ownBlock=Y q\/f.heap.size<=q):BU w2 lo v' (P++[x]) (a++[u]):=by
 have l:=h.len;have m:∀j,(c:j<(a++[u]).length)->∀q,(a++[u])[j].ownBlock=Y q->q<f.heap.size/\v.ownBlock≠Y q:=fun j c q b=>by
  by_cases d:j<a.length
  ·rw[zi d]at b;exact⟨(h.lts.2 j d q b).2,h.far j d q b⟩
  ·have e:j=a.length:=by simp at c;omega
   subst e;simp at b;exact⟨(hu.lt q b).2,p q b⟩
 refine⟨by simp[l],by rw[zB,zg,PV _ _ _ _ l];exact r,fun j c g=>?_,fun i j n c q b=>?_,fun j c q b=>?_⟩
 ·by_cases d:j<a.length
  ·have a1:(a++[u])[j]=a[j]:=zi d;have a2:(P++[x])[j]=P[j]'(by omega):=zi (by omega);rw[a1,a2];refine Ad (h.names j (by omega) d) (fun q b=>?_);have:=m j g q (by rw[a1];exact b);exact hg.block q this.1 (fun e=>this.2 e.symm)
  ·have e:j=a.length:=by simp at g;omega
   subst e;have a1:(a++[u])[a.length]'g=u:=by simp
   have a2:(P++[x])[a.length]'c=x:=by simp[l]
   rw[a1,a2];refine Ad hu (fun q b=>?_);have:=m a.length g q (by rw[a1];exact b);exact hg.block q this.1 (fun e=>this.2 e.symm)
 ·by_cases d:j<a.length
  ·rw[zi d];rw[zi (by omega)]at b;exact h.apart i j n d q b
  ·have e:j=a.length:=by simp at c;omega
   subst e;rw[zi n]at b;simp;exact o i n q b
 ·have k:=m j c q b;intro e;rcases hv q e with e'|e'
  ·exact k.2 e'
  ·omega
def KU (x:Vl):Prop:=x.text.size<=255/\x.names.length<=255/\∀s∈x.names,s.size<=255
theorem BU.vls {w:Z}{n c:Nat}{a:Option jD}{P:List Vl}(h:BU w lo (X a n c) P d)(l:P.length=n)(hk:n<=65535)(ok:∀x∈P,KU x):Vls w a n c P:=by
 refine⟨l,by omega,fun x hx=>by have:=(ok x hx).1;omega,fun j b=>?_⟩;have k:j<d.length:=by rw[h.len];exact b
 obtain⟨c0,c1,c2,c3⟩:=PR P d j b k;obtain⟨g,o⟩:∃g,a=Y ⟨g,0,T⟩:=by
  rcases h.own.2 with⟨_,h0⟩|⟨g,cap,p,hv,_⟩
  ·omega
  ·simp only[Value.slice.injEq]at hv;exact⟨g,hv.1⟩
 subst o;subst l;have f:∀i,i<4->w.cell? ⟨g,0+j*4+i,T⟩=(Iz P d)[j*4+i]? :=fun i hi=>by
  rw[zP];exact h.own.cellAt (g:=g) (n:=P.length) (j*4+i) (by omega)
 obtain⟨an,cn,hu⟩:=Au (h.names j b k);have m:=h.names j b k;rw[hu]at c3 m;refine⟨g,0,rfl,(h.own.lt g rfl).2,an,_,cn,(f 0 (by omega)).trans c0,(f 1 (by omega)).trans c1,(f 2 (by omega)).trans c2,(f 3 (by omega)).trans c3,AJ.of_owns m ?_⟩;intro i hi;have hm:=(ok P[j] (zH b)).2.2 _ (zH hi);rw[BM _ i hi];unfold maxLen;omega
def TD (I:List Cg):List jB:=I.flatMap fun i=> [U V i.op,U V i.arg]
theorem Wl (I:List Cg)(i:Cg):TD (I++[i])=TD I++[U V i.op,U V i.arg]:=by simp[TD]
theorem AcV:∀(I:List Cg) (j:Nat) (h:j<I.length),(TD I)[j*2]? =Y (U V I[j].op)/\(TD I)[j*2+1]? =Y (U V I[j].arg)
 |i ::I,0,_=>by simp[TD]
 |i ::I,j+1,h=>by
  have a:=AcV I j (by simpa using h);have e:∀q,(TD (i ::I))[(j+1)*2+q]? =(TD I)[j*2+q]? :=fun q=>by
   rw[TD,zm,z8 (by simp;omega)];show(TD I)[_]? =_
   congr 1
   simp;omega
  exact⟨(e 0).trans a.1,(e 1).trans a.2⟩
theorem Hu {w:Z}{n c:Nat}{a:Option jD}(h:w.ownsRow lo 49 2 (X a n c) n (TD I'))(b:I'.length=n)(hk:n<=65535):Iss w a n c I':=by
 refine⟨b,by omega,fun j f=>?_⟩;obtain⟨g,k⟩:∃g,a=Y ⟨g,0,T⟩:=by
  rcases h.2 with⟨_,h0⟩|⟨g,cap,l,hv,_⟩
  ·omega
  ·simp only[Value.slice.injEq]at hv;exact⟨g,hv.1⟩
 subst k;subst b;obtain⟨c0,c1⟩:=AcV I' j f;have d:∀i,i<2->w.cell? ⟨g,0+j*2+i,T⟩=(TD I')[j*2+i]? :=fun i hi=>by
  rw[zP];exact h.cellAt (g:=g) (n:=I'.length) (j*2+i) (by omega)
 exact⟨g,0,rfl,(h.lt g rfl).2,(d 0 (by omega)).trans c0,(d 1 (by omega)).trans c1⟩
section
def Ps (x:Vl):Prop:=x.text.size<=1000/\x.names.length<=1000/\∀s∈x.names,s.size<=1000
theorem BU.vlsW5 {w:Z}{n c:Nat}{a:Option jD}{P:List Vl}(h:BU w lo (X a n c) P d)(l:P.length=n)(hk:n<=100000)(ok:∀x∈P,Ps x):Vls w a n c P:=by
 refine⟨l,by omega,fun x hx=>by have:=(ok x hx).1;omega,fun j b=>?_⟩;have k:j<d.length:=by rw[h.len];exact b
 obtain⟨c0,c1,c2,c3⟩:=PR P d j b k;obtain⟨g,o⟩:∃g,a=Y ⟨g,0,T⟩:=by
  rcases h.own.2 with⟨_,h0⟩|⟨g,cap,p,hv,_⟩
  ·omega
  ·simp only[Value.slice.injEq]at hv;exact⟨g,hv.1⟩
 subst o;subst l;have f:∀i,i<4->w.cell? ⟨g,0+j*4+i,T⟩=(Iz P d)[j*4+i]? :=fun i hi=>by
  rw[zP];exact h.own.cellAt (g:=g) (n:=P.length) (j*4+i) (by omega)
 obtain⟨an,cn,hu⟩:=Au (h.names j b k);have m:=h.names j b k;rw[hu]at c3 m;refine⟨g,0,rfl,(h.own.lt g rfl).2,an,_,cn,(f 0 (by omega)).trans c0,(f 1 (by omega)).trans c1,(f 2 (by omega)).trans c2,(f 3 (by omega)).trans c3,AJ.of_owns m ?_⟩;intro i hi;have hm:=(ok P[j] (zH b)).2.2 _ (zH hi);rw[BM _ i hi];unfold maxLen;omega
structure G5 (w:Z) (B R gb:Nat) (a:Option jD) (n c:Nat) (zs:List Int) (k:Nat) (s:Gs) (pv iv sv lv:jB) (nv:List jB):Prop where
 rd:KL w R a n c zs s.p
 row:Ah w gb #[jH (Y ⟨R,0,T⟩),pv,U V k,iv,sv,lv] 117
 pool:BU w B pv s.P nv
 ins:w.ownsRow B 49 2 iv s.I.length (Cm s.I)
 st:w.ownsRow B 3 1 sv s.st.length (Aw s.st)
 sl:w.ownsRow B 3 1 lv s.sl.length (Aw s.sl)
 ap:∀q,sv.ownBlock=Y q->lv.ownBlock≠Y q
 low:R<gb/\gb<B/\B<=w.heap.size
 ok:∀v∈s.P,Ps v
def GS (B R gb:Nat) (a:Option jD) (n c:Nat) (zs:List Int) (k:Nat) (s:Gs) (w:Z):Prop:=∃pv iv sv lv nv,G5 w B R gb a n c zs k s pv iv sv lv nv
structure DY (R gb:Nat) (w w':Z):Prop where
 os:w'.os=w.os
 tape:w'.tape=w.tape
 output:w'.output=w.output
 size:w.heap.size<=w'.heap.size
 block:∀q,q<gb->q<w.heap.size->q≠R->w'.heap[q]? =w.heap[q]?
theorem DY.refl (R a:Nat)(w:Z):DY R a w w:=⟨rfl,rfl,rfl,NLN,fun _ _ _ _=>rfl⟩
theorem DY.trans {R d:Nat}{a b c:Z}(h:DY R d a b)(k:DY R d b c):DY R d a c:=
 ⟨k.os.trans h.os,k.tape.trans h.tape,k.output.trans h.output,zC h.size k.size,fun q h1 f g=>(k.block q h1 (zR f h.size) g).trans (h.block q h1 f g)⟩
theorem DY.of {R a:Nat}{w w':Z}(h:An w w'):DY R a w w':=⟨h.os,h.tape,h.output,h.size,fun q _ b _=>h.block q b⟩
theorem DY.drew {R a:Nat}{w w':Z}(h:DY R a w w'):DY R a w w'.drew:=h.trans (.of BRN.drew)
theorem DY.touch {R a:Nat}{w w':Z}(T:Al R (R+1) w w'):DY R a w w':=⟨T.os,T.tape,T.output,T.size,fun q _ b c=>T.block q b (by omega)⟩
theorem DY.kpt {R a:Nat}{w w':Z}(K:GW S w w')(b:∀q,S q->a<=q):DY R a w w':=⟨K.os,K.tape,K.output,K.size,fun q h1 c _=>K.block q c (fun t=>by have:=b q t;omega)⟩
def GA (B R gb:Nat) (a:Option jD) (n c:Nat) (zs:List Int) (k:Nat) (w:Z) (X:Gs->Prop) (r:Ending) (w':Z):Prop:=r= .returned (.tuple #[])/\∃s',X s'/\GS B R gb a n c zs k s' w'/\DY R gb w w'
section
variable {w w' : Z} {B R gb : Nat} {a : Option jD} {n c : Nat} {zs : List Int} {k : Nat} {s : Gs} {pv iv sv lv : jB} {nv : List jB}
theorem G5.bel (h:G5 w B R gb a n c zs k s pv iv sv lv nv)(K:GW S w w')(b:∀q,S q->R<q):Below (R+1) w w':=
 ⟨K.os,K.tape,K.output,K.size,fun q d=>K.block q (by have:=h.low;omega) (fun t=>by have:=b q t;omega)⟩
theorem G5.touch (h:G5 w B R gb a n c zs k s pv iv sv lv nv){q:Nat}(g:KL w' R a n c zs q)(T:Al R (R+1) w w'):G5 w' B R gb a n c zs k ⟨q,s.P,s.I,s.st,s.sl⟩ pv iv sv lv nv:=by
 have b:=h.low;have o:∀{e:jI} {size m:Nat} {v:jB} {d:List jB},w.ownsRow B e size v m d->w'.ownsRow B e size v m d:=fun o=>Ad o (fun q f=>T.block q (o.lt q f).2 (.inr (by have:=(o.lt q f).1;omega)));exact⟨g,⟨(T.block gb h.row.lt (.inr (by omega))).trans h.row.out⟩,h.pool.touch T (by omega),o h.ins,o h.st,o h.sl,h.ap,⟨b.1,b.2.1,zC b.2.2 T.size⟩,h.ok⟩
theorem G5.below (h:G5 w B R gb a n c zs k s pv iv sv lv nv)(b:An w w'):G5 w' B R gb a n c zs k s pv iv sv lv nv:=
 h.touch (q:=s.p) (h.rd.after b (by have:=h.low;omega)) (Al.of_below b NLN)
theorem G5.mkI (h:G5 w B R gb a n c zs k s pv iv sv lv nv){b:jB}(K:GW (fun q=>q=gb\/iv.ownBlock=Y q) w w')(R':Ah w' gb #[jH (Y ⟨R,0,T⟩),pv,U V k,b,sv,lv] 117)(i:w'.ownsRow B 49 2 b I'.length (Cm I')):
  G5 w' B R gb a n c zs k ⟨s.p,s.P,I',s.st,s.sl⟩ pv b sv lv nv/\DY R gb w w':=by
 have d:=h.low;have l:=h.bel K (fun q t=>by rcases t with t|t;omega;have:=(h.ins.lt q t).1;omega);have r:DY R gb w _:= .kpt K (fun q t=>by rcases t with t|t;omega;have:=(h.ins.lt q t).1;omega);have u:∀q,B<=q->¬ iv.ownBlock=Y q->¬ (q=gb\/iv.ownBlock=Y q):=fun q h1 x t=>by rcases t with t|t;omega;exact x t
 have o:∀{e:jI} {size m:Nat} {v:jB} {g:List jB},49≠e->w.ownsRow B e size v m g->w'.ownsRow B e size v m g:=fun he o=>Ad o (fun q f=>K.block q (o.lt q f).2 (u q (o.lt q f).1 (fun t=>Ak h.ins o he q t f)));exact⟨⟨h.rd.after l (by omega),R',⟨h.pool.len,o (by decide) h.pool.own,fun j y z=>o (by decide) (h.pool.names j y z),h.pool.apart,h.pool.far⟩,i,o (by decide) h.st,o (by decide) h.sl,h.ap,⟨d.1,d.2.1,zC d.2.2 K.size⟩,h.ok⟩,r⟩
theorem G5.mkS (h:G5 w B R gb a n c zs k s pv iv sv lv nv){d:jB}(K:GW (fun q=>q=gb\/sv.ownBlock=Y q) w w')(R':Ah w' gb #[jH (Y ⟨R,0,T⟩),pv,U V k,iv,d,lv] 117)(l:w'.ownsRow B 3 1 d st'.length (Aw st'))(r:∀q,d.ownBlock=Y q->lv.ownBlock≠Y q):
  G5 w' B R gb a n c zs k ⟨s.p,s.P,s.I,st',s.sl⟩ pv iv d lv nv/\DY R gb w w':=by
 have f:=h.low;have u:=h.bel K (fun q t=>by rcases t with t|t;omega;have:=(h.st.lt q t).1;omega);have x:DY R gb w _:= .kpt K (fun q t=>by rcases t with t|t;omega;have:=(h.st.lt q t).1;omega);have g:∀q,B<=q->¬ sv.ownBlock=Y q->¬ (q=gb\/sv.ownBlock=Y q):=fun q h1 y t=>by rcases t with t|t;omega;exact y t
 have o:∀{e:jI} {size m:Nat} {v:jB} {i:List jB},3≠e->w.ownsRow B e size v m i->w'.ownsRow B e size v m i:=fun he o=>Ad o (fun q b=>K.block q (o.lt q b).2 (g q (o.lt q b).1 (fun t=>Ak h.st o he q t b)));exact⟨⟨h.rd.after u (by omega),R',⟨h.pool.len,o (by decide) h.pool.own,fun j z A=>o (by decide) (h.pool.names j z A),h.pool.apart,h.pool.far⟩,o (by decide) h.ins,l,Ad h.sl (fun q b=>K.block q (h.sl.lt q b).2 (g q (h.sl.lt q b).1 (fun t=>h.ap q t b))),r,⟨f.1,f.2.1,zC f.2.2 K.size⟩,h.ok⟩,x⟩
theorem G5.newP {g7 c7:Nat}{u:jB}{v:Vl}(h:G5 w B R gb a n c zs k s pv iv sv lv nv)(o:Obj)(D:Ps v)(E:w.ownsRow B 9 1 u v.names.length (v.names.map Value.string))
  (z:∀q,u.ownBlock=Y q->pv.ownBlock≠Y q/\∀j,(A:j<nv.length)->nv[j].ownBlock≠Y q)(hg:(w.alloc o).grownBy f pv.ownBlock)(F:f.ownsRow B 44 4 (X (Y ⟨g7,0,T⟩) (s.P.length+1) c7) (s.P.length+1) (Iz s.P nv++Uf v u))(hat:pv.ownBlock=Y g7\/g7=w.heap.size+1):
  G5 (f.setCell ⟨gb,1,T⟩ (X (Y ⟨g7,0,T⟩) (s.P.length+1) c7)) B R gb a n c zs k ⟨s.p,s.P++[v],s.I,s.st,s.sl⟩ (X (Y ⟨g7,0,T⟩) (s.P.length+1) c7) iv sv lv (nv++[u])/\DY R gb w (f.setCell ⟨gb,1,T⟩ (X (Y ⟨g7,0,T⟩) (s.P.length+1) c7))/\∀b l,Ah w b l 44->pv.ownBlock≠Y b->Ah (f.setCell ⟨gb,1,T⟩ (X (Y ⟨g7,0,T⟩) (s.P.length+1) c7)) b l 44:=by
 have i:=h.low;have g:=AN w o;have h1:=h.below g;have G:=Af E g NLN;have H:=Cr h1.row hg (fun e=>Ac h1.row h1.pool.own (by decide) e.symm);have K:GW (fun q=>q=gb\/pv.ownBlock=Y q) w (f.setCell ⟨gb,1,T⟩ (X (Y ⟨g7,0,T⟩) (s.P.length+1) c7)):=
  GW.setCell (S:=fun q=>q=gb\/pv.ownBlock=Y q) (a:=w) ⟨hg.os,hg.tape,hg.output,zC g.size hg.size,fun q d J=>(hg.block q (zR d g.size) (fun e=>J (.inr e.symm))).trans (g.block q d)⟩ (p:=⟨gb,1,T⟩) (fun _=> .inl rfl) _
 have L:=h.bel K (fun q t=>by rcases t with t|t;omega;have:=(h.pool.own.lt q t).1;omega);have M:DY R gb w _:= .kpt K (fun q t=>by rcases t with t|t;omega;have:=(h.pool.own.lt q t).1;omega);have N:∀q,B<=q->¬ pv.ownBlock=Y q->¬ (q=gb\/pv.ownBlock=Y q):=fun q h1 O t=>by rcases t with t|t;omega;exact O t
 have y:∀{e:jI} {size m:Nat} {v:jB} {C:List jB},44≠e->w.ownsRow B e size v m C->(f.setCell ⟨gb,1,T⟩ (X (Y ⟨g7,0,T⟩) (s.P.length+1) c7)).ownsRow B e size v m C:=fun he o=>Ad o (fun q d=>K.block q (o.lt q d).2 (N q (o.lt q d).1 (fun t=>Ak h.pool.own o he q t d)));have W:=h1.pool.snoc G (fun j A q d e=>(z q e).2 j A d) (fun q d=>(z q d).1) F hg (fun q d=>by
  have:g7=q:=by simpa[Value.ownBlock]using d
  subst this;exact hat.imp id (fun e=>by rw[e];simp))
 exact⟨⟨h.rd.after L (by omega),H.set 1 _,W.set ⟨gb,1,T⟩ _ i.2.1,y (by decide) h.ins,y (by decide) h.st,y (by decide) h.sl,h.ap,⟨i.1,i.2.1,zC i.2.2 K.size⟩,fun x hx=>by
  rcases zM.1 hx with t|t
  ·exact h.ok x t
  ·rw[zO.1 t];exact D⟩,M,fun b l r aa=>⟨(K.block b r.lt (fun t=>by
   rcases t with t|t
   ·exact Bk r h.row (by decide) t
   ·exact aa t)).trans r.out⟩⟩
theorem G5.cells (h:G5 w B R gb a n c zs k s pv iv sv lv nv):w.cell? ⟨gb,0,T⟩=Y (jH (Y ⟨R,0,T⟩))/\w.cell? ⟨gb,1,T⟩=Y pv/\w.cell? ⟨gb,2,T⟩=Y (U V k)/\w.cell? ⟨gb,3,T⟩=Y iv/\w.cell? ⟨gb,4,T⟩=Y sv/\w.cell? ⟨gb,5,T⟩=Y lv:=
 ⟨h.row.cell 0,h.row.cell 1,h.row.cell 2,h.row.cell 3,h.row.cell 4,h.row.cell 5⟩
theorem AbR (h:GS B R gb a n c zs k s w)(op arg:Int)(S:s.I.length<=100000):
  Calls jL 56 #[jH (Y ⟨gb,0,T⟩),U V op,U V arg] w fun r w'=>GA B R gb a n c zs k w (fun A=>A=EZ s op arg) r w'/\∀b i,Ah w b i 44->Ah w' b i 44:=by
 obtain⟨W,aa,ab,lv,ac,h⟩:=h;obtain⟨C,D,E,F,G⟩:=info_parts IZ;have ad:=h.low;obtain⟨x,cx,rfl,-⟩:=Ae h.ins;obtain⟨c0,c1,c2,c3,c4,c5⟩:=h.cells;have l:=h.ins;have H:(Value.slice x s.I.length cx).ownBlock≠Y gb:=Ac h.row l (by decide);have f:=AN w (.cells #[U V op,U V arg] 49);have J:=World.news_of_block (heap_alloc_new w (.cells #[U V op,U V arg] 49));have K:=Ab (h.row.after f NLN);have v:=Ab h;clear h;go_enter func56,ntmps56
 go_wp2_with (at_builtin;refine wpList_append_lies _ rfl _ _ 24 rfl B 49 C (.agg #[U V 0,U V 0]) 2 16 underlying24 D E F G rfl (by decide) (X x s.I.length cx) s.I.length (Cm s.I) rfl (World.ownsRow.alloc l _) ⟨w.heap.size,0,T⟩ 1 1 [U V op,U V arg] rfl rfl J ?c2 (by decide) ?c3 ?c4 ?c5 (w.heap.size+1) (by simp) ?_)
 case c2=>first|exact⟨rfl,rfl⟩|(intro u hu;simp at hu;rcases hu with rfl|rfl<;>rfl)
 case c3=>unfold maxLen;omega
 case c4=>omega
 case c5=>first|omega|(simp;omega)
 intro g7 y L m d hat M;have g:=Cr (Aa K) d (fun e=>H e.symm);have ae:=fun j=>g.frozen j;have d3:=g.cell 3;have o:GW (fun q=>q=gb\/(Value.slice x s.I.length cx).ownBlock=Y q) w L:=⟨d.os,d.tape,d.output,zC f.size d.size,fun k hk N=>(d.block k (zR hk f.size) (fun e=>N (.inr e.symm))).trans (f.block k hk)⟩
 have z:=Ab ((Aa v).mkI (I':=s.I++[⟨op,arg⟩]) (o.setCell (p:=⟨gb,3,T⟩) (fun _=> .inl rfl) (X (Y ⟨g7,0,T⟩) (s.I.length+1) y)) (g.set 3 _) (by rw[Nj,zB,zg];exact Ai m ⟨gb,3,T⟩ _ (fun q O=>by have:=(m.lt q O).1;show q≠gb;omega)));have P:=Ab (o.setCell (p:=⟨gb,3,T⟩) (fun _=> .inl rfl) (X (Y ⟨g7,0,T⟩) (s.I.length+1) y));clear g m d hat M o;go_wp2_with fail
 go_end0
 exact⟨⟨rfl,_,rfl,⟨_,_,_,_,_,(Aa z).1⟩,(Aa z).2⟩,fun b i r=>⟨((Aa P).block b r.lt (fun t=>by
  rcases t with t|t
  ·exact Bk r (Aa v).row (by decide) t
  ·exact Ac r l (by decide) t)).trans r.out⟩⟩
theorem Ii (h:GS B R gb a n c zs k s w)(op arg:Int)(b:s.I.length<=100000):
  Calls jL 56 #[jH (Y ⟨gb,0,T⟩),U V op,U V arg] w (GA B R gb a n c zs k w fun d=>d=EZ s op arg):=(AbR h op arg b).mono fun _ _ h=>h.1
theorem Vc (h:G5 w B R gb a n c zs k s pv iv sv lv nv)(ty:Int)(P:s.st.length<=100000):
  Calls jL 84 #[jH (Y ⟨gb,0,T⟩),U V ty] w fun r w'=>r= .returned (.tuple #[])/\(∃y,G5 w' B R gb a n c zs k (Ni s ty) pv iv y lv nv)/\DY R gb w w':=by
 obtain⟨z,A,C,D,E⟩:=info_parts Mi;have S:=h.low;obtain⟨x,cx,rfl,-⟩:=Ae h.st;obtain⟨c0,c1,c2,c3,c4,c5⟩:=h.cells;have l:=h.st;have F:(Value.slice x s.st.length cx).ownBlock≠Y gb:=Ac h.row l (by decide);have f:=AN w (.cells #[U V ty] 3);have G:=World.news_of_block (heap_alloc_new w (.cells #[U V ty] 3));have H:=Ab (h.row.after f NLN);have I:=Ab h;have J:=Ab (show ∀q,lv.ownBlock=Y q->q<w.heap.size from fun q d=>(h.sl.lt q d).2);have K:=Ab h.ap;clear h;go_enter func84,ntmps84
 go_wp2_with (at_builtin;refine wpList_append_lies _ rfl _ _ 67 rfl B 3 z (U V 0) 1 8 underlying67 A C D E rfl (by decide) (X x s.st.length cx) s.st.length (Aw s.st) rfl (World.ownsRow.alloc l _) ⟨w.heap.size,0,T⟩ 1 1 [U V ty] rfl rfl G ?c2 (by decide) ?c3 ?c4 ?c5 (w.heap.size+1) (by simp) ?_)
 case c2=>first|rfl|trivial|(intro u hu;simp at hu;subst hu;rfl)
 case c3=>unfold maxLen;omega
 case c4=>omega
 case c5=>first|omega|(simp;omega)
 intro g7 L M i b hat N;have g:=Cr (Aa H) b (fun e=>F e.symm);have W:=fun j=>g.frozen j;have d3:=g.cell 4;have m:GW (fun q=>q=gb\/(Value.slice x s.st.length cx).ownBlock=Y q) w M:=⟨b.os,b.tape,b.output,zC f.size b.size,fun k hk O=>(b.block k (zR hk f.size) (fun e=>O (.inr e.symm))).trans (f.block k hk)⟩
 have o:=Ab ((Aa I).mkS (st':=s.st++[ty]) (m.setCell (p:=⟨gb,4,T⟩) (fun _=> .inl rfl) (X (Y ⟨g7,0,T⟩) (s.st.length+1) L)) (g.set 4 _) (by rw[show Aw (s.st++[ty])=Aw s.st++[U V ty] by simp[Aw],zB,zg];exact Ai i ⟨gb,4,T⟩ _ (fun q d=>by have:=(i.lt q d).1;show q≠gb;omega)) (fun q d v=>by
  have:g7=q:=by simpa[Value.ownBlock]using d
  subst this;rcases hat with t|t
  ·exact Aa K g7 t v
  ·have:=Aa J g7 v;omega))
 clear g i b hat N m;go_wp2_with fail
 go_end0
 exact⟨rfl,⟨_,(Aa o).1⟩,(Aa o).2⟩
theorem PS (h:GS B R gb a n c zs k s w)(ty:Int)(b:s.st.length<=100000):
  Calls jL 84 #[jH (Y ⟨gb,0,T⟩),U V ty] w (GA B R gb a n c zs k w fun d=>d=Ni s ty):=by
 obtain⟨i,j,l,lv,m,h⟩:=h;exact(Vc h ty b).mono fun r w' ⟨h1,⟨o,f⟩,g⟩=>⟨h1,_,rfl,⟨_,_,_,_,_,f⟩,g⟩
end
end
end Go.Proofs.YtppafecmccdplaaGreat
