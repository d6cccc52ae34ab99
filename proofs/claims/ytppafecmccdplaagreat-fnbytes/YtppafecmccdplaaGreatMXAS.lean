import Derived.Test.YtppafecmccdplaaGreatMXAR
open Go.Proofs.Tryz
open Option renaming none->T,some->Y
open Go.Value renaming int->U,slice->X,string->Q,agg->jE
open Go.IntKind renaming i64->V
open Go renaming World->Z,Value->jB,Addr->jD
open Bool renaming true->R,false->jA
open Go.Ending renaming returned->jF
open Go.Proofs.Tryz renaming prog->jL
namespace Go.Proofs.YtppafecmccdplaaGreat
open Go.RowKit
set_option linter.unusedVariables false
variable {x:Int}{bs:List Bool}{L:List I5}{N A B:List Nd}{b q:Nat}{v:jB}{w0 w:Z}
theorem Lr.one {zs:List Int}{p a:Nat}{v v':Vl}(h:Lr zs x p v q)(h':Lr zs x p v' a):v=v'/\q=a:=by
 unfold Lr at h h';split at h
 ·rw[if_pos (by assumption)]at h';exact⟨h.1.trans h'.1.symm,h.2.trans h'.2.symm⟩
 ·rw[if_neg (by assumption)]at h';split at h
  ·rw[if_pos (by assumption)]at h';exact⟨h.1.trans h'.1.symm,h.2.trans h'.2.symm⟩
  ·rw[if_neg (by assumption)]at h';split at h
   ·rw[if_pos (by assumption)]at h';exact⟨h.1.trans h'.1.symm,h.2.trans h'.2.symm⟩
   ·rw[if_neg (by assumption)]at h';have e:=h.2.unique h'.2;exact⟨by rw[h.1,h'.1,e.1],e.2⟩
theorem VaX.one {zs:List Int}{s t a:Gs}(h:VaX zs s t)(h':VaX zs s a):t=a:=by
 obtain⟨v,q,hv,rfl⟩:=h;obtain⟨v',c,b,rfl⟩:=h';obtain⟨rfl,rfl⟩:=hv.one b;rfl
def Ab4 (B:Mv):Prop:=∀s t t',B s t->B s t'->t=t'
theorem Gx.one {a:Mv}(b:Ab4 a){zs:List Int}{k low Cq:Nat}{x:Int} :Ab4 (Gx a zs k low Cq x):=by
 intro s t c h h';unfold Gx at h h';split at h
 ·rw[if_pos (by assumption)]at h';exact h.trans h'.symm
 ·rw[if_neg (by assumption)]at h';split at h
  ·rw[if_pos (by assumption)]at h';split at h
   ·rw[if_pos (by assumption)]at h';exact h.trans h'.symm
   ·rw[if_neg (by assumption)]at h';exact h.trans h'.symm
  ·rw[if_neg (by assumption)]at h';split at h
   ·rw[if_pos (by assumption)]at h';exact h.trans h'.symm
   ·rw[if_neg (by assumption)]at h';split at h
    ·rw[if_pos (by assumption)]at h';exact h.trans h'.symm
    ·rw[if_neg (by assumption)]at h';split at h
     ·rw[if_pos (by assumption)]at h';exact b _ _ _ h h'
     ·rw[if_neg (by assumption)]at h';exact h.one h'
theorem Mf.one {c:Mv}(d:Ab4 c){zs:List Int}{k low Cq:Nat} :∀n,Ab4 (Mf c zs k low Cq n)
 |0=>fun s t f h h'=>Eq.trans (b:=s) h (Eq.symm h')
 |n+1=>fun s t f h h'=>by
  unfold Mf at h h';split at h
  ·rw[if_pos (by assumption)]at h';obtain⟨s1,a,b⟩:=h;obtain⟨s2,g,i⟩:=h';obtain rfl:=Gx.one d _ _ _ a g;exact Mf.one d n _ _ _ b i
  ·rw[if_neg (by assumption)]at h';exact h.trans h'.symm
theorem Hj.one (zs:List Int)(k:Nat):∀d,Ab4 (Hj zs k d)
 |0=>fun s t c h _=>h.elim
 |d+1=>fun s t c h h'=>by
  obtain⟨s1,s2,a,b,rfl⟩:=h;obtain⟨i,j,f,g,rfl⟩:=h';obtain rfl:=Mf.one (Hj.one zs k d) 2 _ _ _ a f;obtain rfl:=b.one g;rfl
set_option maxRecDepth 100000
set_option maxHeartbeats 3200000
theorem AdG {j:Nat}(h:j<bs.length)(h1:(bs.take j).any id=jA)(a:bs[j]=jA):(bs.take (j+1)).any id=jA:=by
 rw[zc h,List.any_append,h1];simp[a]
theorem Afu {j:Nat}(h:j<bs.length)(a:bs[j]=R):bs.any id=R:=
 List.any_eq_true.2 ⟨bs[j],zH h,by simp[a]⟩
theorem KG (n op num:Int)(text:ByteArray)(an:Option jD)(nn cn:Nat)(ka:Option jD)(m kc:Nat)(hm:m<=1048576)(a:List K5)(v:a.length=m)(bs:List Bool)(x:bs.length=m)(w:Z)(y:AO w ka a)
  (z:∀j,(h1:j<a.length)->(af:j<bs.length)->∀s,An w s->Calls jL 47 #[jE #[U V a[j].op,U V a[j].num,Q a[j].text,X a[j].an a[j].nn a[j].cn,X a[j].ka a[j].kn a[j].kc],U V n] s (Ry bs[j] s)):
  Calls jL 47 #[jE #[U V op,U V num,Q text,X an nn cn,X ka m kc],U V n] w (Ry (decide (op=7/\num=n)||bs.any id) w):=by
 have c:=AN w (Bs op num text an nn cn ka m kc);have W:=Ab z;have aa:=Ab v;have A:=Ab x;have B:=y.below c NLN;clear z v x y;by_cases d:op=7/\num=n
 ·have g:=Ab (show(decide (op=7/\num=n)||bs.any id)=R by rw[zN d];rfl);have e7:(op==7)=R:=zF.2 d.1;have en:(num==n)=R:=zF.2 d.2;clear d;go_enter func47,ntmps47
  go_wp2
  go_ret
  exact⟨by rw[Aa g];rfl,c⟩
 ·have g:=Ab (show(decide (op=7/\num=n)||bs.any id)=bs.any id by rw[zI d];rfl);have hc:((op==7)=jA/\(num==n)=(num==n))\/((op==7)=R/\(num==n)=jA):=by
   by_cases h:op=7
   ·exact .inr ⟨zF.2 h,zA.2 (fun e=>d ⟨h,e⟩)⟩
   ·exact .inl ⟨zA.2 h,rfl⟩
  clear d;generalize (decide (op=7/\num=n)||bs.any id)=zz at g|-;rcases hc with⟨e7,en⟩|⟨e7,en⟩
  all_goals
   go_enter func47,ntmps47
   go_wp2_with fail
   generalize w.alloc (Bs op num text an nn cn ka m kc)=ab at c B|-;go_loopw [19] (fun i wr=>∃j:Nat,j<=m/\i=U V j/\An ab wr/\Hid ((bs.take j).any id=jA)) (fun i _=>m-(intOf i).toNat)
   case atStart=>exact⟨0,zE _,rfl,BRN,Ab rfl⟩
   case round=>
    obtain⟨j,ag,rfl,f,C⟩:=hrel;by_cases o:j<m
    ·have ah:(j:Int)<(m:Int):=by omega
     have t:j<a.length:=by rw[Aa aa];exact o
     have p:j<bs.length:=by rw[Aa A];exact o
     obtain⟨b,ai,rfl,aj,hc⟩:=(B.below f NLN) j t;have c0:=hc 0 (by decide);have c1:=hc 1 (by decide);have c2:=hc 2 (by decide);have c3:=hc 3 (by decide);have c4:=hc 4 (by decide);simp only[K5.cs,ze,z4,z1]at c0 c1 c2 c3 c4;have q:=Ab (Aa W j t p);have D:=Ab (show bs[j]=jA->(bs.take (j+1)).any id=jA from fun h=>AdG p (Aa C) h);have E:=Ab (show bs[j]=R->bs.any id=R from fun h=>Afu p h);have F:=Ab o;generalize a[j]=k at c0 c1 c2 c3 c4 q;generalize bs[j]=ac at q D E;obtain⟨G,H,I,J,K,L,M,N,O⟩:=k;dsimp only at c0 c1 c2 c3 c4 q;clear hc o t p;have P:=c.trans (f.mono c.size);have u:=AN wr (Bs G H I J K L M N O);have ad:=P.trans (u.mono P.size);obtain⟨ak,d1,d2,d3,d4,_⟩:=Aq (Ah.new wr #[U V G,U V H,Q I,X J K L,X M N O] 101);go_wp2_with fail
     refine(Aa q _ ad).mono ?_;rintro r al ⟨rfl,ae⟩;have S:=(f.trans (u.mono f.size)).trans (ae.mono (zC f.size u.size));cases ac with
     |true=>
      have l:=Ab (Aa E rfl);dsimp only;go_wp2
      go_ret
      exact⟨by rw[Aa g,Aa l];rfl,c.trans (S.mono c.size)⟩
     |false=>
      have l:=Ab (Aa D rfl);dsimp only;go_wp2
      go_roundw
      case rel=>exact⟨j+1,Aa F,by go_num,S,l⟩
      case measure=>have:=Aa F;simp[intOf];omega
    ·have e:j=m:=by omega
     subst e;have l:=Ab (show bs.any id=jA by rw[<-Aa C,zf (by rw[Aa A];exact NLN)]);go_wp2
     go_ret
     exact⟨by rw[Aa g,Aa l];rfl,c.trans (f.mono c.size)⟩
theorem FG {n:Int}{e:Ex}{k:K5}{w:Z}(hk:e.kids=[])(h:Tq w e k)(hu:usE n e=decide (k.op=7/\k.num=n)):Calls jL 47 #[jE #[U V k.op,U V k.num,Q k.text,X k.an k.nn k.cn,X k.ka k.kn k.kc],U V n] w (Ry (usE n e) w):=by
 have:=KG n k.op k.num k.text k.an k.nn k.cn k.ka 0 k.kc (by decide) [] rfl [] rfl w (Dy w _) (fun j a1=>absurd a1 (by simp));rw[h.leaf hk,hu];simpa using this
theorem Kk (n:Int):∀(e:Ex) (k:K5) (w:Z),Tq w e k->Bi e=R->Calls jL 47 #[jE #[U V k.op,U V k.num,Q k.text,X k.an k.nn k.cn,X k.ka k.kn k.kc],U V n] w (Ry (usE n e) w)
 |.un i op c,k,w,h,ho=>by
  obtain⟨h1,p,q,s,h5,a,f,g⟩:=h;simp only[Bi,zD,zG]at ho;have e0:usE n (.un i op c)=(decide (k.op=7/\k.num=n)||[usE n c].any id):=by
   rw[usE,zI (by rw[h1];omega)];simp
  rw[e0,h5];exact KG n k.op k.num k.text k.an k.nn k.cn k.ka 1 k.kc (by decide) [a] rfl [usE n c] rfl w f (fun j a1 a2 b d=>by
   match j,a1 with
   |0,_=>exact Kk n c a b (g.below d NLN) ho.2)
 |.bin i op l r,k,w,h,ho=>by
  obtain⟨h1,p,q,s,h5,a,m,f,g,o⟩:=h;simp only[Bi,zD,zG]at ho;have e0:usE n (.bin i op l r)=(decide (k.op=7/\k.num=n)||[usE n l,usE n r].any id):=by
   rw[usE,zI (by rw[h1];omega)];simp
  rw[e0,h5];exact KG n k.op k.num k.text k.an k.nn k.cn k.ka 2 k.kc (by decide) [a,m] rfl [usE n l,usE n r] rfl w f (fun j a1 a2 b d=>by
   match j,a1 with
   |0,_=>exact Kk n l a b (g.below d NLN) ho.2.1
   |1,_=>exact Kk n r m b (o.below d NLN) ho.2.2)
 |.ite i c t e,k,w,h,ho=>by
  obtain⟨h1,p,q,s,h5,a,m,u,f,g,o,v⟩:=h;simp only[Bi,zD]at ho;have e0:usE n (.ite i c t e)=(decide (k.op=7/\k.num=n)||[usE n c,usE n t,usE n e].any id):=by
   rw[usE,zI (by rw[h1];omega)];simp
  rw[e0,h5];exact KG n k.op k.num k.text k.an k.nn k.cn k.ka 3 k.kc (by decide) [a,m,u] rfl [usE n c,usE n t,usE n e] rfl w f (fun j a1 a2 b d=>by
   match j,a1 with
   |0,_=>exact Kk n c a b (g.below d NLN) ho.1
   |1,_=>exact Kk n t m b (o.below d NLN) ho.2.1
   |2,_=>exact Kk n e u b (v.below d NLN) ho.2.2)
 |.int ..,k,w,h,ho=>FG rfl h (by rw[h.op];simp[usE,FO,Ed])
 |.text ..,k,w,h,ho=>FG rfl h (by rw[h.op];simp[usE,FO,Ed])
 |.bool ..,k,w,h,ho=>FG rfl h (by rw[h.op];simp[usE,FO,Ed])
 |.set ..,k,w,h,ho=>FG rfl h (by rw[h.op];simp[usE,FO,Ed])
 |.name ..,k,w,h,ho=>FG rfl h (by rw[h.op];simp[usE,FO,Ed])
 |.attr ..,k,w,h,ho=>FG rfl h (by rw[h.op];simp[usE,FO,Ed])
 |.lett ..,k,w,h,ho=>FG rfl h (by rw[h.op,h.num];simp[usE,FO,Aba,Ed])
def mx (a b:Int):Int:=if a<b then b else a
def Bv:Ex->Int
 |.un _ _ k=>mx 0 (Bv k)+1
 |.bin _ _ l r=>mx (mx 0 (Bv l)) (Bv r)+1
 |.ite _ c t e=>mx (mx (mx 0 (Bv c)) (Bv t)) (Bv e)+1
 |_=>1
def dpO:Option Ex->Int
 |none=>0
 |some e=>Bv e
theorem Fp (a b:Int):a<=mx a b/\b<=mx a b/\(mx a b=a\/mx a b=b):=by unfold mx;split<;>omega
theorem Dj:∀(e:Ex),1<=Bv e/\Bv e<=(e.cnt:Int)
 |.int .. =>by simp[Bv,Ex.cnt]
 |.text .. =>by simp[Bv,Ex.cnt]
 |.bool .. =>by simp[Bv,Ex.cnt]
 |.set .. =>by simp[Bv,Ex.cnt]
 |.name .. =>by simp[Bv,Ex.cnt]
 |.attr .. =>by simp[Bv,Ex.cnt]
 |.lett .. =>by simp[Bv,Ex.cnt]
 |.un _ _ k=>by
  have h1:=Dj k;have a:=Fp 0 (Bv k);simp only[Bv,Ex.cnt];omega
 |.bin _ _ l r=>by
  have h1:=Dj l;have b:=Dj r;have a:=Fp 0 (Bv l);have d:=Fp (mx 0 (Bv l)) (Bv r);simp only[Bv,Ex.cnt];omega
 |.ite _ c t e=>by
  have h1:=Dj c;have b:=Dj t;have f:=Dj e;have a:=Fp 0 (Bv c);have d:=Fp (mx 0 (Bv c)) (Bv t);have g:=Fp (mx (mx 0 (Bv c)) (Bv t)) (Bv e);simp only[Bv,Ex.cnt];omega
theorem Ex.cnt1:∀(e:Ex),1<=e.cnt
 |.un .. =>by simp[Ex.cnt]
 |.bin .. =>by simp[Ex.cnt]
 |.ite .. =>by simp[Ex.cnt]
 |.int .. =>by simp[Ex.cnt]
 |.text .. =>by simp[Ex.cnt]
 |.bool .. =>by simp[Ex.cnt]
 |.set .. =>by simp[Ex.cnt]
 |.name .. =>by simp[Ex.cnt]
 |.attr .. =>by simp[Ex.cnt]
 |.lett .. =>by simp[Ex.cnt]
def GM (N:List Nd) (b:Nat) (M:List Nd):Prop:=∀j x,M[j]? =Y x->N[b+j]? =Y x
theorem GM.left (h:GM N b (A++B)):GM N b A:=fun j x hx=>h j x (by
 have:=(zZ.1 hx).1;rw[z2 this];exact hx)
theorem GM.right {k:Nat}(h:GM N b (A++B))(hk:A.length=k):GM N (b+k) B:=fun j x hx=>by
 have:=h (k+j) x (by rw[z8 (by omega),<-hk];rw[show A.length+j-A.length=j by omega];exact hx);rw[show b+k+j=b+(k+j) by omega];exact this
theorem GM.one {x:Nd}(h:GM N b [x]):(N.map Nd.kids)[b]? =Y x.kids:=by
 have:=h 0 x rfl;rw[ze]at this;rw[zk,this];rfl
theorem mxN {a b:Int}(c: 0<=a)(d: 0<=b):(mx a b).toNat=max a.toNat b.toNat:=by unfold mx;split<;>omega
theorem Fx:∀(e:Ex) (N:List Nd) (b:Nat),GM N b (Eg e b)->Ay (N.map Nd.kids) b [(b+e.cnt-1,(Bv e).toNat)] (b+e.cnt)
 |.un i op k,N,b,h=>by
  rw[Eg]at h;have h1:=Fx k N b h.left;have d:=(h.right (AK k b)).one;have c1:=k.cnt1;have d1:=(Dj k).1;have:=Ay.cons h1 (show(N.map Nd.kids)[b+k.cnt]? =Y (As [(b+k.cnt-1,(Bv k).toNat)])from d) (.nil _);have e1:(Bv (.un i op k)).toNat=Cq [(b+k.cnt-1,(Bv k).toNat)]+1:=by
   rw[Bv];have:=mxN (zq 0) (show 0<=Bv k by omega);simp[Cq];have:=(Fp 0 (Bv k));omega
  rw[e1,Ex.cnt];exact this
 |.bin i op l r,N,b,h=>by
  rw[Eg]at h;have h1:=Fx l N b h.left.left;have d:=Fx r N (b+l.cnt) (h.left.right (AK l b));have f:=(h.right (k:=l.cnt+r.cnt) (by rw[zB,AK,AK])).one;have c1:=l.cnt1;have c2:=r.cnt1;have d1:=(Dj l).1;have d2:=(Dj r).1;rw[<-Z1]at f;have:=Ay.cons (h1.join d) (show(N.map Nd.kids)[b+l.cnt+r.cnt]? =Y (As [(b+l.cnt-1,(Bv l).toNat),(b+l.cnt+r.cnt-1,(Bv r).toNat)])from f) (.nil _);have e1:(Bv (.bin i op l r)).toNat=Cq [(b+l.cnt-1,(Bv l).toNat),(b+l.cnt+r.cnt-1,(Bv r).toNat)]+1:=by
   rw[Bv];have a1:=Fp 0 (Bv l);have a2:=Fp (mx 0 (Bv l)) (Bv r);simp[Cq];omega
  rw[e1,Ex.cnt,show b+(l.cnt+r.cnt+1)-1=b+l.cnt+r.cnt by omega,show b+(l.cnt+r.cnt+1)=b+l.cnt+r.cnt+1 by omega];exact this
 |.ite i c t e,N,b,h=>by
  rw[Eg]at h;have h1:=Fx c N b h.left.left.left;have d:=Fx t N (b+c.cnt) (h.left.left.right (AK c b));have f:=Fx e N (b+c.cnt+t.cnt) (by have:=h.left.right (k:=c.cnt+t.cnt) (by rw[zB,AK,AK]);rw[<-Z1]at this;exact this);have g:=(h.right (k:=c.cnt+t.cnt+e.cnt) (by rw[zB,zB,AK,AK,AK])).one;have c2:=t.cnt1;have c3:=e.cnt1;have d1:=(Dj c).1;have d2:=(Dj t).1;have d3:=(Dj e).1;rw[show b+(c.cnt+t.cnt+e.cnt)=b+c.cnt+t.cnt+e.cnt by omega]at g;have:=Ay.cons ((h1.join d).join f) (show(N.map Nd.kids)[b+c.cnt+t.cnt+e.cnt]? =Y (As [(b+c.cnt-1,(Bv c).toNat),(b+c.cnt+t.cnt-1,(Bv t).toNat),(b+c.cnt+t.cnt+e.cnt-1,(Bv e).toNat)])from g) (.nil _);have e1:(Bv (.ite i c t e)).toNat=Cq [(b+c.cnt-1,(Bv c).toNat),(b+c.cnt+t.cnt-1,(Bv t).toNat),(b+c.cnt+t.cnt+e.cnt-1,(Bv e).toNat)]+1:=by
   rw[Bv];have a1:=Fp 0 (Bv c);have a2:=Fp (mx 0 (Bv c)) (Bv t);have a3:=Fp (mx (mx 0 (Bv c)) (Bv t)) (Bv e);simp[Cq];omega
  rw[e1,Ex.cnt,show b+(c.cnt+t.cnt+e.cnt+1)-1=b+c.cnt+t.cnt+e.cnt by omega,show b+(c.cnt+t.cnt+e.cnt+1)=b+c.cnt+t.cnt+e.cnt+1 by omega];exact this
 |.int i n,N,b,h=>Ay.cons (.nil b) (show(N.map Nd.kids)[b]? =Y (As [])from h.one) (.nil _)
 |.text i s,N,b,h=>Ay.cons (.nil b) (show(N.map Nd.kids)[b]? =Y (As [])from h.one) (.nil _)
 |.bool i v,N,b,h=>Ay.cons (.nil b) (show(N.map Nd.kids)[b]? =Y (As [])from h.one) (.nil _)
 |.set i a n c ss,N,b,h=>Ay.cons (.nil b) (show(N.map Nd.kids)[b]? =Y (As [])from h.one) (.nil _)
 |.name i s,N,b,h=>Ay.cons (.nil b) (show(N.map Nd.kids)[b]? =Y (As [])from h.one) (.nil _)
 |.attr i n,N,b,h=>Ay.cons (.nil b) (show(N.map Nd.kids)[b]? =Y (As [])from h.one) (.nil _)
 |.lett i n,N,b,h=>Ay.cons (.nil b) (show(N.map Nd.kids)[b]? =Y (As [])from h.one) (.nil _)
theorem QN (o:Option Ex)(N:List Nd)(b:Nat)(h:GM N b (Pu o b))(hd:dpO o<=64):∃a,Ay (N.map Nd.kids) b a (b+Bc o)/\As a=(if o.isSome then [JG o b]else [])/\∀p∈a,p.2<=64:=by
 cases o with
 |none=>exact⟨[],.nil _,rfl,fun p hp=>by cases hp⟩
 |some e=>
  refine⟨_,Fx e N b h,?_,fun p hp=>?_⟩
  ·simp[As,JG]
  ·rw[zO.1 hp];have:Bv e<=64:=hd;show(Bv e).toNat<=64;omega
theorem QO (N:List Nd):∀(a:List Sx) (b:Nat),GM N b (DG b a)->(∀x∈a,dpO x.cond<=64/\dpO x.grant<=64/\(x.kind=3↔x.cond=T))->∃c,Ay (N.map Nd.kids) b c (b+Cn a)/\As c=(Dv b a).flatMap Ap/\∀p∈c,p.2<=64
 |[],b,_,_=>⟨[],.nil _,rfl,fun p hp=>by cases hp⟩
 |x ::a,b,h,hx=>by
  rw[DG]at h;have l1:(Pu x.cond b).length=Bc x.cond:=by cases x.cond<;>simp[Pu,Bc,AK]
  have g:(Pu x.grant (b+Bc x.cond)).length=Bc x.grant:=by cases x.grant<;>simp[Pu,Bc,AK]
  obtain⟨i,j,f⟩:=hx x (zS ..);obtain⟨f1,l,m,d1⟩:=QN x.cond N b h.left.left i;obtain⟨f2,n,o,d2⟩:=QN x.grant N (b+Bc x.cond) (h.left.right l1) j;obtain⟨q,r,s,d3⟩:=QO N a (b+Bc x.cond+Bc x.grant) (by have:=h.right (k:=Bc x.cond+Bc x.grant) (by rw[zB,l1,g]);rw[<-Z1]at this;exact this) (fun y hy=>hx y (za _ hy));refine⟨f1++f2++q,?_,?_,fun p hp=>?_⟩
  ·have:=(l.join n).join r;rw[BI,<-Z1,<-Z1];exact this
  ·rw[Dv,zm,<-s];have e0:∀A B:List (Nat×Nat),As (A++B)=As A++As B:=fun A B=>by simp[As]
   rw[e0,e0,m,o]
   congr 1
   rw[Ap]
   congr 1
   ·cases hc:x.cond with
    |none=>simp[f.2 hc]
    |some e=>
     have d:x.kind≠3:=fun d=>by rw[f.1 d]at hc;cases hc
     simp[d]
   ·cases hc:x.grant with
    |none=>simp[JG]
    |some e=>simp[JG]
  ·rcases zM.1 hp with hp|hp
   ·rcases zM.1 hp with hp|hp
    ·exact d1 p hp
    ·exact d2 p hp
   ·exact d3 p hp
structure J5 where
 i:I5
 a:Option jD
 n:Nat
 c:Nat
def J5.cs (j:J5):List jB:= [U V j.i.op,U V j.i.arg,U V j.i.val.kind,U V j.i.val.num,Q j.i.val.text,X j.a j.n j.c]
theorem Ab8 (a:List J5)(j:Nat)(h:j<a.length):∀r,r<6->(a.flatMap J5.cs)[j*6+r]? =(a[j].cs)[r]? :=by
 induction a generalizing j with
 |nil=>simp at h
 |cons k a c=>
  intro r d;have b:k.cs.length=6:=rfl;cases j with
  |zero=>
   rw[zm,z2 (by rw[b];omega)];simp
  |succ j=>
   rw[zm,z8 (by rw[b];omega),b,show(j+1)*6+r-6=j*6+r by omega,c j (by simpa using h) r d];simp
theorem No:∀(a:List J5),(a.flatMap J5.cs).length=a.length*6
 |[]=>rfl
 |k ::a=>by
  have b:k.cs.length=6:=rfl;rw[zm,zB,No a,b,List.length_cons];omega
def Qh (w:Z) (a:Option jD) (n c:Nat) (ss:List ByteArray):Prop:=AJ w a n c ss/\(a=T->c=0)
def OG (w0:Z) (J:List J5):Prop:=∀j∈J,Qh w0 j.a j.n j.c j.i.val.names
def BY (w0:Z) (B:Nat) (v:jB) (L:List I5) (w:Z):Prop:=∃J:List J5,J.map J5.i=L/\OG w0 J/\w.ownsRow B 113 6 v J.length (J.flatMap J5.cs)
theorem BY.below {w':Z}{B:Nat}(h:BY w0 B v L w)(a:An w w'):BY w0 B v L w':=by
 obtain⟨b,h1,c,d⟩:=h;exact⟨b,h1,c,Af d a NLN⟩
theorem BY.nil (w0:Z)(B:Nat)(w:Z):BY w0 B (X T 0 0) [] w:=⟨[],rfl,fun j a=>absurd a (by simp),World.ownsRow_nil _ _ _ _⟩
theorem Qh.none0 (w:Z):Qh w T 0 0 []:=⟨⟨rfl,NLN,zE _,fun j a=>absurd a (by simp),fun j a=>absurd a (by simp)⟩,fun _=>rfl⟩
def AQ (op arg:Int):J5:=⟨⟨op,arg,Ax⟩,T,0,0⟩
theorem Ab9:(jL.info? 113).map (fun i=>(i.zero,i.size,i.bytes))=Y (Y (jE #[U V 0,U V 0,U V 0,U V 0,Q ByteArray.empty,X T 0 0]),6,72):=by kernel_rfl
def GF (op:Int) (ns:List Nat):Nat:=1+ns.sum+(if op=25\/op=26 then 2 else if op=27 then 1 else 0)
theorem OH:∀(ns:List Nat) (j:Nat),(ns.take j).sum<=ns.sum
 |[],j=>by simp
 |n ::ns,0=>by simp
 |n ::ns,j+1=>by have:=OH ns j;simp only[List.take_succ_cons,List.sum_cons];omega
theorem Aca (op num:Int)(text:ByteArray)(an:Option jD)(nn cn:Nat)(ka:Option jD)(m kc:Nat)(hm:m<=1048576)(a:List K5)(B:a.length=m)(ns:List Nat)(C:ns.length=m)(D:ns.sum<=1048576)(w:Z)(E:AO w ka a)
  (F:∀j,(h1:j<a.length)->(ar:j<ns.length)->∀x,An w x->Calls jL 78 #[jE #[U V a[j].op,U V a[j].num,Q a[j].text,X a[j].an a[j].nn a[j].cn,X a[j].ka a[j].kn a[j].kc]] x fun r w'=>r=jF (U V (ns[j]:Nat))/\An x w'):
  Calls jL 78 #[jE #[U V op,U V num,Q text,X an nn cn,X ka m kc]] w fun r w'=>r=jF (U V (GF op ns:Nat))/\An w w':=by
 have G:=Ah.new w #[U V op,U V num,Q text,X an nn cn,X ka m kc] 101;have l:=AN w (Bs op num text an nn cn ka m kc);have ah:=Ab F;have ai:=Ab B;have H:=Ab C;have I:=Ab D;have J:=E.below l NLN;clear F B C E D;go_enter func78,ntmps78
 go_wp2_with fail
 generalize w.alloc (Bs op num text an nn cn ka m kc)=aj at G l J|-;go_loopw [3,9] (fun v i wr=>∃j:Nat,j<=m/\i=U V j/\v=U V (1+(ns.take j).sum:Nat)/\An aj wr) (fun _ i _=>m-(intOf i).toNat)
 case atStart=>exact⟨0,zE _,rfl,rfl,BRN⟩
 case round=>
  obtain⟨j,au,rfl,rfl,d⟩:=hrel;by_cases p:j<m
  ·have av:(j:Int)<(m:Int):=by omega
   have y:j<a.length:=by rw[Aa ai];exact p
   have z:j<ns.length:=by rw[Aa H];exact p
   obtain⟨b,aw,rfl,ax,hc⟩:=(J.below d NLN) j y;have c0:=hc 0 (by decide);have c1:=hc 1 (by decide);have c2:=hc 2 (by decide);have c3:=hc 3 (by decide);have c4:=hc 4 (by decide);simp only[K5.cs,ze,z4,z1]at c0 c1 c2 c3 c4;have q:=Ab (Aa ah j y z);have K:(ns.take (j+1)).sum=(ns.take j).sum+ns[j]:=by rw[zc z,List.sum_append];simp
   have L:(ns.take (j+1)).sum<=ns.sum:=OH ns _;have o:=Ab (And.intro K (zC L (Aa I)));have M:=Ab p;generalize a[j]=k at c0 c1 c2 c3 c4 q;generalize ns[j]=N at q o;generalize (ns.take j).sum=c at o|-;have O:((1+c:Nat):Int)<=1048577:=by have:=Aa o;omega
   have P:(0 :Int)<=((1+c:Nat):Int):=by omega
   have ay:((1+c:Nat):Int)+(N:Int)<=1048577:=by have:=Aa o;omega
   obtain⟨S,W,aa,ab,ac,ad,ae,af,ag⟩:=k;dsimp only at c0 c1 c2 c3 c4 q;clear hc p y z K L;have f:=l.trans (d.mono l.size);have A:=AN wr (Bs S W aa ab ac ad ae af ag);have ak:=f.trans (A.mono f.size);obtain⟨az,d1,d2,d3,d4,_⟩:=Aq (Ah.new wr #[U V S,U V W,Q aa,X ab ac ad,X ae af ag] 101);go_wp2_with fail
   refine(Aa q _ ak).mono ?_;rintro r aA ⟨rfl,al⟩;have ao:=(d.trans (A.mono d.size)).trans (al.mono (zC d.size A.size));have ap:=Ab (show((1+c:Nat):Int)+(N:Int)=((1+(ns.take (j+1)).sum:Nat):Int) by rw[(Aa o).1];omega);dsimp only;go_wp2
   go_roundw
   case rel=>exact⟨j+1,Aa M,by go_num,by rw[<-Aa ap];first|rfl|(congr 1;omega),ao⟩
   case measure=>have:=Aa M;simp[intOf];omega
  ·have e:j=m:=by omega
   subst e;have n:=Ab (show(ns.take j).sum=ns.sum by rw[zf (by rw[Aa H];exact NLN)]);have O:((1+(ns.take j).sum:Nat):Int)<=1048577:=by have:=Aa n;have:=Aa I;omega
   have P:(0 :Int)<=((1+(ns.take j).sum:Nat):Int):=by omega
   have aq:=G.after d NLN;obtain⟨aB,aC,aD,aE,aF,_⟩:=Aq aq;have f:=l.trans (d.mono l.size);generalize (ns.take j).sum=c at n O P|-;by_cases s:op=25
   ·subst s;have g:=Ab (show GF 25 ns=1+c+2 by rw[GF,if_pos (.inl rfl),Aa n]);go_wp2
    go_ret
    exact⟨by rw[Aa g];rfl,f⟩
   ·by_cases t:op=26
    ·subst t;have g:=Ab (show GF 26 ns=1+c+2 by rw[GF,if_pos (.inr rfl),Aa n]);go_wp2
     go_ret
     exact⟨by rw[Aa g];rfl,f⟩
    ·have aG:(op==25)=jA:=zA.2 s;have aH:(op==26)=jA:=zA.2 t;by_cases u:op=27
     ·subst u;have g:=Ab (show GF 27 ns=1+c+1 by rw[GF,if_neg (by decide),if_pos rfl,Aa n]);go_wp2
      go_ret
      exact⟨by rw[Aa g];rfl,f⟩
     ·have aI:(op==27)=jA:=zA.2 u;have g:=Ab (show GF op ns=1+c by rw[GF,if_neg (fun h=>h.elim s t),if_neg u,Aa n];rfl);clear s t u;go_wp2
      go_ret
      exact⟨by rw[Aa g];rfl,f⟩
set_option maxHeartbeats 1600000
theorem Vm (op:Int)(h: 8<=op/\op<=26)(w:Z):Calls jL 80 #[U V op] w fun r w'=>r=jF (U V (op-3))/\w'=w:=by
 have h1:=h.1;have a:=h.2;by_cases b:op<=10
 ·go_enter func80,ntmps80
  go_wp2
  go_ret
  refine⟨?_,rfl⟩;show jF (U V _)=_
  congr 2
  omega
 ·go_enter func80,ntmps80
  go_wp2
  go_ret
  refine⟨?_,rfl⟩;show jF (U V _)=_
  congr 2
  omega
theorem BY.low {B B':Nat}(h:BY w0 B v L w)(a:B'<=B):BY w0 B' v L w:=by
 obtain⟨b,h1,c,d⟩:=h;exact⟨b,h1,c,Aj d a⟩
theorem BY.form {B:Nat}(h:BY w0 B v L w):∃x c,v=X x L.length c/\(0<L.length->∃g K,x=Y ⟨g,0,T⟩/\K.map J5.i=L/\OG w0 K/\∀j u,(K.flatMap J5.cs)[j]? =Y u->w.cell? ((⟨g,0,T⟩:jD).add j)=Y u):=by
 obtain⟨a,h1,b,d⟩:=h;have e:a.length=L.length:=by rw[<-h1,zU]
 obtain⟨x,c,rfl,hx⟩:=Ae d;rw[e];refine⟨x,c,rfl,fun h0=>?_⟩;obtain⟨g,rfl,_,hc⟩:=hx (by omega);refine⟨g,a,rfl,h1,b,fun j u hu=>?_⟩;rw[show(⟨g,0,T⟩:jD).add j=⟨g,j,T⟩ by by_cases e:j=0<;>simp[Addr.add,e]];exact hc j u hu
theorem J5.one (j:J5):∀u∈j.cs,u.oneCell'=R:=fun u hu=>by
 simp only[J5.cs,zT,List.not_mem_nil,or_false]at hu;rcases hu with rfl|rfl|rfl|rfl|rfl|rfl<;>rfl
theorem Lx {w:Z}{ops:Array Oper}{rest:List Oper}{o:Oper}{a:Act}{Q:Exit->Act->Z->Prop}(p:o.guard=T)(s x:Operand)
  (r:o.op= .call { callee:= .builtin .append,args:=#[s,x],argTypes:=#[109,109] })(w0:Z)(B:Nat)(v:jB)(L:List I5)(hs:a.eval s=v)(hv:BY w0 B v L w)
  (f:jD)(m c:Nat)(K:List J5)(hx:a.eval x=X (Y f) m c)(hm:K.length=m)(t:OG w0 K)(y:∀j u,(K.flatMap J5.cs)[j]? =Y u->w.cell? (f.add j)=Y u)(I:L.length+m<=4194304)(l:B<=w.heap.size)
  (h:∀b n' c' w',BY w0 B (X b n' c') (L++K.map J5.i) w'->Below B w w'->wpList jL ops Q rest (a.put o.dst (X b n' c')) w'):wpList jL ops Q (o ::rest) a w:=by
 obtain⟨z,A,C,D,E⟩:=info_parts Ab9;obtain⟨d,h1,F,n⟩:=hv;have e:d.length=L.length:=by rw[<-h1,zU]
 refine wpList_append_own w p s x 109 r B 113 z _ 6 72 underlying109 A C D E rfl (by decide) v d.length (d.flatMap J5.cs) hs n f m c (K.flatMap J5.cs) hx (by rw[No,hm]) y (fun u hu=>?_) (by unfold maxLen;omega) (by omega) l ?_
 ·obtain⟨k,_,hk⟩:=Z2.1 hu;exact k.one u hk
 ·intro v' w' g hg _;obtain⟨b,c',rfl,_⟩:=Ae g;rw[e];refine h b _ c' w' ⟨d++K,by rw[zl,h1],fun j G=>(zM.1 G).elim (F j) (t j),?_⟩ ((Below.refl B w).grown hg l (fun q H=>(n.lt q H).1));rw[zB,Z3,hm,e];rw[e]at g;exact g
theorem DH (w:Z)(k:J5)(b:Nat)(d:b=w.heap.size):∀j u,([k].flatMap J5.cs)[j]? =Y u->(w.alloc (.cells #[U V k.i.op,U V k.i.arg,U V k.i.val.kind,U V k.i.val.num,Q k.i.val.text,X k.a k.n k.c] 113)).cell? ((⟨b,0,T⟩:jD).add j)=Y u:=fun j u h=>by
 subst d;have f:(⟨w.heap.size,0,T⟩:jD).add j=⟨w.heap.size,j,T⟩:=by by_cases e:j=0<;>simp[Addr.add,e]
 rw[f,(Ah.new w _ 113).cell j,<-h];simp[J5.cs]
theorem OG.one {k:J5}(h:Qh w0 k.a k.n k.c k.i.val.names):OG w0 [k]:=fun j b=>by
 rw[zO.1 b];exact h
theorem OG.plain (w0:Z)(op arg:Int):OG w0 [AQ op arg]:=OG.one (Qh.none0 w0)
def Zg (w0 w:Z) (k:K5) (e:Ex):Prop:=∀W,An w W->∀at_:Nat,at_+Am e<=1048576->Calls jL 52 #[jE #[U V k.op,U V k.num,Q k.text,X k.an k.nn k.cn,X k.ka k.kn k.kc],U V at_] W fun r w'=>(∃v,r=jF v/\BY w0 W.heap.size v (Ar e at_) w')/\An W w'
def Vn (w:Z) (k:K5) (e:Ex):Prop:=∀W,An w W->Calls jL 78 #[jE #[U V k.op,U V k.num,Q k.text,X k.an k.nn k.cn,X k.ka k.kn k.kc]] W fun r w'=>r=jF (U V (Am e))/\An W w'
theorem Aew (w0:Z)(op num:Int)(text:ByteArray)(an:Option jD)(nn cn:Nat)(ka:Option jD)(kc:Nat)(h:K5)(i:Int)(e0:Ex)(x: 8<=op/\op<=10)(a:Nat)(j:a+Am (.un i op e0)<=1048576)(w:Z)(k:AO w ka [h])(l:Zg w0 w h e0):
  Calls jL 52 #[jE #[U V op,U V num,Q text,X an nn cn,X ka 1 kc],U V a] w fun r w'=>(∃v,r=jF v/\BY w0 w.heap.size v (Ar (.un i op e0) a) w')/\An w w':=by
 rw[Am]at j;have c:=AN w (Bs op num text an nn cn ka 1 kc);have y:=Ah.new w #[U V op,U V num,Q text,X an nn cn,X ka 1 kc] 101;obtain⟨b,H,rfl,I,hc⟩:=(k.below c NLN) 0 (by simp);have c0:=hc 0 (by decide);have c1:=hc 1 (by decide);have c2:=hc 2 (by decide);have c3:=hc 3 (by decide);have c4:=hc 4 (by decide);simp only[K5.cs,z3,zw,ze,z4,z1]at c0 c1 c2 c3 c4;have f:=Ab (fun z A=>l z A a (by omega));have e6:(op==6)=jA:=zA.2 (by omega);have e7:(op==7)=jA:=zA.2 (by omega);have J:(op==25)=jA:=zA.2 (by omega);have K:(op==26)=jA:=zA.2 (by omega);have L:(op==27)=jA:=zA.2 (by omega);have m:=AM e0 a;have n:=Ab (show Ar (.un i op e0) a=Ar e0 a++[(AQ (op-3) 0).i]from rfl);rw[Aa n];have o:=Ab (Vm op (by omega));generalize Ar e0 a=p at f m n|-;have M:p.length<=1048576:=by omega
 clear hc k l x j m;go_enter func52,ntmps52
 go_wp2_with fail
 refine(Aa f _ c).mono ?_;rintro r d ⟨⟨N,rfl,g⟩,q⟩;have B:=y.after q NLN;obtain⟨O,P,S,W,aa,_⟩:=Aq B;obtain⟨ab,ac,rfl,_⟩:=g.form;have s:=c.trans (q.mono c.size);have C:=g.low (B':=w.heap.size) c.size;have D:=s.size;clear c0 c1 c2 c3 c4 f g;dsimp only;go_wp2_with fail
 refine(Aa o d).mono ?_;rintro r w2 ⟨rfl,t⟩;rw[t];clear t o;dsimp only;have u:=AN d (.cells #[U V (op-3),U V 0,U V 0,U V 0,Q ⟨#[]⟩,X T 0 0] 113);have E:=C.below u;go_wp2_with (at_builtin;refine Lx rfl _ _ rfl w0 w.heap.size _ p rfl E ⟨d.heap.size,0,T⟩ 1 1 [AQ (op-3) 0] rfl rfl (OG.plain _ _ _) (DH d (AQ (op-3) 0) _ rfl) (by omega) (by simp;omega) ?_)
 intro ad ae af ag F G;go_wp2
 go_ret
 exact⟨⟨_,rfl,F⟩,(s.trans (u.mono D)).trans G⟩
theorem Qj (k n:Int)(s:ByteArray)(a:Option jD)(m c:Nat)(w:Z):Calls jL 76 #[jE #[U V k,U V n,Q s,X a m c]] w fun r w'=>r=jF (jE #[U V 1,U V 0,U V k,U V n,Q s,X a m c])/\An w w':=by
 have b:=Ah.new (w.alloc (.cells #[U V k,U V n,Q s,X a m c] 44)) #[U V 1,U V 0,U V k,U V n,Q s,X a m c] 113;have c0:=b.cell 0;have c1:=b.cell 1;have c2:=b.cell 2;have c3:=b.cell 3;have c4:=b.cell 4;have c5:=b.cell 5;simp only[World.size_alloc]at c0 c1 c2 c3 c4 c5;go_enter func76,ntmps76
 go_wp2_with fail
 refine bodyPost_ret (v:= jE #[U V 1,U V 0,U V k,U V n,Q s,X a m c]) (by simp[results,results76,go_sem,c0,c1,c2,c3,c4,c5]) rfl ⟨rfl,?_⟩
 exact(AN w _).alloc (by simp) _
theorem Lk {w:Z}{a c d f g h:jB}{t:TypeId}(R:Ah w b #[a,c,d,f,g,h] t):w.cell? ⟨b,0,T⟩=Y a/\w.cell? ⟨b,1,T⟩=Y c/\w.cell? ⟨b,2,T⟩=Y d/\w.cell? ⟨b,3,T⟩=Y f/\w.cell? ⟨b,4,T⟩=Y g/\w.cell? ⟨b,5,T⟩=Y h:=⟨R.cell 0,R.cell 1,R.cell 2,R.cell 3,R.cell 4,R.cell 5⟩
theorem Qi (n:Int)(w:Z):Calls jL 79 #[U V n] w fun r w'=>r=jF (jE #[U V 1,U V 0,U V 1,U V n,Q ⟨#[]⟩,X T 0 0])/\An w w':=by
 go_enter func79,ntmps79
 go_wp2_with fail
 refine(Qj 1 n ⟨#[]⟩ T 0 0 _).mono ?_;rintro r m ⟨rfl,b⟩;have c:=AN w (.cells #[U V 0,U V 0,U V 0,U V 0,Q ⟨#[]⟩,X T 0 0] 113);have a:=(Ah.new w #[U V 0,U V 0,U V 0,U V 0,Q ⟨#[]⟩,X T 0 0] 113).after b NLN;obtain⟨o,q,s,t,u,x⟩:=Lk a;have y:=fun j=>a.frozen j;obtain⟨d,f,g,h,i,k⟩:=Lk (((((((a).set 0 (U V 1)).set 1 (U V 0)).set 2 (U V 1)).set 3 (U V n)).set 4 (Q ⟨#[]⟩)).set 5 (X T 0 0));have l:=Ab ((((((((c.trans (b.mono c.size))).setCell (p:=⟨w.heap.size,0,T⟩) NLN (U V 1)).setCell (p:=⟨w.heap.size,1,T⟩) NLN (U V 0)).setCell (p:=⟨w.heap.size,2,T⟩) NLN (U V 1)).setCell (p:=⟨w.heap.size,3,T⟩) NLN (U V n)).setCell (p:=⟨w.heap.size,4,T⟩) NLN (Q ⟨#[]⟩)).setCell (p:=⟨w.heap.size,5,T⟩) NLN (X T 0 0));clear c a b;dsimp only;go_wp2_with fail
 refine bodyPost_ret (v:= jE #[U V 1,U V 0,U V 1,U V n,Q ⟨#[]⟩,X T 0 0]) (by simp[results,results79,go_sem,d,f,g,h,i,k]) rfl ⟨rfl,?_⟩
 exact Aa l
theorem Us (op:Int)(w:Z):Calls jL 77 #[U V op] w fun r w'=>r=jF (U V (if op=1 then 2 else if op=2 then 3 else if op=3 then 1 else 4))/\w'=w:=by
 by_cases h1:op=1
 ·subst h1;go_enter func77,ntmps77
  go_wp2
  go_ret
  exact⟨rfl,rfl⟩
 by_cases a:op=2
 ·subst a;go_enter func77,ntmps77
  go_wp2
  go_ret
  exact⟨rfl,rfl⟩
 by_cases b:op=3
 ·subst b;go_enter func77,ntmps77
  go_wp2
  go_ret
  exact⟨rfl,rfl⟩
 rw[if_neg h1,if_neg a,if_neg b];have e1:(op==1)=jA:=zA.2 h1;have e2:(op==2)=jA:=zA.2 a;have e3:(op==3)=jA:=zA.2 b;clear h1 a b;go_enter func77,ntmps77
 go_wp2
 go_ret
 exact⟨rfl,rfl⟩
theorem BY.lit (w0 w:Z)(B:Nat)(k:J5)(hk:Qh w0 k.a k.n k.c k.i.val.names)(b:B<=w.heap.size):BY w0 B (X (Y ⟨w.heap.size,0,T⟩) 1 1) [k.i] (w.alloc (.cells #[U V k.i.op,U V k.i.arg,U V k.i.val.kind,U V k.i.val.num,Q k.i.val.text,X k.a k.n k.c] 113)):=by
 refine⟨[k],rfl,OG.one hk,⟨?_,.inr ⟨w.heap.size,1,_,rfl,b,heap_alloc_new w _,NLN,by decide,rfl,?_⟩⟩⟩
 ·simp[J5.cs]
 ·simp[J5.cs]
theorem Aav (w0:Z)(num:Int)(text:ByteArray)(an:Option jD)(nn cn:Nat)(ka:Option jD)(kn kc:Nat)(i:Int)(b:Nat)(w:Z):
  Calls jL 52 #[jE #[U V 6,U V num,Q text,X an nn cn,X ka kn kc],U V b] w fun r w'=>(∃v,r=jF v/\BY w0 w.heap.size v (Ar (.attr i num) b) w')/\An w w':=by
 go_enter func52,ntmps52
 go_wp2
 go_ret
 have a:=AN w (Bs 6 num text an nn cn ka kn kc);refine⟨⟨_,rfl,?_⟩,a.alloc a.size _⟩;have:=BY.lit w0 (w.alloc (Bs 6 num text an nn cn ka kn kc)) w.heap.size (AQ 2 num) (Qh.none0 w0) a.size;simp only[World.size_alloc]at this;exact this
theorem Aaw (w0:Z)(num:Int)(text:ByteArray)(an:Option jD)(nn cn:Nat)(ka:Option jD)(kn kc:Nat)(i:Int)(b:Nat)(w:Z):
  Calls jL 52 #[jE #[U V 7,U V num,Q text,X an nn cn,X ka kn kc],U V b] w fun r w'=>(∃v,r=jF v/\BY w0 w.heap.size v (Ar (.lett i num) b) w')/\An w w':=by
 go_enter func52,ntmps52
 go_wp2
 go_ret
 have a:=AN w (Bs 7 num text an nn cn ka kn kc);refine⟨⟨_,rfl,?_⟩,a.alloc a.size _⟩;have:=BY.lit w0 (w.alloc (Bs 7 num text an nn cn ka kn kc)) w.heap.size (AQ 3 num) (Qh.none0 w0) a.size;simp only[World.size_alloc]at this;exact this
theorem XS (w0:Z)(op num:Int)(text:ByteArray)(an:Option jD)(nn cn:Nat)(ka:Option jD)(kc:Nat)(e6:(op==6)=jA)(e7:(op==7)=jA)(m:Nat)(w:Z)(ss:List ByteArray)(h:Qh w0 an nn cn ss):
  Calls jL 52 #[jE #[U V op,U V num,Q text,X an nn cn,X ka 0 kc],U V m] w fun r w'=>(∃v,r=jF v/\BY w0 w.heap.size v [⟨1,0,⟨if op=1 then 2 else if op=2 then 3 else if op=3 then 1 else 4,num,text,ss⟩⟩] w')/\An w w':=by
 have c:=AN w (Bs op num text an nn cn ka 0 kc);have i:=Ah.new w #[U V op,U V num,Q text,X an nn cn,X ka 0 kc] 101;have j:=Ab (fun d=>Us op d);generalize (if op=1 then 2 else if op=2 then 3 else if op=3 then 1 else 4 :Int)=ty at j|-;have n:=Ab (fun d=>Qj ty num text an nn cn d);have o:=Ab h;clear h;go_enter func52,ntmps52
 go_wp2_with fail
 generalize w.alloc (Bs op num text an nn cn ka 0 kc)=a at c i|-;have f:=(Brw a).drew;have k:=i.after f NLN;obtain⟨p,d1,d2,d3,d4,_⟩:=Aq k;have x:a.drew.cell? ⟨w.heap.size,0,T⟩=Y (U V op)/\a.drew.cell? ⟨w.heap.size,1,T⟩=Y (U V num)/\a.drew.cell? ⟨w.heap.size,2,T⟩=Y (Q text)/\a.drew.cell? ⟨w.heap.size,3,T⟩=Y (X an nn cn):=⟨p,d1,d2,d3⟩
 go_region_held3 (fun w'=>w'.cell? ⟨w.heap.size,0,T⟩=Y (U V op)/\w'.cell? ⟨w.heap.size,1,T⟩=Y (U V num)/\w'.cell? ⟨w.heap.size,2,T⟩=Y (Q text)/\w'.cell? ⟨w.heap.size,3,T⟩=Y (X an nn cn)) (first|assumption|go_keep) (first
  |(go_at_call 77;refine(Aa j _).mono ?_;rintro r y ⟨rfl,l⟩;rw[l];clear l)
  |(go_at_call 76;refine(Aa n _).mono ?_;rintro r b ⟨rfl,g⟩;have q:=k.after g NLN;obtain⟨s,f1,f2,t,z,_⟩:=Aq q;have A:b.cell? ⟨w.heap.size,0,T⟩=Y (U V op)/\b.cell? ⟨w.heap.size,1,T⟩=Y (U V num)/\b.cell? ⟨w.heap.size,2,T⟩=Y (Q text)/\b.cell? ⟨w.heap.size,3,T⟩=Y (X an nn cn):=⟨s,f1,f2,t⟩))
 go_wp2
 go_ret
 have u:=c.size;have B:=f.size;have C:=g.size;exact⟨⟨_,rfl,BY.lit w0 b w.heap.size ⟨⟨1,0,⟨ty,num,text,ss⟩⟩,an,nn,cn⟩ (Aa o) (by omega)⟩,((c.trans (f.mono u)).trans (g.mono (by omega))).alloc (by omega) _⟩
def Lj (n:Int):J5:=⟨⟨1,0,⟨1,n,⟨#[]⟩,[]⟩⟩,T,0,0⟩
theorem Vo (w:Z)(k l:J5)(b:Nat)(d:b=w.heap.size):∀j u,([k,l].flatMap J5.cs)[j]? =Y u->(w.alloc (.cells #[U V k.i.op,U V k.i.arg,U V k.i.val.kind,U V k.i.val.num,Q k.i.val.text,X k.a k.n k.c,U V l.i.op,U V l.i.arg,U V l.i.val.kind,U V l.i.val.num,Q l.i.val.text,X l.a l.n l.c] 113)).cell? ((⟨b,0,T⟩:jD).add j)=Y u:=fun j u h=>by
 subst d;have f:(⟨w.heap.size,0,T⟩:jD).add j=⟨w.heap.size,j,T⟩:=by by_cases e:j=0<;>simp[Addr.add,e]
 rw[f,(Ah.new w _ 113).cell j,<-h];simp[J5.cs]
theorem Bu.st_one {i:Nat}{e:Ex}(t:Bu N i e):∀{f:Ex},Bu N i f->e.st=f.st:=by
 induction t with
 |int h d hk=>intro f u;rcases u.inv h with⟨o,r⟩|⟨o,r⟩|⟨o,r⟩|⟨o,r⟩|⟨o,r⟩|⟨o,r⟩|⟨o,r⟩|⟨o,r⟩|⟨o,r⟩|⟨o,r⟩<;>first|omega|(subst r;rfl)
 |text h d hk=>intro f u;rcases u.inv h with⟨o,r⟩|⟨o,r⟩|⟨o,r⟩|⟨o,r⟩|⟨o,r⟩|⟨o,r⟩|⟨o,r⟩|⟨o,r⟩|⟨o,r⟩|⟨o,r⟩<;>first|omega|(subst r;rfl)
 |bool h d hk=>intro f u;rcases u.inv h with⟨o,r⟩|⟨o,r⟩|⟨o,r⟩|⟨o,r⟩|⟨o,r⟩|⟨o,r⟩|⟨o,r⟩|⟨o,r⟩|⟨o,r⟩|⟨o,r⟩<;>first|omega|(subst r;rfl)
 |name h d hk=>intro f u;rcases u.inv h with⟨o,r⟩|⟨o,r⟩|⟨o,r⟩|⟨o,r⟩|⟨o,r⟩|⟨o,r⟩|⟨o,r⟩|⟨o,r⟩|⟨o,r⟩|⟨o,r⟩<;>first|omega|(subst r;rfl)
 |attr h d hk=>intro f u;rcases u.inv h with⟨o,r⟩|⟨o,r⟩|⟨o,r⟩|⟨o,r⟩|⟨o,r⟩|⟨o,r⟩|⟨o,r⟩|⟨o,r⟩|⟨o,r⟩|⟨o,r⟩<;>first|omega|(subst r;rfl)
 |lett h d hk=>intro f u;rcases u.inv h with⟨o,r⟩|⟨o,r⟩|⟨o,r⟩|⟨o,r⟩|⟨o,r⟩|⟨o,r⟩|⟨o,r⟩|⟨o,r⟩|⟨o,r⟩|⟨o,r⟩<;>first|omega|(subst r;rfl)
 |set h d hk a n c=>intro f u;rcases u.inv h with⟨o,r⟩|⟨o,r⟩|⟨o,r⟩|⟨o,r⟩|⟨o,r⟩|⟨o,r⟩|⟨o,r⟩|⟨o,r⟩|⟨o,r⟩|⟨o,r⟩<;>first|omega|(obtain⟨_,_,_,r⟩:=r;subst r;rfl)
 |un h d hk hi t p=>
  intro f u;rcases u.inv h with⟨o,r⟩|⟨o,r⟩|⟨o,r⟩|⟨o,r⟩|⟨o,r⟩|⟨o,r⟩|⟨o,r⟩|⟨o,m,e',b,g,r⟩|⟨o,r⟩|⟨o,r⟩<;>first|omega|skip
  subst r;rw[hk]at b;obtain rfl:=Int.ofNat.inj (List.cons.inj b).1;simp only[Ex.st,p g]
 |bin h d hk hi t u j k=>
  intro f v;rcases v.inv h with⟨o,r⟩|⟨o,r⟩|⟨o,r⟩|⟨o,r⟩|⟨o,r⟩|⟨o,r⟩|⟨o,r⟩|⟨o,r⟩|⟨o,m,q,e',s,b,g,l,r⟩|⟨o,r⟩<;>first|omega|skip
  subst r;rw[hk]at b;simp only[List.cons.injEq,and_true,Int.natCast_inj]at b;obtain⟨rfl,rfl⟩:=b;simp only[Ex.st,j g,k l]
 |ite h d hk hi t u v j k w=>
  intro f z;rcases z.inv h with⟨o,r⟩|⟨o,r⟩|⟨o,r⟩|⟨o,r⟩|⟨o,r⟩|⟨o,r⟩|⟨o,r⟩|⟨o,r⟩|⟨o,r⟩|⟨o,m,q,x,e',s,h',b,g,l,v',r⟩<;>first|omega|skip
  subst r;rw[hk]at b;simp only[List.cons.injEq,and_true,Int.natCast_inj]at b;obtain⟨rfl,rfl,rfl⟩:=b;simp only[Ex.st,j g,k l,w v']
end Go.Proofs.YtppafecmccdplaaGreat
