import Derived.Test.YtppafecmccdplaaGreatMXAL
import Derived.Test.YtppafecmccdplaaGreatVPS
import Derived.Test.YtppafecmccdplaaGreatEDG
import Derived.Test.YtppafecmccdplaaGreatCPC
open Go.Proofs.Tryz
open Option renaming none->T,some->Y
open Go.Value renaming int->U,slice->X,string->Q,agg->jE
open Go.IntKind renaming i64->V
open Go renaming World->Z,Value->jB,Addr->jD
open Bool renaming true->R,false->jA
open Go.Ending renaming returned->jF
open ByteArray renaming empty->jK
open Go.Proofs.Tryz renaming prog->jL
namespace Go.Proofs.YtppafecmccdplaaGreat
open Go.RowKit
set_option linter.unusedVariables false
set_option maxRecDepth 100000
set_option maxHeartbeats 1600000
variable {ops:Array Oper}{nm:ByteArray}{s:Dm}{t c:Int}{ns:List ByteArray}{Es:List Ex}{ys tt:List Int}{N:List Nd}{rest:List Oper}{L:List St}{g:List jB}{st:MB}{k a cap lo:Nat}{o:Oper}{x:Option jD}{v f u:jB}{w0 b d:Z}
section
theorem Ov {w:Z}{a:Act}{Q:Exit->Act->Z->Prop}(f:o.guard=T)(s x:Operand)(t:TypeId)
  (l:o.op= .call { callee:= .builtin .append,args:=#[s,x],argTypes:=#[t,t] })(e:TypeId)(i:TypeInfo)(z:jB)(size d:Nat)(m: jL.underlying t=Y (.slice e))(hi: jL.info? e=Y i)(q:i.zero=Y z)
  (r:i.size=size)(v:i.bytes=d)(y:z.cells.size=size)(A: 0<size)(lo n c:Nat)(p:Option jD)(ys:List jB)(hs:a.eval s=X T 0 0)(hx:a.eval x=X p n c)(b:w.ownsRow lo e size (X p n c) n ys)(h1:∀u∈ys,u.oneCell'=R)(G:n<=maxLen)(B:n*d<=140737488355328)
  (h:∀v' w',w'.ownsRow w.heap.size e size v' n ys->An w w'->wpList jL ops Q rest (a.put o.dst v') w'):wpList jL ops Q (o ::rest) a w:=by
 rcases b.2 with⟨hv,h0⟩|⟨g,cap,H,hv,I,hg,J,hm,K,L⟩
 ·cases hv;have hy:ys=[]:=zj (by have:=b.1;simpa using this);subst hy;exact wpList_append_own_none f s x t l w.heap.size e i size m hi _ 0 [] hs (World.ownsRow_nil _ _ _ _) hx (h _ w (World.ownsRow_nil _ _ _ _) BRN)
 ·cases hv;refine wpList_append_own _ f s x t l w.heap.size e i z size d m hi q r v y A (X T 0 0) 0 [] hs (World.ownsRow_nil _ _ _ _) ⟨g,0,T⟩ n c ys hx b.1 (fun j u hu=>?_) h1 (by omega) (by rw[zP];exact B) NLN (fun v' w' C D _=>h v' w' (by simpa using C) (BRN.grown D NLN (fun k hk=>by cases hk)));have E:j<n*size:=by have:=(zZ.1 hu).1;rw[b.1]at this;exact this
  have F:(⟨g,0,T⟩:jD).add j=⟨g,j,T⟩:=by by_cases e:j=0<;>simp[Addr.add,e]
  rw[F,b.cellAt j E,hu]
theorem Y6:∀(P:List Vl) (a:List jB) (u:jB),u∈Iz P a->(∃z,u=U V z)\/(∃s,u=Q s)\/u∈a
 |[],_,u,h=>by simp[Iz]at h
 |x ::P,[],u,h=>by simp[Iz]at h
 |x ::P,n ::a,u,h=>by
  simp only[Iz,Uf,List.cons_append,List.nil_append,zT]at h;rcases h with h|h|h|h|h
  ·exact .inl ⟨_,h⟩
  ·exact .inl ⟨_,h⟩
  ·exact .inr (.inl ⟨_,h⟩)
  ·exact .inr (.inr (zT.2 (.inl h)))
  ·rcases Y6 P a u h with q|q|q
   ·exact .inl q
   ·exact .inr (.inl q)
   ·exact .inr (.inr (za _ q))
theorem SV.one {w:Z}{B:Nat}{P:List Vl}{a:List jB}(h:SV w B v P a):∀u∈Iz P a,u.oneCell'=R:=fun u hu=>by
 rcases Y6 P a u hu with⟨z,rfl⟩|⟨s,rfl⟩|q
 ·rfl
 ·rfl
 ·obtain⟨j,b,rfl⟩:=z9 q;obtain⟨x,c,e⟩:=Au (h.names j (by rw[<-h.len];exact b) b);rw[e];rfl
theorem AbW (I:List Cg):∀u∈Cm I,u.oneCell'=R:=fun u hu=>by
 obtain⟨i,_,hi⟩:=Z2.1 hu;simp only[zT,List.not_mem_nil,or_false]at hi;rcases hi with rfl|rfl<;>rfl
theorem SW:∀(I:List Cg) (k:Nat) (a b:Int),k<I.length->((Cm I).set (k*2) (U V a)).set (k*2+1) (U V b)=Cm (I.set k ⟨a,b⟩)
 |[],k,a,b,h=>by simp at h
 |i ::I,0,a,b,_=>rfl
 |i ::I,k+1,a,b,h=>by
  have:=SW I k a b (by simpa using h);show((Value.int V i.op ::Value.int V i.arg ::Cm I).set ((k+1)*2) _).set ((k+1)*2+1) _=Value.int V i.op ::Value.int V i.arg ::Cm (I.set k ⟨a,b⟩);rw[show(k+1)*2+1=(k*2+1)+1+1 by omega,show(k+1)*2=(k*2)+1+1 by omega,zQ,zQ,zQ,zQ,this]
theorem SY:∀(I:List Cg) (z:Nat),Cm (I.take z)=(Cm I).take (z*2)
 |[],z=>by simp[Cm]
 |i ::I,0=>rfl
 |i ::I,z+1=>by
  show Value.int V i.op ::Value.int V i.arg ::Cm (I.take z)=(Value.int V i.op ::Value.int V i.arg ::Cm I).take ((z+1)*2);rw[show(z+1)*2=z*2+1+1 by omega,List.take_succ_cons,List.take_succ_cons,SY I z]
theorem Ve:∀(P:List Vl) (a:List jB) (j:Nat) (x:Vl) (b:j<P.length) (c:a.length=P.length) (hu:j<a.length),((((Iz P a).set (j*4) (U V x.kind)).set (j*4+1) (U V x.num)).set (j*4+2) (Q x.text)).set (j*4+3) a[j]=Iz (P.set j x) a
 |y ::P,u ::a,0,x,_,_,_=>by simp[Iz,Uf]
 |y ::P,u ::a,j+1,x,b,c,hu=>by
  have d:=Ve P a j x (by simpa using b) (by simpa using c) (by simpa using hu);have e:∀(A:List jB) i v,(Uf y u++A).set ((j+1)*4+i) v=Uf y u++A.set (j*4+i) v:=fun A i v=>by
   rw[List.set_append_right _ _ (by simp[Uf];omega)]
   congr 2
   simp[Uf];omega
  have e0:=fun A v=>e A 0 v;simp only[ze]at e0;rw[Iz,e0,e,e,e,zQ,Iz,<-d];rfl
 |[],_,_,_,h,_,_=>absurd h (by simp)
 |_ ::_,[],_,_,_,h,_=>by simp at h
section
variable {w w' W w7 : Z} {tl th B b0 b1 : Nat} {kN : Int} {P : List Vl} {I : List Cg} {pv iv : jB} {nv : List jB}
theorem L5.touch {R:Nat}{d:Array jB}(h:L5 w w' R (R+1) B b0 b1 kN P I pv iv nv)(f:Ah w' R d 56)(T:Al R (R+1) w' W):L5 w W R (R+1) B b0 b1 kN P I pv iv nv:=by
 have a:=h.lo;have k:∀{q:Nat} {b:Array jB} {t:TypeId},Ah w' q b t->t≠56->W.heap[q]? =w'.heap[q]? :=fun r c=>T.block _ r.lt (by have:=Bk r f c;omega);exact⟨⟨(k h.row (by decide)).trans h.row.out⟩,h.pool.keep fun q b t r c=>k r (by rcases c with rfl|rfl<;>decide),Ad h.ins fun q g=>by obtain⟨b,r⟩:=Uh h.ins g;exact k r (by decide),⟨(k h.out (by decide)).trans h.out.out⟩,h.bel.trans T,⟨a.1,a.2.1,a.2.2.1,a.2.2.2.1,zC a.2.2.2.2 T.size⟩⟩
theorem L5.ins2 {g ci:Nat}(h:L5 w w' tl th B b0 b1 kN P I pv (X (Y ⟨g,0,T⟩) I.length ci) nv)(k:Nat)(hk:k<I.length)(a b:Int):L5 w ((w'.setCell ⟨g,k*2,T⟩ (U V a)).setCell ⟨g,k*2+1,T⟩ (U V b)) tl th B b0 b1 kN P (I.set k ⟨a,b⟩) pv (X (Y ⟨g,0,T⟩) I.length ci) nv:=by
 have c:=h.lo;have K:=((GW.refl (fun q=>q=b1\/(Value.slice (Y ⟨g,0,T⟩) I.length ci).ownBlock=Y q) w').setCell (p:=⟨g,k*2,T⟩) (fun _=> .inr rfl) (U V a)).setCell (p:=⟨g,k*2+1,T⟩) (fun _=> .inr rfl) (U V b);obtain⟨f1,f2,f⟩:=h.far (fun q i=>(h.ins.lt q i).1) K;have d:b1≠g:=fun e=>Ac h.row h.ins (by decide) (by rw[e];rfl);refine⟨(h.row.setFar (p:=⟨g,k*2,T⟩) d _).setFar (p:=⟨g,k*2+1,T⟩) d _,h.pk K,?_,f1,f2,⟨c.1,c.2.1,c.2.2.1,c.2.2.2.1,f⟩⟩;have o:=(((h.ins.stored (k*2) (U V a)).1).stored (k*2+1) (U V b)).1;rw[SW I k a b hk]at o;rw[z6];exact o
theorem L5.cut {ci:Nat}(h:L5 w w' tl th B b0 b1 kN P I pv (X x I.length ci) nv)(z:Nat)(c:z<=I.length):L5 w (w'.setCell ⟨b1,2,T⟩ (X x z ci)) tl th B b0 b1 kN P (I.take z) pv (X x z ci) nv:=by
 have a:=h.lo;have K:=fun v:jB=>(GW.refl (fun q=>q=b1\/v.ownBlock=Y q) w').setCell (p:=⟨b1,2,T⟩) (fun _=> .inl rfl) (X x z ci);obtain⟨f1,f2,d⟩:=h.far (fun q b=>(h.ins.lt q b).1) (K _);have o:=Ij h.ins (m:=z) c;refine⟨h.row.set 2 _,h.pk (K _),?_,f1,f2,⟨a.1,a.2.1,a.2.2.1,a.2.2.2.1,d⟩⟩;rw[SY,zv,Nat.min_eq_left c];exact Ai o ⟨b1,2,T⟩ _ (fun q b e=>Ac h.row o (by decide) (by have e:q=b1:=e;rw[<-e];exact b))
theorem L5.val {g cp:Nat}(h:L5 w w' tl th B b0 b1 kN P I (X (Y ⟨g,0,T⟩) P.length cp) iv nv)(k:Nat)(hk:k<P.length)(hu:k<nv.length)(x:Vl)(hx:x.names=P[k].names)(d:Ps x):L5 w ((((w'.setCell ⟨g,k*4,T⟩ (U V x.kind)).setCell ⟨g,k*4+1,T⟩ (U V x.num)).setCell ⟨g,k*4+2,T⟩ (Q x.text)).setCell ⟨g,k*4+3,T⟩ nv[k]) tl th B b0 b1 kN (P.set k x) I (X (Y ⟨g,0,T⟩) P.length cp) iv nv:=by
 have b:=h.lo;have K:=((((GW.refl (fun q=>q=b1\/(Value.slice (Y ⟨g,0,T⟩) P.length cp).ownBlock=Y q) w').setCell (p:=⟨g,k*4,T⟩) (fun _=> .inr rfl) (U V x.kind)).setCell (p:=⟨g,k*4+1,T⟩) (fun _=> .inr rfl) (U V x.num)).setCell (p:=⟨g,k*4+2,T⟩) (fun _=> .inr rfl) (Q x.text)).setCell (p:=⟨g,k*4+3,T⟩) (fun _=> .inr rfl) nv[k];obtain⟨f1,f2,f⟩:=h.far (fun q a=>(h.pool.own.lt q a).1) K;have c:b1≠g:=fun e=>Ac h.row h.pool.own (by decide) (by rw[e];rfl);refine⟨(((h.row.setFar (p:=⟨g,k*4,T⟩) c _).setFar (p:=⟨g,k*4+1,T⟩) c _).setFar (p:=⟨g,k*4+2,T⟩) c _).setFar (p:=⟨g,k*4+3,T⟩) c _,⟨by rw[z6];exact h.pool.len,?_,fun j h1 i=>?_,fun y hy=>?_⟩,h.ik K,f1,f2,⟨b.1,b.2.1,b.2.2.1,b.2.2.2.1,f⟩⟩
 ·have o:=(((((((h.pool.own.stored (k*4) (U V x.kind)).1).stored (k*4+1) (U V x.num)).1).stored (k*4+2) (Q x.text)).1).stored (k*4+3) nv[k]).1;rw[Ve P nv k x hk h.pool.len hu]at o;rw[z6];exact o
 ·rw[z6]at h1;have o:=h.pool.names j h1 i;have e:(P.set k x)[j]'(by rw[z6];exact h1)=if k=j then x else P[j]:=by rw[List.getElem_set]
  have en:((P.set k x)[j]'(by rw[z6];exact h1)).names=P[j].names:=by
   rw[e];split
   ·rename_i e';subst e';exact hx
   ·rfl
  rw[en];exact Ad o fun q a=>K.block q (o.lt q a).2 (fun e=>by
   rcases e with e|e
   ·exact Ac h.row o (by decide) (by rw[<-e];exact a)
   ·exact Ak h.pool.own o (by decide) q e a)
 ·rcases List.mem_or_eq_of_mem_set hy with t|t
  ·exact h.pool.ok y t
  ·rw[t];exact d
end
end
theorem Sp (N:List Nd)(L:List St):GK N L=R↔∃S,EK (N.map Nd.kids) N.length [] 0=Y S/\As S=L.flatMap Ap:=by
 rw[GK];cases h:EK (N.map Nd.kids) N.length [] 0 with
 |none=>simp
 |some S=>simp
theorem Abw (N:List Nd)(L:List St):GJ N L=R↔(N.length<=4000/\1<=L.length/\L.length<=600)/\N.all Bo=R/\Kn N L:=by
 rw[<-Sm,YV,<-Sp,GJ];simp only[zD,zG];constructor
 ·rintro⟨⟨⟨h1,a,b⟩,c⟩,h5⟩;exact⟨⟨h1,a⟩,c,b,h5⟩
 ·rintro⟨⟨h1,a⟩,c,b,h5⟩;exact⟨⟨⟨h1,a,b⟩,c⟩,h5⟩
theorem YX {n m:Nat}{e:Ending}(h:Ez Bo n m N L e)(a:N.length=n)(hm:L.length=m):e=jF (.bool (GJ N L)):=by
 obtain⟨b,rfl,c⟩:=h;have:b=GJ N L:=by
  rw[zY,c,Abw,a,hm]
 rw[this]
theorem NC (a b:Option jD)(n c m d:Nat)(N:List Nd)(L:List St)(w:Z)(h1:IY w a n c N)(g:Ss w b m d L):
  Calls jL 68 #[jE #[X a n c,X b m d]] w fun e w'=>e=jF (.bool (GJ N L))/\An w w':=by
 have f:=AN w (.cells #[X a n c,X b m d] 86);have h:=Ab h1.len;have i:=Ab g.len;go_enter func68,ntmps68
 go_wp2_with (go_at_call 72;refine(Xu _ _ _ _ _ _ N L _ (h1.below f NLN) (g.below f NLN)).mono ?_;rintro e w2 ⟨he,j⟩;have k:=YX he (Aa h) (Aa i);subst k;clear he)
 go_ret
 exact⟨rfl,f.trans (j.mono f.size)⟩
def toO:Rs->Option Int
 |.ok t=>Y t
 |.error _=>T
theorem PO (f:Int×Int)(o:Option Int):toO (ofO f o)=o:=by cases o<;>rfl
theorem U4 (r:Rs):(toO r).getD 0=gX r:=by cases r<;>rfl
theorem Ad5 (h5:∀x∈N,x.op≠5){ts:List Int}(q:ns.length=ts.length){i:Nat}{e:Ex}(t:Bu N i e):AE ts e=toO (BF (CJ ns ts) e)/\CB ts e=Ds (CJ ns ts) e:=by
 induction t with
 |int|text|bool|attr|set=>exact⟨rfl,rfl⟩
 |name h b hk=>exact absurd b (h5 _ (zu h))
 |@lett i x h b hk=>
  have a:AE ts (.lett i x.num)=toO (BF (CJ ns ts) (.lett i x.num)):=by rw[AE,BF,Acv q,PO]
  exact⟨a,by rw[CB,Ds,a,U4]<;>(intros;contradiction)⟩
 |@un i k x e h b hk hi t r=>
  obtain⟨c,d⟩:=r;have a:AE ts (.un i x.op e)=toO (BF (CJ ns ts) (.un i x.op e)):=by
   rw[AE,BF,c];cases BF (CJ ns ts) e with
   |error f=>rfl
   |ok u=>exact(PO _ _).symm
  exact⟨a,by rw[CB,Ds,d,a,U4]⟩
 |@bin i k l x e f h b hk hi t u j n=>
  obtain⟨c,d⟩:=j;obtain⟨o,p⟩:=n;have a:AE ts (.bin i x.op e f)=toO (BF (CJ ns ts) (.bin i x.op e f)):=by
   rw[AE,BF,c,o];cases BF (CJ ns ts) e with
   |error f=>rfl
   |ok u=>cases BF (CJ ns ts) f with
    |error f=>rfl
    |ok v=>exact(PO _ _).symm
  exact⟨a,by rw[CB,Ds,d,p,a,U4]⟩
 |@ite i k l m x e f g h b hk hi t u v j n s=>
  obtain⟨c,d⟩:=j;obtain⟨o,p⟩:=n;obtain⟨w,y⟩:=s;have a:AE ts (.ite i e f g)=toO (BF (CJ ns ts) (.ite i e f g)):=by
   rw[AE,BF,c,o,w];cases BF (CJ ns ts) e with
   |error f=>rfl
   |ok u=>cases BF (CJ ns ts) f with
    |error f=>rfl
    |ok v=>cases BF (CJ ns ts) g with
     |error f=>rfl
     |ok z=>exact(PO _ _).symm
  exact⟨a,by rw[CB,Ds,d,p,y,a,U4]⟩
theorem AdB (h5:∀x∈N,x.op≠5){i:Nat}{e f:Ex}(t:Bu N i e)(u:Bu N i f)(ts:List Int):AE ts e=AE ts f/\CB ts e=CB ts f:=by
 have l:(ts.map fun _=>jK).length=ts.length:=by simp
 have a:=Ad5 h5 l t;have b:=Ad5 h5 l u;have c:=t.ty_oneX u (CJ (ts.map fun _=>jK) ts);exact⟨by rw[a.1,b.1,c.1],by rw[a.2,b.2,c.2]⟩
theorem Nb (h:CR N L=R):∃S,Ay (N.map Nd.kids) 0 S N.length/\As S=L.flatMap Ap:=by
 simp only[CR,zD,zG]at h;obtain⟨⟨⟨h1,⟨g,i⟩,j⟩,h5⟩,a⟩:=h;obtain⟨S,d,f⟩:∃S,EK (N.map Nd.kids) N.length [] 0=Y S/\As S=L.flatMap Ap:=by
  rw[GK]at a;cases b:EK (N.map Nd.kids) N.length [] 0 with
  |none=>rw[b]at a;cases a
  |some S=>rw[b]at a;exact⟨S,rfl,of_decide_eq_true a⟩
 obtain⟨c,_⟩:=Dd N.length (.nil 0) (fun p hp=>(by cases hp)) d;rw[zP]at c;exact⟨S,c,f⟩
theorem UB.noC (a:UB N L):noC L:=fun s hs=>by
 rcases a.stm s hs with q|q|q
 ·right;omega
 ·right;omega
 ·exact .inl q.2
theorem Kl (h:CR N L=R)(a:Es.length=N.length)(b:∀j,(h:j<Es.length)->Bu N j Es[j]):Dq Es L=N.length:=by
 obtain⟨S,c,d⟩:=Nb h;exact VV (BP h).noC c d a b
theorem RZ (h:CR N L=R)(a:Es.length=N.length)(b:∀j,(h:j<Es.length)->Bu N j Es[j]):LB Es L:=by
 obtain⟨S,c,d⟩:=Nb h;exact QD (BP h).noC c d a b
theorem no5 (h:CR N L=R):∀x∈N,x.op≠5:=fun x hx e=>by
 have:=(BP h).fields x hx;simp[Bb,Jc,e]at this
theorem AfK (h:nm ∉ st.1):Wf 1 nm st (Y t) ys=Y (st.1++[nm],st.2.1++[t],st.2.2++ys):=by
 unfold Wf;rw[if_pos rfl];exact if_neg h
theorem Aby (h:nm∈st.1):Wf 1 nm st (Y t) ys=T:=by
 unfold Wf;rw[if_pos rfl];exact if_pos h
theorem Ad6 {a:Int}(hk:a≠1):Wf a nm st (Y 1) ys=Y (st.1,st.2.1,st.2.2++ys):=by
 unfold Wf;rw[if_neg hk];exact if_pos rfl
theorem Abz {a:Int}{t:Int}(hk:a≠1)(b:t≠1):Wf a nm st (Y t) ys=T:=by
 unfold Wf;rw[if_neg hk];exact if_neg b
theorem Ad7 (a:Int)(nm:ByteArray)(st:MB)(ys:List Int):Wf a nm st T ys=T:=by
 unfold Wf;split<;>rfl
theorem AbA {b:Int}{a:Nat}{e:Ex}(he:Es[a]? =Y e):CA Es st ⟨b,nm,a,c⟩=Wf b nm st (AE st.2.1 e) (CB st.2.1 e):=by
 rw[CA,if_neg (by show ¬ (a:Int)= -1;omega)];show(match Es[(a:Int).toNat]? with|some e=>_|none=>_)=_
 rw[zb,he]
theorem YY {b:Int}{a:Nat}{e:Ex}(he:Es[a]? =Y e):Cc Es st ⟨b,nm,c,a⟩=ckG st (AE st.2.1 e) (CB st.2.1 e):=by
 rw[Cc,if_neg (by show ¬ (a:Int)= -1;omega)];show(match Es[(a:Int).toNat]? with|some e=>_|none=>_)=_
 rw[zb,he]
def RlO (o:Option MB) (r:Except (Int×Int) Cs):Prop:=(∃ns ts tt,ns.length=ts.length/\o=Y (Bm++ns,ts,tt)/\r= .ok (CJ ns ts,ts,tt))\/(o=T/\∃f,r= .error f)
def Alk (Es:List Ex):Prop:=∀(mm:Nat) (e:Ex),Es[mm]? =Y e->∀(ns:List ByteArray) (ts:List Int),ns.length=ts.length->AE ts e=toO (BF (CJ ns ts) e)/\CB ts e=Ds (CJ ns ts) e
theorem Ad8 (T:Alk Es){ts:List Int}(a:ns.length=ts.length){s:St}(hs:Ib Es k s.cond):RlO (CA Es (Bm++ns,ts,tt) s) (Ic Es (CJ ns ts,ts,tt) s):=by
 obtain⟨c,nm,cd,j⟩:=s;rcases hs with hc|⟨d,e,hc,he,_⟩<;>dsimp only at hc<;>subst hc
 ·exact .inl ⟨ns,ts,tt,a,if_pos rfl,rfl⟩
 ·obtain⟨g,i⟩:=T d e he ns ts a;rw[AbA he,QF he];dsimp only;rw[g,i];cases BF (CJ ns ts) e with
  |error f=>exact .inr ⟨Ad7 _ _ _ _,f,Zp⟩
  |ok t=>
   by_cases hk:c=1
   ·subst hk;by_cases hm:nm∈Bm++ns
    ·exact .inr ⟨Aby hm,_,NA ((zM.1 hm).elim Zr (Zs a))⟩
    ·exact .inl ⟨ns++[nm],ts++[t],_,by simp[a],(AfK hm).trans (by rw[zJ]),by rw[Zo (Zt a (fun h=>hm (Z8 _ h)) (fun h=>hm (List.mem_append_right _ h))),QG a]⟩
   ·by_cases b:t=1
    ·subst b;exact .inl ⟨ns,ts,_,a,Ad6 hk,VX hk⟩
    ·exact .inr ⟨Abz hk b,_,Tv hk b⟩
theorem AbB (T:Alk Es){ts:List Int}(a:ns.length=ts.length){s:St}(hs:Ib Es k s.grant):RlO (Cc Es (Bm++ns,ts,tt) s) (DL Es (CJ ns ts,ts,tt) s):=by
 obtain⟨h,nm,cd,i⟩:=s;rcases hs with hc|⟨c,e,hc,he,_⟩<;>dsimp only at hc<;>subst hc
 ·exact .inl ⟨ns,ts,tt,a,if_pos rfl,OO⟩
 ·obtain⟨d,g⟩:=T c e he ns ts a;rw[YY he,IM he];dsimp only;rw[d,g];cases BF (CJ ns ts) e with
  |error f=>exact .inr ⟨rfl,f,rfl⟩
  |ok t=>
   by_cases b:t=4
   ·subst b;exact .inl ⟨ns,ts,_,a,rfl,Tw⟩
   ·exact .inr ⟨if_neg b,_,if_neg b⟩
theorem Aah {Es:List Ex}(T:Alk Es):∀(L:List St),(∀s∈L,∃k c,Ib Es k s.cond/\Ib Es c s.grant)->∀{ns:List ByteArray} {ts tt:List Int},ns.length=ts.length->RlO (CT Es (Bm++ns,ts,tt) L) (EW Es (CJ ns ts,ts,tt) L)
 |[],_,ns,ts,tt,hl=> .inl ⟨ns,ts,tt,hl,rfl,rfl⟩
 |s ::L,h,ns,ts,tt,hl=>by
  obtain⟨k,c,hc,hg⟩:=h s (zS ..);rw[CT,EW,LG,ER];rcases Ad8 T (tt:=tt) hl hc with⟨i,j,d,h1,e1,e2⟩|⟨e1,f,e2⟩
  ·rw[e1,e2];show RlO ((Cc Es _ s).bind _) ((DL Es _ s).bind _);rcases AbB T (tt:=d) h1 hg with⟨l,m,n,g,a,b⟩|⟨a,f,b⟩
   ·rw[a,b];exact Aah T L (fun s hs=>h s (za _ hs)) g
   ·rw[a,b];exact .inr ⟨rfl,f,rfl⟩
  ·rw[e1,e2];exact .inr ⟨rfl,f,rfl⟩
theorem Xw (h5:∀x∈N,x.op≠5)(a:∀j,(h:j<Es.length)->Bu N j Es[j])(hs:LB Es L):RlO (CT Es (Bm,[],[]) L) (EW Es (JE,[],[]) L):=by
 have:=Aah (Es:=Es) (fun b e he ns ts c=>by obtain⟨h,rfl⟩:=zZ.1 he;exact Ad5 h5 c (a b h)) L (fun s h=>by obtain⟨k,hk,rfl⟩:=z9 h;exact⟨_,_,hs k hk⟩) (ns:= []) (ts:= []) (tt:= []) rfl
 rwa[zd,Zu]at this
def AhI (o:Option MB) (w:Z) (r:Ending) (w':Z):Prop:=
 (∃ (B lb:Nat) (ns:List ByteArray) (ts tt:List Int) (nv lv tv:jB),o=Y (Bm++ns,ts,tt)/\r=jF (.tuple #[tv,.pointer (Y ⟨lb,0,T⟩),jE #[U V 0,U V 0]])/\Lm B lb ns ts tt nv lv tv w'/\w.heap.size<=lb/\An w w')\/
 (o=T/\(∃code a,r=jF (.tuple #[X T 0 0,.pointer T,jE #[U V code,U V a]])/\code≠0)/\An w w')
theorem Po (a b:Option jD)(n c m d:Nat)(N:List Nd)(L:List St)(k:∀x∈N,Cj x=true)(w0:Z)(p:IY w0 a n c N)(q:Ss w0 b m d L)(Es:List Ex)(s:Es.length=n)(l:∀j,(h:j<Es.length)->Bu N j Es[j])(t:n<=4000)(hm:m<=600)(o:LB Es L)(u:Dq Es L<=4000):
  Calls jL 51 #[X a n c,X b m d] w0 (AhI (CT Es (Bm,[],[]) L) w0):=by
 refine(Mw a b n c m d N L (fun x hx=>fdU (k x hx)) w0 p q Es s l t hm o u).mono ?_;have R:=Xw (fun x hx e=>by have:=k x hx;simp[Cj,e]at this) l o;rintro r w' (⟨B,v,ns,ts,tt,w,lv,y,g,z,i,A,h1,C⟩|⟨f,g,i,D,E⟩)
 ·rcases R with⟨F,H,I,G,e1,e2⟩|⟨_,f,e2⟩
  ·rw[g]at e2;simp only[Except.ok.injEq,Prod.mk.injEq]at e2;obtain⟨e3,rfl,rfl⟩:=e2;have e4:=congrArg (List.map Dc.name) (List.append_cancel_left e3);rw[(Ms ns ts 0 z).2,(Ms F ts 0 G).2]at e4;subst e4;exact .inl ⟨B,v,ns,ts,tt,w,lv,y,e1,i,A,h1,C⟩
  ·rw[g]at e2;cases e2
 ·rcases R with⟨_,_,_,_,_,e2⟩|⟨e1,_⟩
  ·rw[g]at e2;cases e2
  ·exact .inr ⟨e1,⟨f.1,f.2,i,D⟩,E⟩
theorem ZY (h:CR N L=true)(f:Es.length=N.length)(c:∀j,(h:j<Es.length)->Bu N j Es[j])(hc:CT Es (Bm,[],[]) L=Y st):N.all Cj=true:=by
 have g:=BP h;have sp:=RZ h f c;have R:=Xw (no5 h) c sp;rw[hc]at R;rw[zt];intro x hx;refine(JZ x).2 ⟨g.fields x hx,fun s=>?_⟩;obtain⟨j,i,rfl⟩:=z9 hx;rcases R with⟨ns,ts,tt,p,_,e2⟩|⟨e,_⟩
 ·have hm:=(JV e2).2.1;obtain⟨k,t,⟨E,q⟩,a⟩:=JW sp L.length NLN (by rw[yA];exact e2) j (by rw[yA,Kl h f c];exact i);have l:j<Es.length:=by omega
  rw[Gi,zL l]at a;have u:=c j l;rcases u.inv (zL i)with⟨o,r⟩|⟨o,r⟩|⟨o,r⟩|⟨o,r⟩|⟨o,r⟩|⟨o,r⟩|⟨o,r⟩|⟨o,r⟩|⟨o,r⟩|⟨o,r⟩<;>first|omega|skip
  rw[r]at a;cases b:ltT k N[j].num with
  |none=>change cR (ofO (7,_) (ltT k N[j].num))= .ok t at a;rw[b]at a;cases a
  |some y=>
   unfold ltT at b;split at b
   ·obtain⟨d,hd,_⟩:=Option.map_eq_some_iff.1 b;have l1:=(zZ.1 hd).1;have n:=congrArg List.length q;have v:(Uz 0 ns ts).length=ts.length:=by have:=congrArg List.length (Ms ns ts 0 p).1;rwa[zU]at this
    have w:(CJ ns ts).length=6+(Uz 0 ns ts).length:=by rw[CJ,zB];rfl
    have:=g.m;rw[List.length_drop]at l1;rw[zB]at n;simp only[List.length_nil]at hm;dsimp only at n;omega
   ·cases b
 ·cases e
theorem Oc {N:List Nd}(h5:∀x∈N,x.op≠5){Es d:List Ex}(h1:Es.length=N.length)(o:d.length=N.length)(l:∀j,(h:j<Es.length)->Bu N j Es[j])(m:∀j,(h:j<d.length)->Bu N j d[j]):∀(L:List St) (st:MB),CT Es st L=CT d st L
 |[],st=>rfl
 |s ::L,st=>by
  have n:∀k:Nat,(Es[k]? =T/\d[k]? =T)\/∃e f,Es[k]? =Y e/\d[k]? =Y f/\∀ts,AE ts e=AE ts f/\CB ts e=CB ts f:=fun k=>by
   by_cases hk:k<N.length
   ·exact .inr ⟨Es[k],d[k],zL _,zL _,AdB h5 (l k (by omega)) (m k (by omega))⟩
   ·exact .inl ⟨yB (by omega),yB (by omega)⟩
  have c:CA Es st s=CA d st s:=by
   rw[CA,CA];rcases n s.cond.toNat with⟨a,b⟩|⟨e,f,a,b,k⟩
   ·rw[a,b]
   ·rw[a,b];dsimp only;rw[(k st.2.1).1,(k st.2.1).2]
  have g:∀i,Cc Es i s=Cc d i s:=fun i=>by
   rw[Cc,Cc];rcases n s.grant.toNat with⟨a,b⟩|⟨e,f,a,b,k⟩
   ·rw[a,b]
   ·rw[a,b];dsimp only;rw[(k i.2.1).1,(k i.2.1).2]
  rw[CT,CT,LG,LG,c];simp only[g,Oc h5 h1 o l m L]
theorem UC (a b:Option jD)(n c m d:Nat)(N:List Nd)(L:List St)(w:Z)(h1:IY w a n c N)(f:Ss w b m d L):
  Calls jL 72 #[X a n c,X b m d,.bool R] w fun e w'=>Ez Cj n m N L e/\An w w':=
 Pa R Cj SG (fun x h=>by rw[Cj,zD]at h;exact of_decide_eq_true h.1) a b n c m d N L w h1 f
set_option maxRecDepth 100000
set_option maxHeartbeats 3200000
theorem U5 (h:N.all Cj=R):N.all Bb=R:=by
 rw[zt]at h|-;exact fun x hx=>((JZ x).1 (h x hx)).1
theorem YZ (N:List Nd)(L:List St):(N.length<=4000/\1<=L.length/\L.length<=600)/\N.all Cj=R/\Kn N L↔CR N L=R/\N.all Cj=R:=by
 rw[<-Sm,YV,<-Sp,CR];simp only[zD,zG];constructor
 ·rintro⟨⟨h1,b⟩,a,c,h5⟩;exact⟨⟨⟨⟨h1,b,c⟩,U5 a⟩,h5⟩,a⟩
 ·rintro⟨⟨⟨⟨h1,b,c⟩,_⟩,h5⟩,a⟩;exact⟨⟨h1,b⟩,a,c,h5⟩
theorem Gu (b:UB N L):∃Es:List Ex,Es.length=N.length/\∀j,(h:j<Es.length)->Bu N j Es[j]:=by
 have:∀k,k<=N.length->∃Es:List Ex,Es.length=k/\(∀j,(h:j<Es.length)->Bu N j Es[j])/\∀e∈Es,e.typed:=by
  intro k
  induction k with
  |zero=>intro _;exact⟨[],rfl,fun j h=>absurd h (by simp),fun e he=>(by cases he)⟩
  |succ k i=>
   intro hk;obtain⟨Es,a,c,d⟩:=i (by omega);have hx:N[k]? =Y (N[k]'(by omega)):=zL _;obtain⟨e,_,l,m⟩:=AeQ (an:=T) (nn:=0) (cn:=0) hx (b.fields _ (zH _)) (b.kids k _ hx) a c d;refine⟨Es++[e],by simp[a],fun j h=>?_,fun f hf'=>?_⟩
   ·by_cases g:j<Es.length
    ·rw[zi g];exact c j g
    ·have:j=Es.length:=by simp at h;omega
     subst this;simp only[List.getElem_concat_length];rw[a];exact l
   ·rcases zM.1 hf' with hf'|hf'
    ·exact d f hf'
    ·simp at hf';subst hf';exact m
 obtain⟨Es,h1,n,_⟩:=this N.length NLN;exact⟨Es,h1,n⟩
theorem Nn.one {T:List Int}{b c:Bool}(h:Nn N L T b)(k:Nn N L T c):b=c:=by
 rcases h with⟨h1,rfl⟩|⟨h1,Es,a1,a2,rfl⟩
 ·rcases k with⟨_,rfl⟩|⟨a,_⟩
  ·rfl
  ·rw[h1]at a;cases a
 ·rcases k with⟨a,_⟩|⟨_,d,b1,b2,rfl⟩
  ·rw[h1]at a;cases a
  ·rw[Oc (no5 h1) a1 b1 a2 b2]
theorem AfL {T:List Int}(h: ¬ (CR N L=R/\N.all Cj=R)):Nn N L T jA:=by
 cases a:CR N L with
 |false=>exact .inl ⟨a,rfl⟩
 |true=>
  obtain⟨Es,h1,b⟩:=Gu (BP a);refine .inr ⟨a,Es,h1,b,?_⟩;cases hc:CT Es (Bm,[],[]) L with
  |none=>rfl
  |some st=>exact absurd ⟨a,ZY a h1 b hc⟩ h
theorem Sr (a:CR N L=R)(h1:Es.length=N.length)(b:∀j,(h:j<Es.length)->Bu N j Es[j])(hc:CT Es (Bm,[],[]) L=Y st):st.2.2.length=N.length:=by
 have:=(TB hc).1;rw[Kl a h1 b]at this;simpa using this
theorem Ad9 {T:List Int}(a:CR N L=R)(c:T.length≠N.length):Nn N L T jA:=by
 obtain⟨Es,h1,b⟩:=Gu (BP a);refine .inr ⟨a,Es,h1,b,?_⟩;cases hc:CT Es (Bm,[],[]) L with
 |none=>rfl
 |some st=>
  have:=Sr a h1 b hc;exact(zI (fun e=>c (by rw[<-e,this]))).symm
theorem JO (a b e:Option jD)(n c m d k f:Nat)(N:List Nd)(L:List St)(T:List Int)(w:Z)(h1:IY w a n c N)(aa:Ss w b m d L)(M:Em w e k f T):
  Calls jL 45 #[jE #[X a n c,X b m d,X e k f]] w fun r w'=>(∃v,r=jF (.bool v)/\Nn N L T v)/\An w w':=by
 have D:=Ab h1.len;have al:=Ab aa.len;have ab:=Ab M.len;have aU:=h1.small;have aV:=M.small;have ao:=Ah.new w #[X a n c,X b m d,X e k f] 69;have p:=AN w (Nr a n c b m d e k f);have ac:=h1.below p NLN;have ad:=aa.below p NLN;have ap:=M.below p NLN;clear h1 aa M;go_enter func45,ntmps45
 go_wp2_with fail
 refine(UC _ _ _ _ _ _ N L _ ac ad).mono ?_;rintro r aM ⟨⟨v,rfl,hv⟩,q⟩;dsimp only;have aq:=ac.below q NLN;have ar:=ad.below q NLN;have aN:=ap.below q NLN;have au:=ao.after q NLN;have s:=p.trans (q.mono p.size);have O:v=R↔CR N L=R/\N.all Cj=R:=by rw[hv,<-YZ,Aa D,Aa al]
 clear ac ad ap ao p q hv;obtain⟨av,aw,ax⟩:=Ao au;cases v with
 |false=>
  have g:=Ab (AfL (T:=T) (fun h=>by have:=O.2 h;cases this));clear O;go_wp2
  go_ret
  exact⟨⟨jA,rfl,Aa g⟩,s⟩
 |true=>
  have ay:=Ab (O.1 rfl);clear O;by_cases ae:k=n
  ·subst ae;have aO:((k:Int)!=(k:Int))=jA:=by simp
   obtain⟨t,hu⟩:=Aa ay;have E:=BP t;obtain⟨Es,u,z⟩:=Gu E;have aP:k<=4000:=by have:=E.n;rw[Aa D]at this;exact this
   have P:=Ab (Po a b k c m d N L (fun x hx=>zt.1 hu x hx) aM aq ar Es (by rw[u,Aa D]) z aP (by have:=E.m;rw[Aa al]at this;exact this) (RZ t u z) (by rw[Kl t u z];exact E.n));have F:=Ab (show ∀v,v=(match CT Es (Bm,[],[]) L with|none=>jA|some st=>decide (st.2.2=T))->Nn N L T v from fun v e=> .inr ⟨t,Es,u,z,e⟩)
   have S:=Ab (show ∀st,CT Es (Bm,[],[]) L=Y st->st.2.2.length=k from fun st h=>by rw[Sr t u z h,Aa D]);generalize CT Es (Bm,[],[]) L=o at P F S;clear t hu u z E aq ar;go_wp2_with fail
   refine(Aa P).mono ?_;rintro r w2 (⟨B,aW,ns,ts,tt,aX,lv,aY,rfl,rfl,af,aZ,A⟩|⟨rfl,⟨ag,az,rfl,aA⟩,A⟩)
   ·have G:=s.trans (A.mono s.size);have ah:tt.length=k:=Aa S _ rfl;obtain⟨a0,a1,rfl,_⟩:=Ae af.types;have ai:=JT af.types (by omega);have aB:=Ab ah;rw[ah]at ai|-;have aC:=aN.below A NLN;have aD:=au.after A NLN;have l:=AN w2 (.cells #[U V 0,U V 0] 89);have aE:=Ah.new w2 #[U V 0,U V 0] 89;obtain⟨aF,f1⟩:=CI aE;have aG:=ai.below l NLN;have aH:=aC.below l NLN;have aI:=aD.after l NLN;have H:=G.trans (l.mono G.size);clear af ai aC aD ah A P S av aw ax;dsimp only;go_wp2_with fail
    generalize w2.alloc (.cells #[U V 0,U V 0] 89)=aQ at l aE aF f1 aG aH aI H|-;go_loopw [37] (fun i wr=>∃j:Nat,j<=k/\i=U V j/\An aQ wr/\Hid (tt.take j=T.take j)) (fun i _=>k-(intOf i).toNat)
    case atStart=>exact⟨0,zE _,rfl,BRN,Ab rfl⟩
    case round=>
     obtain⟨j,a2,rfl,I,aJ⟩:=hrel;have aK:=H.trans (I.mono H.size);by_cases W:j<k
     ·have a3:(j:Int)<(k:Int):=by omega
      have aj:j<tt.length:=by rw[Aa aB];exact W
      have ak:j<T.length:=by rw[Aa ab];exact W
      obtain⟨a4,a5,rfl,a6,aR⟩:=(aG.below I NLN).cells j aj;obtain⟨be,a7,rfl,a8,aS⟩:=(aH.below I NLN).cells j ak;obtain⟨av,aw,ax⟩:=Ao (aI.after I NLN);have J:=Ab (show tt[j]=T[j]->tt.take (j+1)=T.take (j+1)from fun h=>by rw[zc aj,zc ak,Aa aJ,h]);have K:=Ab (show tt[j]≠T[j]->tt≠T from fun h e=>h (by subst e;rfl));have aL:=Ab W;generalize tt[j]=x at aR J K;generalize T[j]=y at aS J K;clear W aj ak;by_cases C:x=y
      ·have aT:(x !=y)=jA:=by rw[C];simp
       have g:=Ab (Aa J C);clear C J K;go_wp2
       go_roundw
       case rel=>exact⟨j+1,Aa aL,by go_num,I,g⟩
       case measure=>have:=Aa aL;simp[intOf];omega
      ·have aT:(x !=y)=R:=zp.2 C;have g:=Ab (Aa F jA (zI (Aa K C)).symm);clear C J K;go_wp2
       go_ret
       exact⟨⟨jA,rfl,Aa g⟩,aK⟩
     ·have e:j=k:=by omega
      subst e;have g:=Ab (Aa F R (zN (by have:=Aa aJ;rwa[zf (by rw[Aa aB];exact NLN),zf (by rw[Aa ab];exact NLN)]at this)).symm);go_wp2
      go_ret
      exact⟨⟨R,rfl,Aa g⟩,aK⟩
   ·have a9:(ag !=0)=R:=zp.2 aA;have g:=Ab (Aa F jA rfl);have G:=s.trans (A.mono s.size);have l:=AN w2 (.cells #[U V ag,U V az] 89);obtain⟨aF,f1⟩:=CI (Ah.new w2 #[U V ag,U V az] 89);have H:=G.trans (l.mono G.size);clear aA P F S;dsimp only;go_wp2
    go_ret
    exact⟨⟨jA,rfl,Aa g⟩,H⟩
  ·have aO:((k:Int)!=(n:Int))=R:=zp.2 (by omega);have g:=Ab (Ad9 (T:=T) (Aa ay).1 (by rw[Aa ab,Aa D];exact ae));clear ae;go_wp2
   go_ret
   exact⟨⟨jA,rfl,Aa g⟩,s⟩
def Sz1 (W:Z) (k:K5) (e:Ex):Prop:=Calls jL 78 #[jE #[U V k.op,U V k.num,Q k.text,X k.an k.nn k.cn,X k.ka k.kn k.kc]] W fun r w'=>r=jF (U V (Am e))/\An W w'
def Tr1 (w0 W:Z) (k:K5) (e:Ex):Prop:=∀at_:Nat,at_+Am e<=1048576->Calls jL 52 #[jE #[U V k.op,U V k.num,Q k.text,X k.an k.nn k.cn,X k.ka k.kn k.kc],U V at_] W fun r w'=>(∃v,r=jF v/\BY w0 W.heap.size v (Ar e at_) w')/\An W w'
def SmC (w0:Z) (lo hi:Nat) (w:Z) (k:K5) (e:Ex):Prop:=∀W,IG lo hi w W->Am e<=1048576->Sz1 W k e/\Tr1 w0 W k e
theorem SmC.keep {lo hi:Nat}{w w':Z}{k:K5}{e:Ex}(h:SmC w0 lo hi w k e)(hk:IG lo hi w w'):SmC w0 lo hi w' k e:=fun a b=>h a (hk.trans b)
def NmZ (w:Z) (a:Option jD) (N:List Nd):Prop:=∀j,j<N.length->∀b off,a=Y ⟨b,off,T⟩->∀an nn cn,w.cell? ⟨b,off+j*5+3,T⟩=Y (X an nn cn)->an=T->cn=0
theorem NmZ.below {w w':Z}{a:Option jD}{n c:Nat}(h:NmZ w a N)(k:IY w a n c N)(l:An w w'):NmZ w' a N:=fun j d b f g an nn cn hc=>by
 obtain⟨o,q,i,m,_⟩:=k.cells j d;rw[g]at i;cases i;refine h j d b f g an nn cn ?_;rw[<-hc];exact(l.cell (p:=⟨b,f+j*5+3,T⟩) m).symm
def tyC (op:Int):Int:=if op=1 then 2 else if op=2 then 3 else if op=3 then 1 else 4
inductive Np (op num:Int) (text:ByteArray) (ss:List ByteArray):List Ex->Ex->Prop
 |attr (i:Int) (h:op=6):Np op num text ss [] (.attr i num)
 |lett (i:Int) (h:op=7):Np op num text ss [] (.lett i num)
 |const (e:Ex) (h: 1<=op/\op<=5) (ht:∀a,Ar e a=[⟨1,0,⟨tyC op,num,text,ss⟩⟩]) (hz:Am e=1):Np op num text ss [] e
 |un (i:Int) (e0:Ex) (h: 8<=op/\op<=10):Np op num text ss [e0] (.un i op e0)
 |bin (i:Int) (e0 e1:Ex) (h: 11<=op/\op<=26):Np op num text ss [e0,e1] (.bin i op e0 e1)
 |ite (i:Int) (e0 e1 e2:Ex) (h:op=27):Np op num text ss [e0,e1,e2] (.ite i e0 e1 e2)
theorem Np.size {op num:Int}{ss:List ByteArray}{b:List Ex}{e:Ex}(h:Np op num nm ss b e):GF op (b.map Am)=Am e:=by
 cases h with
 |attr i h=>subst h;rfl
 |lett i h=>subst h;rfl
 |const e h d c=>rw[c,GF,if_neg (by omega),if_neg (by omega)];rfl
 |un i e0 h=>rw[GF,if_neg (by omega),if_neg (by omega)];simp[Am]
 |bin i e0 e1 h=>
  rw[GF,Am];by_cases a:op=25\/op=26
  ·rw[if_pos a,if_pos a];simp;omega
  ·rw[if_neg a,if_neg a,if_neg (by omega)];simp;omega
 |ite i e0 e1 e2 h=>subst h;rw[GF,if_neg (by decide),if_pos rfl,Am];simp;omega
theorem Np.sum {op num:Int}{text:ByteArray}{ss:List ByteArray}{a:List Ex}{e:Ex}(h:Np op num text ss a e):(a.map Am).sum<=Am e:=by
 have:=h.size;rw[GF]at this;omega
theorem Zh {n:Nat} :∀{ns:List Nat},n∈ns->n<=ns.sum
 |m ::ns,h=>by
  rcases zT.1 h with rfl|h
  ·simp
  ·have:=Zh h;simp only[List.sum_cons];omega
structure Tk (w0:Z) (B:Nat) (kv:jB) (vs:List K5) (bs:List Ex) (w:Z):Prop where
 own:w.ownsRow B 101 5 kv vs.length (vs.flatMap K5.cs)
 len:bs.length=vs.length
 each:∀j,(h1:j<vs.length)->(h2:j<bs.length)->∃lo hi,B<=lo/\hi<=w.heap.size/\(∀q,kv.ownBlock=Y q->q<lo\/hi<=q)/\SmC w0 lo hi w vs[j] bs[j]
theorem Tk.below {B:Nat}{b:jB}{c:List K5}{w w':Z}(h:Tk w0 B b c Es w)(a:An w w'):Tk w0 B b c Es w':=
 ⟨Af h.own a NLN,h.len,fun j h1 d=>by
  obtain⟨lo,hi,a1,a2,a3,a4⟩:=h.each j h1 d;exact⟨lo,hi,a1,zC a2 a.size,a3,a4.keep (IG.of_below a a2 a2)⟩⟩
theorem Tk.set {B:Nat}{a:jB}{b:List K5}{w:Z}(h:Tk w0 B a b Es w)(p:jD)(u:jB)(hp:p.block<B):Tk w0 B a b Es (w.setCell p u):=
 ⟨Ai h.own p u (fun q c=>by have:=(h.own.lt q c).1;omega),h.len,fun j h1 d=>by
  obtain⟨lo,hi,a1,a2,a3,a4⟩:=h.each j h1 d;exact⟨lo,hi,a1,by simpa using a2,a3,a4.keep ⟨by simpa using a2,fun q f g=>heap_setCell_other w p q u (by omega)⟩⟩⟩
theorem Tk.snoc {B:Nat}{c:jB}{a:List K5}{w:Z}{o:Obj}{g:Nat}{k:K5}{b:Ex}(h:Tk w0 B c a Es w)(v:B<=lo)(n:∀q,c.ownBlock=Y q->q<lo)(hs:SmC w0 lo w.heap.size w k b)
  (x:d.ownsRow B 101 5 (X (Y ⟨g,0,T⟩) (a.length+1) cap) (a.length+1) (a.flatMap K5.cs++k.cs))(p:(w.alloc o).grownBy d c.ownBlock)(hat:c.ownBlock=Y g\/g=w.heap.size+1):
  Tk w0 B (X (Y ⟨g,0,T⟩) (a.length+1) cap) (a++[k]) (Es++[b]) d:=by
 have y:(w.alloc o).heap.size=w.heap.size+1:=by simp
 have r:w.heap.size<=d.heap.size:=by have:=p.size;omega
 have s:∀q,q<w.heap.size->c.ownBlock≠Y q->d.heap[q]? =w.heap[q]? :=fun q h1 t=>(p.block q (by rw[y];omega) (fun e=>t e.symm)).trans (Below.heap_alloc w o q h1);refine⟨?_,by simp[h.len],fun j h1 t=>?_⟩
 ·rw[Z3,zB];simpa using x
 ·by_cases f:j<a.length
  ·obtain⟨l,i,a1,a2,a3,a4⟩:=h.each j f (by rw[h.len];exact f);rw[zi f,zi (by rw[h.len];exact f)];refine⟨l,i,a1,by omega,fun q m=>?_,a4.keep ⟨by omega,fun q z u=>s q (by omega) (fun e=>by rcases a3 q e with h5|h5<;>omega)⟩⟩;have e:g=q:=by simpa[Value.ownBlock]using m
   subst e;rcases hat with e|e
   ·exact a3 g e
   ·right;omega
  ·have A:j=a.length:=by simp at h1;omega
   subst A;have e1:(a++[k])[a.length]=k:=by simp
   have e2:(Es++[b])[a.length]=b:=by simp[<-h.len]
   rw[e1,e2];refine⟨lo,w.heap.size,v,r,fun q m=>?_,hs.keep ⟨r,fun q z u=>s q u (fun e=>by have:=n q e;omega)⟩⟩;have e:g=q:=by simpa[Value.ownBlock]using m
   subst e;rcases hat with e|e
   ·exact .inl (n g e)
   ·right;omega
theorem Tk.all {B lo:Nat}{ka:Option jD}{m kc:Nat}{d:List K5}{w:Z}(h:Tk w0 B (X ka m kc) d Es w)(hm:m<=1048576)(t:d.length=m)(S:lo<=B)(op num:Int)(text:ByteArray)(an:Option jD)(nn cn:Nat)(ss:List ByteArray)(D:Qh w0 an nn cn ss)(e:Ex)(y:Np op num text ss Es e):SmC w0 lo w.heap.size w ⟨op,num,text,an,nn,cn,ka,m,kc⟩ e:=fun a u E=>by
 have z:=Et (by have:=h.own;rw[t]at this;exact this) t;have g:AO a ka d:=fun j F=>by
  obtain⟨b,G,rfl,p,H⟩:=z j F;have q:B<=b:=(h.own.lt b rfl).1;exact⟨b,G,rfl,zR p u.1,fun r z=>(World.cell?_of_block (w:=w) (u.2 b (by omega) p)).trans (H r z)⟩
 have v:Es.length=m:=by rw[h.len,t]
 have W:=y.sum;have I:∀x∈Es,Am x<=1048576:=fun x hx=>by
  have:=Zh (List.mem_map_of_mem (f:=Am) hx);omega
 have c:∀j,(h1:j<d.length)->(p:j<Es.length)->Zg w0 a d[j] Es[j]/\Vn a d[j] Es[j]:=fun j h1 p=>by
  obtain⟨l,i,a1,a2,a3,a4⟩:=h.each j h1 p;have A:∀k,An a k->Sz1 k d[j] Es[j]/\Tr1 w0 k d[j] Es[j]:=fun k q=>a4 k ((u.sub (by omega) a2).trans (IG.of_below q (zC a2 u.1) (zC a2 u.1))) (I _ (zH p));exact⟨fun k q=>(A k q).2,fun k q=>(A k q).1⟩
 refine⟨?_,fun s hat=>?_⟩
 ·rw[Sz1,<-y.size];refine Aca op num text an nn cn ka m kc hm d t (Es.map Am) (by rw[zU,v]) (by omega) a g (fun j h1 p k q=>?_);have:=(c j h1 (by simpa using p)).2 k q;simpa using this
 ·cases y with
  |attr i J=>subst J;exact Aav w0 num text an nn cn ka m kc i s a
  |lett i K=>subst K;exact Aaw w0 num text an nn cn ka m kc i s a
  |const e h5 L E=>
   have:m=0:=by rw[<-v];rfl
   subst this;rw[L];exact XS w0 op num text an nn cn ka kc (zA.2 (by omega)) (zA.2 (by omega)) s a ss D
  |un i e0 M=>
   have:m=1:=by rw[<-v];rfl
   subst this
   match d,t,c,g with
   |[k0],_,c,g=>exact Aew w0 op num text an nn cn ka kc k0 i e0 M s hat a g (c 0 (by simp) (by simp)).1
  |bin i e0 e1 aa=>
   have:m=2:=by rw[<-v];rfl
   subst this
   match d,t,c,g with
   |[k0,k1],_,c,g=>
    have n:=c 0 (by simp) (by simp);have o:=c 1 (by simp) (by simp);by_cases N:op=25
    ·subst N;exact Acd w0 num text an nn cn ka kc k0 k1 i e0 e1 s hat a g n.1 n.2 o.1 o.2
    by_cases O:op=26
    ·subst O;exact Aex w0 num text an nn cn ka kc k0 k1 i e0 e1 s hat a g n.1 n.2 o.1 o.2
    exact Acb w0 op num text an nn cn ka kc k0 k1 i e0 e1 (by omega) s hat a g n.1 n.2 o.1 o.2
  |ite i e0 e1 e2 P=>
   have:m=3:=by rw[<-v];rfl
   subst this;subst P
   match d,t,c,g with
   |[k0,k1,k2],_,c,g=>
    have n:=c 0 (by simp) (by simp);have o:=c 1 (by simp) (by simp);have C:=c 2 (by simp) (by simp);exact Ace w0 num text an nn cn ka kc k0 k1 k2 i e0 e1 e2 s hat a g n.1 n.2 o.1 o.2 C.1 C.2
def L4C (w0:Z) (b:Ex) (w:Z) (r:Ending) (w':Z):Prop:=∃k:K5,r=jF (jE #[U V k.op,U V k.num,Q k.text,X k.an k.nn k.cn,X k.ka k.kn k.kc])/\SmC w0 w.heap.size w'.heap.size w' k b/\An w w'
theorem Ks (w0:Z)(a:Option jD)(n c:Nat)(N:List Nd)(ag:IY w0 a n c N)(aI:NmZ w0 a N)(w:Z)(F:An w0 w)(i:Nat)(x:Nd)(hx:N[i]? =Y x)(bs:List Ex)(aJ:bs.length=x.kids.length)(e:Ex)(aK:Np x.op x.num x.text x.names bs e)
  (aL:∀j,(h:j<x.kids.length)->(bM:j<bs.length)->∀ah,An w ah->Calls jL 53 #[X a n c,U V x.kids[j]] ah (L4C w0 bs[j] ah)):
  Calls jL 53 #[X a n c,U V i] w (L4C w0 e w):=by
 obtain⟨ba,bb,bc,bd,bf⟩:=info_parts Nq;have bg:=ag.len;have hi:i<N.length:=(zZ.1 hx).1;have aM:N[i]=x:=(zZ.1 hx).2;have bN:(i:Int)<(n:Int):=by omega
 obtain⟨b,aN,rfl,G,an,nn,cn,I,l,J,c0,c1,c2,c3,c4,ai,K⟩:=ag.cells i hi;rw[aM]at c0 c1 c2 K ai;have bh:=Ab (show Qh w0 an nn cn x.names from⟨ai,aI i hi b aN rfl an nn cn c3⟩);have bi:=Ab aK;replace c0:=(F.cell (by exact G)).trans c0;replace c1:=(F.cell (by exact G)).trans c1;replace c2:=(F.cell (by exact G)).trans c2;replace c3:=(F.cell (by exact G)).trans c3;replace c4:=(F.cell (by exact G)).trans c4;replace K:=K.below F NLN;replace G:=zR G F.size;clear aK;have aO:=Ab K.len;have bO:=K.small;have aP:=Ab aJ;have bj:=Ab aL;clear ai;clear bg hx aM hi aJ aL F ag aI;have aj:=AN w Gm;have ak:=aj.alloc aj.size (EV x.op x.num x.text an nn cn I l J);have al:=ak.alloc ak.size (Bs x.op x.num x.text an nn cn T 0 0);have ao:=((Ah.new w #[U V 0,U V 0,Q ⟨#[]⟩,X T 0 0,X T 0 0] 101).alloc (EV x.op x.num x.text an nn cn I l J)).alloc (Bs x.op x.num x.text an nn cn T 0 0);have aa:=(Ah.new (w.alloc Gm) #[U V x.op,U V x.num,Q x.text,X an nn cn,X I l J] 134).alloc (Bs x.op x.num x.text an nn cn T 0 0);have M:=Ah.new ((w.alloc Gm).alloc (EV x.op x.num x.text an nn cn I l J)) #[U V x.op,U V x.num,Q x.text,X an nn cn,X T 0 0] 101;have ap:(((w.alloc Gm).alloc (EV x.op x.num x.text an nn cn I l J)).alloc (Bs x.op x.num x.text an nn cn T 0 0)).heap.size=w.heap.size+3:=by simp
 simp only[World.size_alloc]at aa M;go_enter func53,ntmps53
 go_wp2_with fail
 generalize (((w.alloc Gm).alloc (EV x.op x.num x.text an nn cn I l J)).alloc (Bs x.op x.num x.text an nn cn T 0 0))=bk at al ao aa M ap|-;clear aj ak;have aq:Tk w0 (w.heap.size+3) (X T 0 0) [] [] bk:=⟨World.ownsRow_nil _ _ _ _,rfl,fun j h=>absurd h (by simp)⟩
 generalize aQ:w.heap.size=d at al ao aa M ap aq|-;have ar:=Ab aQ;generalize bl:d+1=O at aa M|-;generalize bm:O+1=g at M|-;generalize bn:d+3=B at ap aq|-;have bo:d<O/\O<g/\g<B:=by omega
 have bp:=Ab K;clear aQ bl bm bn K c0 c1 c2 c3 c4 G;go_loopw [25] (fun i wr=>∃ (j:Nat) (au:jB) (f:List K5),j<=l/\i=U V j/\Hid (f.length=j)/\Ah wr g #[U V x.op,U V x.num,Q x.text,X an nn cn,au] 101/\Ah wr O #[U V x.op,U V x.num,Q x.text,X an nn cn,X I l J] 134/\Ah wr d #[U V 0,U V 0,Q ⟨#[]⟩,X T 0 0,X T 0 0] 101/\Tk w0 B au f (bs.take j) wr/\Below d w wr/\B<=wr.heap.size) (fun i _=>l-(intOf i).toNat)
 case atStart=>exact⟨0,_,[],zE _,rfl,Ab rfl,M,aa,ao,aq,al,by omega⟩
 case round=>
  obtain⟨j,au,f,bP,rfl,av,RT,aR,aS,P,aw,bQ⟩:=hrel;obtain⟨m,o,rfl,_⟩:=Ae P.own;obtain⟨bR,bS,bT,bU,br,bV⟩:=Aq RT;obtain⟨bW,n1,bX,bY,bZ,b0⟩:=Aq aR;by_cases ax:j<l
  ·have b1:(j:Int)<(l:Int):=by omega
   have ab:j<x.kids.length:=by rw[Aa aO];exact ax
   have ay:j<bs.length:=by rw[Aa aP];exact ab
   have aT:An w wr:=by show Below _ _ _;rw[Aa ar];exact aw
   obtain⟨b2,ok,rfl,b3,bt⟩:=((Aa bp).below aT NLN).cells j ab;have az:=Ab (Fd (Aa bj j ab ay wr.drew aT.drew) (fun e w' ⟨k,h,_⟩=>⟨_,h⟩));have aU:=Ab (show bs.take (j+1)=bs.take j++[bs[j]]from zc ay);have aV:=Ab ax;generalize x.kids[j]=bu at bt az;generalize bs[j]=bv at az aU;have b4:f.length<=1048576:=by have:=Aa av;omega
   clear ax ab ay;have aW:=RT.after BRN.drew NLN;have aX:=P.below BRN.drew;have sd:wr.drew.cell? ⟨g,4,T⟩=Y (X m f.length o):=br;have bw:(Tryz.f53.name== "runtime.NumGoroutine")=jA:=by kernel_rfl
   have bx: Tryz.f53.body.isNone=jA:=by kernel_rfl
   have ac:∀q,(Value.slice m f.length o).ownBlock=Y q->B<=q/\q<wr.heap.size:=fun q S=>P.own.lt q S;go_wp2_with fail
   go_region_law (first
    |(refine Bf rfl 53 _ func53 bw bx _ _ _ rfl (X (Y ⟨b,aN,T⟩) n c) (U V bu) rfl rfl _ (Aa az) ?_;rintro b5 aY ⟨bz,aZ,aA,W⟩;obtain rfl:=AS aZ;obtain⟨r,s,t,y,z,A,C,D,E⟩:=bz;dsimp only at aZ aA|-;have aB:=aW.after W NLN;obtain⟨e0,e1,e2,e3,e4,b6⟩:=Aq aB;have aC:=aX.below W;have a0:=World.ownsRow.alloc aC.own (Bs r s t y z A C D E);have ad:=aB.alloc (Bs r s t y z A C D E);obtain⟨b7,b8,b9,ca,cb,cc⟩:=Aq ad;have a1:=World.news_of_block (heap_alloc_new aY (Bs r s t y z A C D E));have cd:=W.size)
    |(refine step_append_lies _ rfl _ _ 97 rfl B 101 ba (jE #[U V 0,U V 0,Q jK,X T 0 0,X T 0 0]) 5 80 underlying97 bb bc bd bf rfl (by decide) (X m f.length o) f.length (f.flatMap K5.cs) rfl a0 ⟨aY.heap.size,0,T⟩ 1 1 (K5.cs ⟨r,s,t,y,z,A,C,D,E⟩) rfl rfl a1 (by intro u hu;simp[K5.cs]at hu;rcases hu with rfl|rfl|rfl|rfl|rfl<;>rfl) (by decide) (by unfold maxLen;omega) (by omega) (by have:wr.drew.heap.size=wr.heap.size:=rfl;simp;omega) _ rfl ?_;intro g7 H ae a2 L hat ce;have af:Ah ae g _ _:=⟨(L.block g ad.lt (fun e=>by have:=(ac _ e.symm).1;omega)).trans ad.out⟩;have cf:ae.cell? ⟨g,4,T⟩=Y (X m f.length o):=af.cell 4;have cg:=af.frozen 4))
   all_goals
    have ch:wr.drew.heap.size=wr.heap.size:=rfl;have a3:=aC.snoc (lo:=wr.drew.heap.size) (k:=⟨r,s,t,y,z,A,C,D,E⟩) (b:=bv) (by omega) (fun q S=>by have:=(ac q S).2;omega) aA a2 L (hat.imp id (fun e=>by rw[e];simp));have a4:=a3.set ⟨g,4,T⟩ (X (Y ⟨g7,0,T⟩) (f.length+1) H) bo.2.2;have a5:=af.set 4 (X (Y ⟨g7,0,T⟩) (f.length+1) H);simp only[zV,zX,zQ]at a5;have a6:∀q,q<B->Y q≠(Value.slice m f.length o).ownBlock:=fun q S e=>by have:=(ac q e.symm).1;omega
    have bA:=(((((aR.after BRN.drew NLN).after W NLN).alloc (Bs r s t y z A C D E)).grown L (a6 O (by omega))).setFar (p:=⟨g,4,T⟩) (by show O≠g;omega) (X (Y ⟨g7,0,T⟩) (f.length+1) H))
    have bB:=(((((aS.after BRN.drew NLN).after W NLN).alloc (Bs r s t y z A C D E)).grown L (a6 d (by omega))).setFar (p:=⟨g,4,T⟩) (by show d≠g;omega) (X (Y ⟨g7,0,T⟩) (f.length+1) H))
    have bC:=((((aw.drew).trans (W.mono (by omega))).alloc (by omega) (Bs r s t y z A C D E)).grown L (by simp;omega) (fun q S=>by have:=(ac q S).1;omega)).setCell (p:=⟨g,4,T⟩) (by show d<=g;omega) (X (Y ⟨g7,0,T⟩) (f.length+1) H);have bD:B<=(ae.setCell ⟨g,4,T⟩ (X (Y ⟨g7,0,T⟩) (f.length+1) H)).heap.size:=by have:=L.size;simp at this|-;omega
    have bE:=Ab (show(f++[(⟨r,s,t,y,z,A,C,D,E⟩:K5)]).length=j+1 by rw[zB,Aa av];rfl);have bF:=Ab (show Tk w0 B (X (Y ⟨g7,0,T⟩) (f.length+1) H) (f++[(⟨r,s,t,y,z,A,C,D,E⟩:K5)]) (bs.take (j+1)) (ae.setCell ⟨g,4,T⟩ (X (Y ⟨g7,0,T⟩) (f.length+1) H)) by rw[Aa aU];exact a4);clear L hat a2 a3 a4 aC aX P RT aW aB ad af a0 a1 aA;go_wp2
    go_roundw
    case rel=>exact⟨j+1,_,_,Aa aV,by go_num,bE,a5,bA,bB,Aa bF,bC,bD⟩
    case measure=>have:=Aa aV;simp[intOf];omega
  ·have e:j=l:=by omega
   subst e;have a7:=aS;obtain⟨ci,cj,ck,cl,cm,co⟩:=Aq a7;have aD:=a7.set 0 (U V x.op);simp only[zV,zX]at aD;obtain⟨cp,cq,cr,ct,cu,cv⟩:=Aq aD;have aE:=aD.set 1 (U V x.num);simp only[zV,zX,zQ]at aE;obtain⟨cw,cx,cy,cz,cA,cB⟩:=Aq aE;have aF:=aE.set 2 (Q x.text);simp only[zV,zX,zQ]at aF;obtain⟨cC,cD,cE,cF,cG,cH⟩:=Aq aF;have aG:=aF.set 3 (X an nn cn);simp only[zV,zX,zQ]at aG;obtain⟨cI,cJ,cK,cL,cM,cN⟩:=Aq aG;have a8:=aG.set 4 (X m f.length o);simp only[zV,zX,zQ]at a8;obtain⟨bG,s1,s2,bH,bI,_⟩:=Aq a8;have aH:=((((P.set ⟨d,0,T⟩ (U V x.op) (by show d<B;omega)).set ⟨d,1,T⟩ (U V x.num) (by show d<B;omega)).set ⟨d,2,T⟩ (Q x.text) (by show d<B;omega)).set ⟨d,3,T⟩ (X an nn cn) (by show d<B;omega)).set ⟨d,4,T⟩ (X m f.length o) (by show d<B;omega);have bJ:=((((aw.setCell (p:=⟨d,0,T⟩) (z0 d) (U V x.op)).setCell (p:=⟨d,1,T⟩) (z0 d) (U V x.num)).setCell (p:=⟨d,2,T⟩) (z0 d) (Q x.text)).setCell (p:=⟨d,3,T⟩) (z0 d) (X an nn cn)).setCell (p:=⟨d,4,T⟩) (z0 d) (X m f.length o);have bK:f.length<=1048576:=by have:=Aa av;omega
   have a9:bs.take j=bs:=zf (by rw[Aa aP,Aa aO];exact NLN);rw[a9]at aH;have bL:=Ab (aH.all bK rfl (by omega:d<=B) x.op x.num x.text an nn cn x.names (Aa bh) e (Aa bi));clear a9;clear P aH;go_wp2_with fail
   refine bodyPost_ret (v:= jE #[U V x.op,U V x.num,Q x.text,X an nn cn,X m f.length o]) (by simp[results,results53,go_sem,bG,s1,s2,bH,bI]) rfl ⟨⟨x.op,x.num,x.text,an,nn,cn,m,f.length,o⟩,rfl,?_,?_⟩
   ·rw[Aa ar];exact Aa bL
   ·show Below _ _ _;rw[Aa ar];exact bJ
theorem Acf (w0:Z)(a:Option jD)(n c:Nat)(N:List Nd)(s:IY w0 a n c N)(y:NmZ w0 a N)(C:∀x∈N,Bb x=R){i:Nat}{e:Ex}(t:Bu N i e):∀w,An w0 w->Calls jL 53 #[X a n c,U V i] w (L4C w0 e w):=by
 have leaf:∀{i:Nat} {x:Nd} {e:Ex},N[i]? =Y x->x.kids=[]->Np x.op x.num x.text x.names [] e->∀w,An w0 w->Calls jL 53 #[X a n c,U V i] w (L4C w0 e w):=fun {i x e} h hk hf w o=>Ks w0 a n c N s y w o i x h [] (by rw[hk];rfl) e hf (fun j h1=>absurd h1 (by rw[hk];simp));have fld:∀{i:Nat} {x:Nd},N[i]? =Y x->Jc x=R:=fun h=>by
  have:=C _ (zu h);rw[Bb,zD]at this;exact this.2
 induction t with
 |@int i x h b hk=>
  have d:=fld h;rw[Jc,if_neg (by omega),if_neg (by omega),if_pos (.inr b)]at d;simp only[zD,zG]at d;refine leaf h hk (.const _ (by omega) (fun a=>?_) rfl);rw[Ar,exV,CQ d.1,zj d.2,b]
  ·rfl
  all_goals (intros;simp_all)
 |@text i x h b hk=>
  have d:=fld h;rw[Jc,if_neg (by omega),if_neg (by omega),if_neg (by omega),U8,if_neg (by omega),if_pos b]at d;simp only[zD,zG]at d;refine leaf h hk (.const _ (by omega) (fun a=>?_) rfl);rw[Ar,exV,d.1.2,zj d.2,b]
  ·rfl
  all_goals (intros;simp_all)
 |@bool i x h b hk=>
  have d:=fld h;rw[Jc,if_neg (by omega),if_neg (by omega),if_neg (by omega),U8,if_neg (by omega),if_neg (by omega),if_pos b]at d;simp only[zD,zG]at d;refine leaf h hk (.const _ (by omega) (fun a=>?_) rfl);have D:(if decide (x.num=1)=R then (1 :Int)else 0)=x.num:=by
   rcases d.1.1 with e|e<;>rw[e]<;>rfl
  rw[Ar,exV,D,CQ d.1.2,zj d.2,b]
  ·rfl
  all_goals (intros;simp_all)
 |@set i x h b hk a n c=>
  have d:=fld h;rw[Jc,if_neg (by omega),if_neg (by omega),if_neg (by omega),U8,if_neg (by omega),if_neg (by omega),if_neg (by omega),if_pos b]at d;simp only[zD,zG]at d;refine leaf h hk (.const _ (by omega) (fun a=>?_) rfl);rw[Ar,exV,d.1.2,CQ d.2,b]
  ·rfl
  all_goals (intros;simp_all)
 |name h b hk=>
  have d:=fld h;rw[Jc,if_pos b]at d;cases d
 |attr h b hk=>exact leaf h hk (.attr _ b)
 |lett h b hk=>exact leaf h hk (.lett _ b)
 |@un i k x e h b hk hi t E=>
  intro w o;refine Ks w0 a n c N s y w o i x h [e] (by rw[hk];rfl) _ (.un _ _ b) (fun j h1 r p q=>?_);obtain rfl:j=0:=by simpa using r
  have e1:x.kids[0]=(k:Int):=by simp[hk]
  rw[e1];exact E p (o.trans (q.mono o.size))
 |@bin i k l x e f h b hk hi t u z A=>
  intro w o;refine Ks w0 a n c N s y w o i x h [e,f] (by rw[hk];rfl) _ (.bin _ _ _ b) (fun j h1 r p q=>?_);have B:j=0\/j=1:=by simp at r;omega
  rcases B with rfl|rfl
  ·have e1:x.kids[0]=(k:Int):=by simp[hk]
   rw[e1];exact z p (o.trans (q.mono o.size))
  ·have e1:x.kids[1]=(l:Int):=by simp[hk]
   rw[e1];exact A p (o.trans (q.mono o.size))
 |@ite i k l m x e f g h b hk hi t u v z A F=>
  intro w o;refine Ks w0 a n c N s y w o i x h [e,f,g] (by rw[hk];rfl) _ (.ite _ _ _ _ b) (fun j h1 r p q=>?_);have B:j=0\/j=1\/j=2:=by simp at r;omega
  rcases B with rfl|rfl|rfl
  ·have e1:x.kids[0]=(k:Int):=by simp[hk]
   rw[e1];exact z p (o.trans (q.mono o.size))
  ·have e1:x.kids[1]=(l:Int):=by simp[hk]
   rw[e1];exact A p (o.trans (q.mono o.size))
  ·have e1:x.kids[2]=(m:Int):=by simp[hk]
   rw[e1];exact F p (o.trans (q.mono o.size))
section
open Classical in
noncomputable def Ik (v u:Vl):Bool:=decide (v=u)
open Classical in
theorem XT (v u:Vl) (a:Option jD) (n c:Nat) (a':Option jD) (n' c':Nat) (w:Z) (h:AJ w a n c v.names) (h':AJ w a' n' c' u.names):
  Calls jL 54 #[jE #[U V v.kind,U V v.num,Q v.text,X a n c],jE #[U V u.kind,U V u.num,Q u.text,X a' n' c']] w fun r w'=>r=jF (.bool (Ik v u))/\An w w':=by
 have B0:=(AN w (.cells #[U V v.kind,U V v.num,Q v.text,X a n c] 44)).alloc (by simp) (.cells #[U V u.kind,U V u.num,Q u.text,X a' n' c'] 44);have R0:=(Ah.new w #[U V v.kind,U V v.num,Q v.text,X a n c] 44).alloc (.cells #[U V u.kind,U V u.num,Q u.text,X a' n' c'] 44);have R1:=Ah.new (w.alloc (.cells #[U V v.kind,U V v.num,Q v.text,X a n c] 44)) #[U V u.kind,U V u.num,Q u.text,X a' n' c'] 44;simp only[World.size_alloc]at R1;have HE:=Ab (show Ik v u=(decide (v.kind=u.kind)&&Vp v.num u.num v.text u.text v.names u.names) by
  obtain⟨k,m,t,s⟩:=v;obtain⟨k',m',t',s'⟩:=u;rw[Ik,Vp,<-Bool.decide_and,decide_eq_decide];simp only[Vl.mk.injEq])
 have HC:=Ab (fun W (hW:An w W)=>EJ 0 v.num v.text a n c v.names 0 u.num u.text a' n' c' u.names W (h.below hW NLN) (h'.below hW NLN));clear h h';by_cases hk:v.kind=u.kind
 ·have ek:(v.kind==u.kind)=R:=zF.2 hk;have HX:=Ab (show Ik v u=Vp v.num u.num v.text u.text v.names u.names by rw[Aa HE,zN hk];rfl);generalize Vp v.num u.num v.text u.text v.names u.names=bb at HC HX;clear HE hk;go_enter func54,ntmps54
  go_wp2_with fail
  refine(Aa HC _ B0).mono ?_;rintro r w1 ⟨rfl,hb1⟩;have B1:=B0.trans (hb1.mono B0.size);dsimp only;go_wp2
  go_ret
  exact⟨by rw[Aa HX];rfl,B1⟩
 ·have ek:(v.kind==u.kind)=jA:=zA.2 hk;have HX:=Ab (show Ik v u=jA by rw[Aa HE,zI hk];rfl);clear HE hk;go_enter func54,ntmps54
  go_wp2
  go_ret
  exact⟨by rw[Aa HX];rfl,B0⟩
end
theorem Lu.one {N:List Nd}{L:List St}{T:List Int}{c d:Dm}(h:Lu N L T c)(k:Lu N L T d):c=d:=by
 rcases h with⟨h1,rfl⟩|⟨h1,Es,a1,a2,rfl⟩
 ·rcases k with⟨_,rfl⟩|⟨a,_⟩
  ·rfl
  ·have:=h1.one a;cases this
 ·rcases k with⟨a,rfl⟩|⟨_,b,b1,b2,rfl⟩
  ·have:=h1.one a;cases this
  ·exact Aau a1 b1 a2 b2 L
theorem Qk (Es:List Ex)(t:St):∀(L:List St) (k a:Nat),CC Es k a (L++[t])=CC Es k a L++KO Es (k+Db L) (a+(CC Es k a L).length) t
 |[],k,a=>by simp[CC,Db]
 |s ::L,k,a=>by
  rw[List.cons_append,CC,CC,Qk Es t L];have e:Db (s ::L)=KR s+Db L:=by simp[Db]
  rw[e,zB,zJ,<-Z1,<-Z1]
theorem Tc (Es:List Ex)(L:List St)(h:∀t∈L,t.kind=3\/t.cond≠-1):(CC Es 0 0 L).length<=U6 Es L:=by
 have h1:=(Nm Es L ⟨[],0,[]⟩ h).1;have a:=Qf Es L ⟨[],0,[]⟩;rw[a]at h1;have b:((AY ⟨[],0,[]⟩ (CC Es 0 0 L)).withS (0+Db L)).ins.length=(CC Es 0 0 L).length:=by
  show(AY ⟨[],0,[]⟩ (CC Es 0 0 L)).ins.length=_;rw[Cf];exact zP _
 simp only[List.length_nil,zP]at h1 b;omega
theorem XU (L:List St)(t:St):Db (L++[t])=Db L+KR t:=by
 simp only[Db,zl,List.sum_append,List.map_cons,List.map_nil,List.sum_cons,List.sum_nil,ze]
theorem Vq:∀L:List St,Db L<=L.length
 |[]=>by simp[Db]
 |t ::L=>by
  have:=Vq L;have e:Db (t ::L)=KR t+Db L:=by simp[Db]
  rw[e,List.length_cons,KR];split<;>omega
theorem BY.src {w:Z}{B n c:Nat}{L:List I5}(h:BY w0 B (X x n c) L w)(h0: 0<n):∃g K,x=Y ⟨g,0,T⟩/\K.length=n/\K.map J5.i=L/\OG w0 K/\∀j u,(K.flatMap J5.cs)[j]? =Y u->w.cell? ((⟨g,0,T⟩:jD).add j)=Y u:=by
 obtain⟨b,c',e,hx⟩:=h.form;have e2:n=L.length:=by injection e
 have e1:x=b:=by injection e
 obtain⟨g,K,h1,a,d,f⟩:=hx (by omega);exact⟨g,K,e1.trans h1,by rw[e2,<-a,zU],a,d,f⟩
def KJ (w w':Z):Prop:=∀b cs t,Ah w b cs t->t≠113->Ah w' b cs t
theorem KJ.of_below {w w':Z}(h:An w w'):KJ w w':=fun k a t R _=>R.after h NLN
theorem BY.keepB {w w':Z}{B:Nat}{L:List I5}(h:BY w0 B v L w)(hd:∀q,v.ownBlock=Y q->w'.heap[q]? =w.heap[q]?):BY w0 B v L w':=by
 obtain⟨a,h1,b,c⟩:=h;exact⟨a,h1,b,Ad c hd⟩
theorem BY.lt {w0 w:Z}{B:Nat}{v:jB}{L:List I5}(h:BY w0 B v L w):∀q,v.ownBlock=Y q->B<=q/\q<w.heap.size:=by
 obtain⟨b,h1,c,a⟩:=h;exact a.lt
theorem FV {w:Z}{a:Act}{Q:Exit->Act->Z->Prop}(r:o.guard=T)(s x:Operand)
  (y:o.op= .call { callee:= .builtin .append,args:=#[s,x],argTypes:=#[109,109] })(w0:Z)(B:Nat)(v:jB)(L:List I5)(hs:a.eval s=v)(hv:BY w0 B v L w)
  (f:jD)(m c:Nat)(K:List J5)(hx:a.eval x=X (Y f) m c)(hm:K.length=m)(z:OG w0 K)(A:∀j u,(K.flatMap J5.cs)[j]? =Y u->w.cell? (f.add j)=Y u)(N:L.length+m<=4194304)(p:B<=w.heap.size)
  (h:∀b n' c' w',BY w0 B (X b n' c') (L++K.map J5.i) w'->Below B w w'->KJ w w'->(∀q,q<w.heap.size->v.ownBlock≠Y q->w'.heap[q]? =w.heap[q]?)->Hid (n'=L.length+m)->wpList jL ops Q rest (a.put o.dst (X b n' c')) w'):wpList jL ops Q (o ::rest) a w:=by
 obtain⟨C,D,E,F,G⟩:=info_parts Ab9;obtain⟨d,h1,H,g⟩:=hv;have e:d.length=L.length:=by rw[<-h1,zU]
 refine wpList_append_own w r s x 109 y B 113 C _ 6 72 underlying109 D E F G rfl (by decide) v d.length (d.flatMap J5.cs) hs g f m c (K.flatMap J5.cs) hx (by rw[No,hm]) A (fun u hu=>?_) (by unfold maxLen;omega) (by omega) p ?_
 ·obtain⟨k,_,hk⟩:=Z2.1 hu;exact k.one u hk
 ·intro v' w' l hg _;obtain⟨b,c',rfl,_⟩:=Ae l;rw[e];refine h b _ c' w' ⟨d++K,by rw[zl,h1],fun j I=>(zM.1 I).elim (H j) (z j),?_⟩ ((Below.refl B w).grown hg p (fun q n=>(g.lt q n).1)) (fun k O t R J=>⟨(hg.block k R.lt (fun e=>Ac R g J e.symm)).trans R.out⟩) (fun q n M=>hg.block q n (fun e=>M e.symm)) (Ab rfl);rw[zB,Z3,hm,e];rw[e]at l;exact l
theorem Ct:KU Ax:=⟨by decide,by simp[Ax],fun s hs=>absurd hs (by simp[Ax])⟩
theorem Qn (n:Int):KU ⟨1,n,⟨#[]⟩,[]⟩:=⟨by show(⟨#[]⟩:ByteArray).size<=255;decide,by simp,fun s hs=>absurd hs (by simp)⟩
theorem Acg (o:∀x∈N,Bb x=R){i:Nat}{e:Ex}(t:Bu N i e):∀a,∀j∈Ar e a,KU j.val:=by
 have fld:∀{i:Nat} {x:Nd},N[i]? =Y x->Jc x=R:=fun h=>by
  have:=o _ (zu h);rw[Bb,zD]at this;exact this.2
 have d:∀{A B:List I5},(∀j∈A,KU j.val)->(∀j∈B,KU j.val)->∀j∈A++B,KU j.val:=fun p q j m=>(zM.1 m).elim (p j) (q j);have b:∀{i:I5},KU i.val->∀j∈ [i],KU j.val:=fun h j m=>by rw[zO.1 m];exact h
 induction t with
 |int h f hk=>exact fun a=>b ⟨by show(⟨#[]⟩:ByteArray).size<=255;decide,by simp[exV],fun s hs=>absurd hs (by simp[exV])⟩
 |@text i x h f hk=>
  have g:=fld h;rw[Jc,if_neg (by omega),if_neg (by omega),if_neg (by omega),U8,if_neg (by omega),if_pos f]at g;simp only[zD,zG]at g;have hs:x.text.size<=32:=by
   have:=g.1.1;rw[Ci,zD,zG]at this;exact this.1
  exact fun a=>b ⟨by show x.text.size<=255;omega,by simp[exV],fun s hs=>absurd hs (by simp[exV])⟩
 |bool h f hk=>exact fun a=>b (Qn _)
 |@set i x h f hk a n c=>
  have g:=fld h;rw[Jc,if_neg (by omega),if_neg (by omega),if_neg (by omega),U8,if_neg (by omega),if_neg (by omega),if_neg (by omega),if_pos f]at g;simp only[zD,zG]at g;obtain⟨s1,s2⟩:=Gz g.1.1;exact fun a=>b ⟨by show(⟨#[]⟩:ByteArray).size<=255;decide,by show x.names.length<=255;omega,fun s hs=>by have:=s2 s hs;omega⟩
 |name h f hk=>
  have g:=fld h;rw[Jc,if_pos f]at g;cases g
 |attr h f hk=>exact fun a=>b Ct
 |lett h f hk=>exact fun a=>b Ct
 |un h f hk hi t r=>exact fun a=>d (r a) (b Ct)
 |bin h f hk hi t u k l=>
  intro a;rw[Ar];split
  ·exact d (d (d (d (k _) (b Ct)) (l _)) (b Ct)) (b (Qn _))
  ·split
   ·exact d (d (d (d (k _) (b Ct)) (b (Qn _))) (b Ct)) (l _)
   ·exact d (d (k _) (l _)) (b Ct)
 |ite h f hk hi t u v k l w=>exact fun a=>d (d (d (d (k _) (b Ct)) (l _)) (b Ct)) (w _)
theorem Ql {N:List Nd}(l:∀x∈N,Bb x=R){Es:List Ex}(p:Es.length=N.length)(m:∀j,(h:j<Es.length)->Bu N j Es[j]):∀(L:List St),(∀s∈L,(s.cond= -1\/(0<=s.cond/\s.cond<Es.length))/\(s.grant= -1\/(0<=s.grant/\s.grant<Es.length)))->(∀s∈L,s.kind=3\/s.cond≠-1)->∀k a,∀j∈CC Es k a L,KU j.val
 |[],_,_,k,a=>fun j b=>absurd b (by simp[CC])
 |s ::L,hR,hK,k,a=>by
  have q:=Ql l p m L (fun x hx=>hR x (za _ hx)) (fun x hx=>hK x (za _ hx));obtain⟨h1,r⟩:=hR s (zS ..);have hk:=hK s (zS ..);have d:∀{A B:List I5},(∀j∈A,KU j.val)->(∀j∈B,KU j.val)->∀j∈A++B,KU j.val:=fun t u j b=>(zM.1 b).elim (t j) (u j);have f:∀{i:I5},KU i.val->∀j∈ [i],KU j.val:=fun h j b=>by rw[zO.1 b];exact h
  have g:∀c:Int,0<=c/\c<Es.length->∀a,∀j∈Ar (Dh Es c) a,KU j.val:=fun c hc=>by
   have n:c.toNat<Es.length:=by omega
   have e:Dh Es c=Es[c.toNat]:=by rw[Dh,zo,zL n];rfl
   rw[e];exact Acg l (m _ n)
  have o:∀a,∀j∈hD Es s.grant a,KU j.val:=fun a=>by
   rw[hD];split
   ·exact f Ct
   ·rename_i hg;exact d (g _ (r.resolve_left hg) _) (f Ct)
  rw[CC];refine d ?_ (q _ _);rw[KO];split
  ·exact d (g _ (by omega) _) (f Ct)
  ·split
   ·exact d (d (g _ (by omega) _) (f Ct)) (o _)
   ·exact o _
theorem Mk {p:Vl->Prop} :∀(L:List I5) (s:Dm),(∀j∈L,p j.val)->(∀v∈s.pool,p v)->∀v∈(AY s L).pool,p v
 |[],s,_,h=>h
 |i ::L,s,hL,h=>by
  refine Mk L (A6 s i) (fun j a=>hL j (za _ a)) (fun v hv=>?_);unfold A6 at hv;split at hv
  ·dsimp only at hv;unfold Qd at hv;split at hv
   ·exact h v hv
   ·rcases zM.1 hv with q|q
    ·exact h v q
    ·rw[zO.1 q];exact hL i (zS ..)
  ·exact h v hv
theorem Qm:∀(L:List I5) (s:Dm),(AY s L).pool.length<=s.pool.length+L.length
 |[],s=>NLN
 |i ::L,s=>by
  have h1:=Qm L (A6 s i);have a:=Tb s i;show(AY (A6 s i) L).pool.length<=_;rw[List.length_cons];omega
theorem Lu.small {T:List Int}{c:Dm}(h:Lu N L T c):c.pool.length<=65535/\(∀v∈c.pool,KU v)/\c.ins.length<=65535/\c.slots<=600:=by
 rcases h with⟨_,rfl⟩|⟨hv,Es,d,f,rfl⟩
 ·exact⟨by simp,fun v hv=>absurd hv (by simp),by simp,by simp⟩
 ·have g:CR N L=R:=by
   rcases hv with⟨_,h⟩|⟨h,_⟩
   ·cases h
   ·exact h
  have a:=BP g;have i:∀s∈L,(s.cond= -1\/(0<=s.cond/\s.cond<Es.length))/\(s.grant= -1\/(0<=s.grant/\s.grant<Es.length)):=by rw[d];exact a.roots
  have j:∀t∈L,t.kind=3\/t.cond≠-1:=fun t k=>by have:=a.stm t k;omega
  have l:U6 Es L<=13200:=by have:=XR Es L i;have:=Zi g d f;have:=a.m;omega
  have b:=Nm Es L ⟨[],0,[]⟩ j;simp only[List.length_nil,zP]at b;have hm:=a.m;refine⟨zC b.2.1 (by omega),?_,zC b.1 (by omega),zC b.2.2 hm⟩;rw[PX];exact Mk _ _ (Ql a.fields d f L i j 0 0) (fun v hv=>absurd hv (by simp))
structure S2 (w:Z) (B cB:Nat) (kN:Int) (s:Dm) (pv iv:jB) (nv:List jB):Prop where
 row:Ah w cB #[pv,U V kN,iv] 26
 pool:BU w B pv s.pool nv
 ins:w.ownsRow B 49 2 iv s.ins.length (Cm s.ins)
 low:cB<B
theorem S2.below {w w':Z}{B b:Nat}{c:Int}(h:S2 w B b c s v f g)(a:An w w'):S2 w' B b c s v f g:=
 ⟨h.row.after a NLN,h.pool.blocks (fun k _ hk=>a.block k hk),Af h.ins a NLN,h.low⟩
def K2 (cB:Nat) (w w':Z):Prop:=∀b cs t,Ah w b cs t->b≠cB->t≠44->t≠49->Ah w' b cs t
theorem K2.trans {d:Nat}{a c:Z}(h:K2 d a b)(g:K2 d b c):K2 d a c:=fun k f t R h0 h1 i=>g k f t (h k f t R h0 h1 i) h0 h1 i
theorem K2.of_below {a:Nat}{w w':Z}(h:An w w'):K2 a w w':=fun k b t R _ _ _=>R.after h NLN
theorem S2.newI {g:Z}{B:Nat}{l:Int}{m n c:jB}{r:List jB}(h:S2 w0 B a l s m n r)(o:Obj)(op arg:Int)(hg:(w0.alloc o).grownBy g n.ownBlock)(u:g.ownsRow B 49 2 c (s.ins.length+1) (Cm s.ins++[U V op,U V arg])):
  S2 (g.setCell ⟨a,2,T⟩ c) B a l ⟨s.pool,s.slots,s.ins++[⟨op,arg⟩]⟩ m c r/\K2 a w0 (g.setCell ⟨a,2,T⟩ c)/\∀i,i<=a->i<=w0.heap.size->Below i w0 (g.setCell ⟨a,2,T⟩ c):=by
 have k:=AN w0 o;have h1:=h.below k;have x:=Cr h1.row hg (fun e=>Ac h1.row h1.ins (by decide) e.symm);refine⟨⟨x.set 2 c,(h1.pool.grown hg (fun q f=>⟨fun e=>Ak h1.ins h1.pool.own (by decide) q f e,fun j v e=>Ak h1.ins (h1.pool.names j (by rw[<-h1.pool.len];exact v) v) (by decide) q f e⟩)).set ⟨a,2,T⟩ c h.low,?_,h.low⟩,fun b A t R h0 hv hi=>?_,fun i y h0=>?_⟩
 ·have:=Ai u ⟨a,2,T⟩ c (fun q f=>by have:=(u.lt q f).1;have:=h.low;show q≠a;omega);simpa[Nj]using this
 ·have w:=R.after k NLN;have z:=Cr w hg (fun e=>Ac w h1.ins hi e.symm);exact z.setFar (p:=⟨a,2,T⟩) (by show b≠a;exact h0) c
 ·exact((k.mono h0).grown hg (zC h0 k.size) (fun q f=>by have:=(h1.ins.lt q f).1;have:=h.low;omega)).setCell (p:=⟨a,2,T⟩) y c
theorem S2.newV {f:Z}{B g7 c7:Nat}{n:Int}{k m:jB}{v:Vl}(h:S2 w0 B a n s k m g)(o:Obj)(z:w0.ownsRow B 9 1 u v.names.length (v.names.map Value.string))
  (r:∀q,u.ownBlock=Y q->k.ownBlock≠Y q/\∀j,(w:j<g.length)->g[j].ownBlock≠Y q)(hg:(w0.alloc o).grownBy f k.ownBlock)(A:f.ownsRow B 44 4 (X (Y ⟨g7,0,T⟩) (s.pool.length+1) c7) (s.pool.length+1) (Iz s.pool g++Uf v u))(hat:k.ownBlock=Y g7\/g7=w0.heap.size+1):
  S2 (f.setCell ⟨a,0,T⟩ (X (Y ⟨g7,0,T⟩) (s.pool.length+1) c7)) B a n ⟨s.pool++[v],s.slots,s.ins⟩ (X (Y ⟨g7,0,T⟩) (s.pool.length+1) c7) m (g++[u])/\K2 a w0 (f.setCell ⟨a,0,T⟩ (X (Y ⟨g7,0,T⟩) (s.pool.length+1) c7))/\∀l,l<=a->l<=w0.heap.size->Below l w0 (f.setCell ⟨a,0,T⟩ (X (Y ⟨g7,0,T⟩) (s.pool.length+1) c7)):=by
 have i:=AN w0 o;have h1:=h.below i;have C:=Af z i NLN;have D:=Cr h1.row hg (fun e=>Ac h1.row h1.pool.own (by decide) e.symm);have E:=h1.pool.snoc C (fun j w q c e=>(r q e).2 j w c) (fun q c=>(r q c).1) A hg (fun q c=>by
  have:g7=q:=by simpa[Value.ownBlock]using c
  subst this;exact hat.imp id (fun e=>by rw[e];simp))
 have x:f.ownsRow B 49 2 m s.ins.length (Cm s.ins):=Ad h1.ins (fun q c=>hg.block q (h1.ins.lt q c).2 (fun e=>Ak h1.ins h1.pool.own (by decide) q c e.symm));refine⟨⟨D.set 0 _,E.set ⟨a,0,T⟩ _ h.low,Ai x ⟨a,0,T⟩ _ (fun q c=>by have:=(x.lt q c).1;have:=h.low;show q≠a;omega),h.low⟩,fun b H t R h0 hv hi=>?_,fun l F h0=>?_⟩
 ·have y:=R.after i NLN;have G:=Cr y hg (fun e=>Ac y h1.pool.own hv e.symm);exact G.setFar (p:=⟨a,0,T⟩) (by show b≠a;exact h0) _
 ·exact((i.mono h0).grown hg (zC h0 i.size) (fun q c=>by have:=(h1.pool.own.lt q c).1;have:=h.low;omega)).setCell (p:=⟨a,0,T⟩) F _
open Classical in
theorem XX (v u:Vl):(Ik v u=R->v=u)/\(Ik v u=jA->v≠u):=by
 unfold Ik;exact⟨of_decide_eq_true,of_decide_eq_false⟩
noncomputable def Cl (v:Vl) (P:List Vl) (k:Nat):Int:=match FU v (P.take k) 0 with
 |some i=>(i:Int)
 |none=>-1
open Classical in
theorem Jd (v u:Vl):∀(P:List Vl) (a:Nat),FU v (P++[u]) a=match FU v P a with
  |some i=>Y i
  |none=>if u=v then Y (a+P.length)else T
 |[],a=>by simp[FU]
 |x ::P,a=>by
  rw[List.cons_append,FU,FU];by_cases e:x=v
  ·rw[if_pos e,if_pos e]
  ·rw[if_neg e,if_neg e,Jd v u P (a+1)];cases FU v P (a+1)with
   |some i=>rfl
   |none=>simp only[List.length_cons];rw[show a+1+P.length=a+(P.length+1) by omega]
theorem XV (v:Vl)(P:List Vl):Cl v P 0= -1:=rfl
theorem Aax {v:Vl}{P:List Vl}(h:k<P.length)(a: 0<=Cl v P k):Cl v P (k+1)=Cl v P k:=by
 unfold Cl at*;rw[zc h,Jd];cases b:FU v (P.take k) 0 with
 |some i=>rfl
 |none=>rw[b]at a;dsimp only at a;omega
theorem XW {v:Vl}{P:List Vl}(h:k<P.length)(a:Cl v P k<0)(he:P[k]=v):Cl v P (k+1)=k:=by
 unfold Cl at*;rw[zc h,Jd];cases b:FU v (P.take k) 0 with
 |some i=>rw[b]at a;dsimp only at a;omega
 |none=>dsimp only;rw[if_pos he,zv,show min k P.length=k by omega];simp
theorem Vs {v:Vl}{P:List Vl}(h:k<P.length)(a:Cl v P k<0)(he:P[k]≠v):Cl v P (k+1)=Cl v P k:=by
 unfold Cl at*;rw[zc h,Jd];cases b:FU v (P.take k) 0 with
 |some i=>rfl
 |none=>dsimp only;rw[if_neg he]
theorem OJ (v:Vl)(P:List Vl)(k:Nat): -1<=Cl v P k/\Cl v P k<=P.length:=by
 unfold Cl;cases a:FU v (P.take k) 0 with
 |some i=>
  obtain⟨_,b,_⟩:=Qg a;rw[zv]at b;dsimp only;omega
 |none=>dsimp only;omega
theorem XY (v:Vl)(P:List Vl):(Cl v P P.length<0/\Ur P v=P.length/\Qd P v=P++[v])\/(0<=Cl v P P.length/\Cl v P P.length=Ur P v/\Qd P v=P):=by
 unfold Cl Ur Qd;rw[yA];cases a:FU v P 0 with
 |some i=>exact .inr ⟨by dsimp only;omega,rfl,rfl⟩
 |none=>exact .inl ⟨by dsimp only;omega,rfl,rfl⟩
end Go.Proofs.YtppafecmccdplaaGreat
