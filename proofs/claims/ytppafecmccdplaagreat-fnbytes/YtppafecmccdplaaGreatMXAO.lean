import Derived.Test.YtppafecmccdplaaGreatMXAV
open Go.Proofs.Tryz
open Option renaming none->T,some->Y
open Go.Value renaming int->U,slice->X,string->Q,agg->jE,pointer->jH,tuple->jJ
open Go.IntKind renaming i64->V
open Go renaming World->Z,Value->jB,Addr->jD
open Bool renaming true->R,false->jA
open Go.Obj renaming cells->jC
open ByteArray renaming empty->jK
open Go.Proofs.Tryz renaming prog->jL
namespace Go.Proofs.YtppafecmccdplaaGreat
set_option maxRecDepth 100000
open Go.RowKit
set_option linter.unusedVariables false
variable {b:Act}{nm:ByteArray}{st:Cs}{t:Int}{f:Int×Int}{S:List (Nat×Nat)}{a:List (Sx×Int)}{c:List Dc}{Es:List Ex}{ts tt ys:List Int}{N:List Nd}{rest:List Oper}{L:List St}{j B':Nat}{o:Oper}{x:Sx}{v:jB}{w:Z}
theorem Bg {P:Program}{ops:Array Oper}{a:Act}{Q:Exit->Act->Z->Prop}(d:o.guard=T)(s x:Operand)(t:TypeId)
  (f:o.op= .call { callee:= .builtin .append,args:=#[s,x],argTypes:=#[t,t] })
  (base:Nat)(e:TypeId)(i:TypeInfo)(size c:Nat)(b:P.underlying t=Y (.slice e))(hi:P.info? e=Y i)
  (v:jB)(n:Nat)(j:List jB)(hs:a.eval s=v)(k:w.ownsRow base e size v n j)(hx:a.eval x=X T 0 c)
  (h:wpList P ops Q rest (a.put o.dst v) w):wpList P ops Q (o ::rest) a w:=by
 refine wpList_plain d fun K l=>?_;have m:(Builtin.append_ #[t,t] o.type #[v,X T 0 c]).run P w= .ok v w:=by
  rcases k.2 with⟨rfl,rfl⟩|⟨g,cap,q,rfl,_,_,p,_⟩
  ·simp[Builtin.append_,run_underlying b,sizeOf,typeInfo,hi,Builtin.lenOf,Builtin.firstCells]
  ·simp[Builtin.append_,run_underlying b,sizeOf,typeInfo,hi,Builtin.lenOf,Builtin.firstCells,p,storeCells]
 unfold Oper.wp;simp[execOp,f,resolve,invoke,builtin,hs,hx,m,Result.andThen];exact l _ _ h
theorem KW {ops:Array Oper}{Q:Exit->Act->Z->Prop}(g:o.guard=T)(s x:Operand)(j:o.op= .call { callee:= .builtin .append,args:=#[s,x],argTypes:=#[42,42] })(base:Nat)(v:jB)(k:Nat)(d:List jB)(hs:b.eval s=v)(f:w.ownsRow base 9 1 v k d)(a:Option jD)(n c:Nat)(ss:List ByteArray)(hx:b.eval x=X a n c)(h:AJ w a n c ss)(hk:k+n<=1048576)(l:base<=w.heap.size)
  (m:∀v' w',w'.ownsRow base 9 1 v' (k+n) (d++ss.map Value.string)->Below base w w'->wpList jL ops Q rest (b.put o.dst v') w'):wpList jL ops Q (o ::rest) b w:=by
 obtain⟨i,hi,p,r,t⟩:=info_parts JH;cases a with
 |none=>
  have h0:n=0:=by
   rcases Nat.eq_zero_or_pos n with q|q
   ·exact q
   ·obtain⟨D,E,y,_⟩:=h.cells 0 q;cases y
  subst h0;obtain rfl:ss=[]:=zj h.len.symm;exact Bg g s x 42 j base 9 i 1 c underlying42 hi v k d hs f hx (m v w (by simpa using f) BRN)
 |some z=>
  refine wpList_append_own w g s x 42 j base 9 i (.string jK) 1 16 underlying42 hi p r t rfl (by decide) v k d hs f z n c (ss.map Value.string) hx ?_ (AJ.newsG h) ?_ ?_ ?_ l ?_
  ·rw[zU,h.len];omega
  ·intro u hu;obtain⟨s,_,rfl⟩:=zn.1 hu;rfl
  ·unfold maxLen;omega
  ·omega
  ·intro v' w' A B _;exact m v' w' A (BRN.grown B l (fun q C=>(f.lt q C).1))
theorem AcF (b a j:Nat):(⟨b,a,T⟩:jD).add j=⟨b,a+j,T⟩:=by
 by_cases e:j=0<;>simp[Addr.add,e]
theorem Gg {ops:Array Oper}{Q:Exit->Act->Z->Prop}(l:o.guard=T)(s x:Operand)(m:o.op= .call { callee:= .builtin .append,args:=#[s,x],argTypes:=#[67,67] })(base:Nat)(v:jB)(k:Nat)(d:List jB)(hs:b.eval s=v)(f:w.ownsRow base 3 1 v k d)(a:Option jD)(n c:Nat)(ss:List Int)(hx:b.eval x=X a n c)(h:Em w a n c ss)(hk:k+n<=1048576)(p:base<=w.heap.size)
  (r:∀v' w',w'.ownsRow base 3 1 v' (k+n) (d++Aw ss)->Below base w w'->wpList jL ops Q rest (b.put o.dst v') w'):wpList jL ops Q (o ::rest) b w:=by
 obtain⟨i,hi,z,A,B⟩:=info_parts Mi;have t:=h.len;cases a with
 |none=>
  have h0:n=0:=by
   rcases Nat.eq_zero_or_pos n with q|q
   ·exact q
   ·obtain⟨C,D,g,_⟩:=h.cells 0 (by omega);cases g
  subst h0;obtain rfl:ss=[]:=zj t;exact Bg l s x 67 m base 3 i 1 c underlying67 hi v k d hs f hx (r v w (by simpa[Aw]using f) BRN)
 |some E=>
  refine wpList_append_own w l s x 67 m base 3 i (U V 0) 1 8 underlying67 hi z A B rfl (by decide) v k d hs f E n c (Aw ss) hx ?_ ?_ ?_ ?_ ?_ p ?_
  ·simp[Aw,t]
  ·intro j u hu;have y:j<ss.length:=by
    have:=(zZ.1 hu).1;simpa[Aw]using this
   obtain⟨C,D,g,_,F⟩:=h.cells j y;cases g;rw[AcF,F,<-hu];simp[Aw,y]
  ·intro u hu;obtain⟨s,_,rfl⟩:=zn.1 hu;rfl
  ·unfold maxLen;omega
  ·omega
  ·intro v' w' G H _;exact r v' w' G (BRN.grown H p (fun q I=>(f.lt q I).1))
theorem VZ:(jL.info? 93).map (fun i=>(i.zero,i.size,i.bytes))=Y (Y (jE #[U V 0,Q jK,U V 0,U V 0]),4,40):=by kernel_rfl
theorem LC {ops:Array Oper}{Q:Exit->Act->Z->Prop}(p:o.guard=T)(s x:Operand)(t:o.op= .call { callee:= .builtin .append,args:=#[s,x],argTypes:=#[66,66] })(base:Nat)(v:jB)(k:Nat)(d:List jB)(hs:b.eval s=v)(f:w.ownsRow base 93 4 v k d)(a:Option jD)(n c:Nat)(L:List St)(hx:b.eval x=X a n c)(h:Ss w a n c L)(hk:k+n<=65536)(y:base<=w.heap.size)
  (z:∀v' w',w'.ownsRow base 93 4 v' (k+n) (d++En L)->Below base w w'->wpList jL ops Q rest (b.put o.dst v') w'):wpList jL ops Q (o ::rest) b w:=by
 obtain⟨i,hi,B,C,D⟩:=info_parts VZ;have A:=h.len;cases a with
 |none=>
  have h0:n=0:=by
   rcases Nat.eq_zero_or_pos n with q|q
   ·exact q
   ·obtain⟨E,l,m,_⟩:=h.cells 0 (by omega);cases m
  subst h0;obtain rfl:L=[]:=zj A;exact Bg p s x 66 t base 93 i 4 c underlying66 hi v k d hs f hx (z v w (by simpa[En]using f) BRN)
 |some F=>
  refine wpList_append_own w p s x 66 t base 93 i (jE #[U V 0,.string jK,U V 0,U V 0]) 4 40 underlying66 hi B C D rfl (by decide) v k d hs f F n c (En L) hx ?_ ?_ ?_ ?_ ?_ y ?_
  ·rw[QH,A]
  ·intro j u hu;have J:j<L.length*4:=by
    have:=(zZ.1 hu).1
    rwa[QH]at this
   have g:j / 4<L.length:=by omega
   have e:j=(j / 4)*4+j % 4:=by omega
   have G:j % 4<4:=by omega
   obtain⟨E,l,m,_,c0,c1,c2,c3⟩:=h.cells (j / 4) g;cases m;have hs:=UA L (j / 4) g (j % 4) G;rw[<-e,hu]at hs;rw[AcF,show l+j=l+j / 4*4+j % 4 by omega];have:j % 4=0\/j % 4=1\/j % 4=2\/j % 4=3:=by omega
   rcases this with r|r|r|r<;>rw[r]at hs|-
   ·rw[ze,c0,hs];rfl
   ·rw[c1,hs];rfl
   ·rw[c2,hs];rfl
   ·rw[c3,hs];rfl
  ·intro u hu;obtain⟨s,_,hu⟩:=Z2.1 hu;simp at hu;rcases hu with rfl|rfl|rfl|rfl<;>rfl
  ·unfold maxLen;omega
  ·omega
  ·intro v' w' H I _;exact z v' w' H (BRN.grown I y (fun q g=>(f.lt q g).1))
set_option maxHeartbeats 1600000
structure Ltm (w:Z) (lb:Nat) (xa:Option jD) (nn cc:Nat) (ns:List ByteArray) (la:Option jD) (ln lc:Nat) (ts:List Int):Prop where
 c0:w.cell? ⟨lb,0,T⟩=Y (X xa nn cc)
 c1:w.cell? ⟨lb,1,T⟩=Y (X la ln lc)
 lt:lb<w.heap.size
 nms:Nms w xa ns
 nl:ns.length=nn
 small:nn<=1048576
 ints:Em w la ln lc ts
 same:ns.length=ts.length
theorem Ltm.below {w w':Z}{b:Nat}{c:Option jD}{nn cc:Nat}{ns:List ByteArray}{d:Option jD}{f g:Nat}{ts:List Int}(h:Ltm w b c nn cc ns d f g ts)(a:An w w'):Ltm w' b c nn cc ns d f g ts:=
 ⟨(a.cell (p:=⟨b,0,T⟩) h.lt).trans h.c0,(a.cell (p:=⟨b,1,T⟩) h.lt).trans h.c1,zR h.lt a.size,h.nms.below a NLN,h.nl,h.small,h.ints.below a NLN,h.same⟩
theorem VO (a:Option jD)(n c:Nat)(N:List Nd)(p:Nat)(w:Z)(q:IY w a n c N)(i:Nat)(x:Nd)(hx:N[i]? =Y x)(G:x.op=5)(H:Option jD)(nn cc:Nat)(ns:List ByteArray)(ab:Option jD)(I ac:Nat)(ts:List Int)(J:Ltm w p H nn cc ns ab I ac ts):
  Calls jL 103 #[X a n c,U V i,jH (Y ⟨p,0,T⟩)] w (NdC (nmR ns ts x.text) w):=by
 have ad:=q.len;have hi:i<N.length:=(zZ.1 hx).1;have K:N[i]=x:=(zZ.1 hx).2;have aq:(i:Int)<(n:Int):=by omega
 obtain⟨b,ar,rfl,au,an,s,cn,u,y,z,c0,c1,c2,c3,c4,ae,L⟩:=q.cells i hi;rw[K]at c0 c1 c2 L;rw[G]at c0;clear ae L;clear ad hx K hi G q;have A:=Ah.new w #[U V 5,U V x.num,Q x.text,X an s cn,X u y z] 134;have j:=AN w (EV 5 x.num x.text an s cn u y z);have B:=J.below j;have af:∃M,M=w.alloc (EV 5 x.num x.text an s cn u y z):=⟨_,rfl⟩
 clear J;generalize x.num=av at*;generalize x.text=d at*;go_enter func103,ntmps103
 go_wp2_with fail
 obtain⟨M,O⟩:=af;rw[<-O]at A j B|-;clear O;refine(GI d _).mono ?_;rintro r ag ⟨rfl,k⟩;have P:=A.after k NLN;have l:=j.trans (k.mono j.size);have g:=B.below k;clear A j B k;dsimp only;obtain⟨ah,ai,aj,ak,al⟩:=Aq P;by_cases h0: 0<=AD d Bm 0
 ·have h:=Ab (show nmR ns ts d= .ok (BL (AD d Bm 0)) by rw[nmR,if_pos h0]);generalize AD d Bm 0=C at h0 h;go_wp2_with fail
  refine(Gy C _).mono ?_;rintro r w2 ⟨rfl,rfl⟩;dsimp only;go_wp2
  exact bodyPost_ret (v:= jJ #[U V (BL C),U V 0]) (by simp[results,results103,go_sem]) rfl ⟨⟨_,_,rfl,.inl ⟨rfl,Aa h⟩⟩,l⟩
 ·have h:=Ab (show nmR ns ts d=if 0<=AD d ns 0 then ofC 7 ts[(AD d ns 0).toNat]? else .error 7 by rw[nmR,if_neg h0]);generalize AD d Bm 0=C at h0;have S:=Ab (Mt p H nn cc ns d ag g.c0 g.lt g.nl g.small g.nms);go_wp2_with fail
  refine(Aa S).mono ?_;rintro r w2 ⟨rfl,D⟩;have W:=l.trans (D.mono l.size);have m:=g.below D;clear S l g P ah ai aj ak al D;dsimp only;have aa:=Mr d ns 0 (by omega);by_cases h1: 0<=AD d ns 0
  ·obtain⟨f,E⟩:∃f:Nat,AD d ns 0=f:=⟨(AD d ns 0).toNat,by omega⟩
   have F:f<ts.length:=by have:=m.same;omega
   have o:=Ab (show nmR ns ts d= .ok ts[f] by rw[Aa h,if_pos h1,E,zb,zL F];rfl);rw[E];clear h E h1 aa;obtain⟨aw,ax,ao,ay,ap⟩:=m.ints.cells f F;have e1:=m.c1;rw[ao]at e1;have az:(f:Int)<(I:Int):=by have:=m.ints.len;omega
   generalize ts[f]=t at ap o;have aA: ¬ ((f:Int)<0):=by omega
   clear F;go_wp2
   exact bodyPost_ret (v:= jJ #[U V t,U V 0]) (by simp[results,results103,go_sem]) rfl ⟨⟨_,_,rfl,.inl ⟨rfl,Aa o⟩⟩,W⟩
  ·have o:=Ab (show nmR ns ts d= .error 7 by rw[Aa h,if_neg h1]);generalize AD d ns 0=f at h1;clear h aa;go_wp2
   exact bodyPost_ret (v:= jJ #[U V 0,U V 7]) (by simp[results,results103,go_sem]) rfl ⟨⟨_,_,rfl,.inr ⟨by decide,Aa o⟩⟩,W⟩
theorem AeL {op:Int}(h: 8<=op/\op<=10)(b:List Dc)(i:Int)(k:Ex):Nx op [cR (BF b k)]=cR (BF b (.un i op k)):=by
 rw[BF];cases BF b k with
 |error f=>rfl
 |ok a=>
  show ofC 9 (nz (CD op [a]))=cR (ofO (9,i) (nz (Ca op [a])));rw[Acw op a h];cases nz (Ca op [a])<;>rfl
theorem Acx {op:Int}(h: 11<=op/\op<=26)(g:∀d∈c,1<=d.typ/\d.typ<=4)(i:Int)(k l:Ex):Nx op [cR (BF c k),cR (BF c l)]=cR (BF c (.bin i op k l)):=by
 rw[BF];have j:=Qs g k;cases hk:BF c k with
 |error f=>rfl
 |ok a=>
  have:=j a hk;cases BF c l with
  |error f=>rfl
  |ok b=>
   show ofC 9 (nz (CD op [a,b]))=cR (ofO (9,i) (nz (Ca op [a,b])));rw[AaF op a b h (by omega)];cases nz (Ca op [a,b])<;>rfl
theorem Acy (g:∀d∈c,1<=d.typ/\d.typ<=4)(i:Int)(k l m:Ex):Nx 27 [cR (BF c k),cR (BF c l),cR (BF c m)]=cR (BF c (.ite i k l m)):=by
 rw[BF];have h:=Qs g l;cases hk:BF c k with
 |error f=>rfl
 |ok a=>
  cases j:BF c l with
  |error f=>rfl
  |ok b=>
   have:=h b j;cases BF c m with
   |error f=>rfl
   |ok d=>
    show ofC 9 (nz (CD 27 [a,b,d]))=cR (ofO (9,i) (nz (Ca 27 [a,b,d])));rw[AaG a b d (by omega)];cases nz (Ca 27 [a,b,d])<;>rfl
theorem VP (a:Option jD)(n c:Nat)(N:List Nd)(J:∀x∈N,FdX x)(r:Nat)(C:Option jD)(nn cc:Nat)(ns:List ByteArray)(z:Option jD)(A B:Nat)(ts:List Int)(H:∀d∈CJ ns ts,1<=d.typ/\d.typ<=4){i:Nat}{e:Ex}(t:Bu N i e):
  ∀w,IY w a n c N->Ltm w r C nn cc ns z A B ts->
  Calls jL 103 #[X a n c,U .i64 i,jH (Y ⟨r,0,T⟩)] w (NdC (cR (BF (CJ ns ts) e)) w):=by
 have D:∀{i:Nat} {x:Nd},N[i]? =Y x->FdX x:=fun hx=>J _ (zu hx);have leaf:∀{i:Nat} {x:Nd},N[i]? =Y x->I6 x.op->x.kids=[]->∀w,IY w a n c N->Calls jL 103 #[X a n c,U .i64 i,jH (Y ⟨r,0,T⟩)] w (NdC (Nx x.op []) w):=fun {i x} hx b hk w h1=>
  Mq a n c N r w h1 i x hx b (VQ b (D hx).1) [] (by rw[hk];rfl) (fun j h=>absurd h (by rw[hk];simp))
 have E:∀{i:Nat} {x:Nd} {os:List Rc},N[i]? =Y x->I6 x.op->∀w,IY w a n c N->Ltm w r C nn cc ns z A B ts->os.length=x.kids.length->
   (∀(j:Nat) (y:Int) (o:Rc),x.kids[j]? =Y y->os[j]? =Y o->∀p,IY p a n c N->Ltm p r C nn cc ns z A B ts->Calls jL 103 #[X a n c,U .i64 y,jH (Y ⟨r,0,T⟩)] p (NdC o p))->
   Calls jL 103 #[X a n c,U .i64 i,jH (Y ⟨r,0,T⟩)] w (NdC (Nx x.op os) w):=fun {i x os} hx b w h1 q hl V=>
  Mq a n c N r w h1 i x hx b (VQ b (D hx).1) os hl (fun j h h' p I=>V j _ _ (zL h) (zL h') p (h1.below I NLN) (q.below I))
 induction t with
 |int h b hk=>intro w h1 _;have:=leaf h (by rw[b];unfold I6;omega) hk w h1;rw[b]at this;exact this
 |text h b hk=>intro w h1 _;have:=leaf h (by rw[b];unfold I6;omega) hk w h1;rw[b]at this;exact this
 |bool h b hk=>intro w h1 _;have:=leaf h (by rw[b];unfold I6;omega) hk w h1;rw[b]at this;exact this
 |set h b hk _ _ _=>intro w h1 _;have:=leaf h (by rw[b];unfold I6;omega) hk w h1;rw[b]at this;exact this
 |@name i x h b hk=>
  intro w h1 q;rw[<-Agd ns ts q.same];exact VO a n c N r w h1 _ _ h b C nn cc ns z A B ts q
 |attr h b hk=>intro w h1 _;exact VR a n c N r w h1 _ _ h b
 |@lett i x h b hk=>
  intro w h1 q;have h0:=(D h).2 b;rw[show cR (BF (CJ ns ts) (.lett i x.num))=ofC 7 ts[x.num.toNat]? by rw[BF,Acv q.same,if_pos h0];cases ts[x.num.toNat]?<;>rfl];exact VS a n c N r w h1 _ _ h b h0 z A B ts q.c1 q.lt q.ints
 |@un i k x e h b hk hi t K=>
  intro w h1 q;rw[<-AeL b];refine E h (by unfold I6;omega) w h1 q (by rw[hk];rfl) (fun j y o hy s p=>?_);rw[hk]at hy
  match j with
  |0=>cases hy;cases s;exact K p
  |j+1=>simp at hy
 |@bin i k l x e f h b hk hi t u F G=>
  intro w h1 q;rw[<-Acx b H];refine E h (by unfold I6;omega) w h1 q (by rw[hk];rfl) (fun j y o hy s p=>?_);rw[hk]at hy
  match j with
  |0=>cases hy;cases s;exact F p
  |1=>cases hy;cases s;exact G p
  |j+2=>simp at hy
 |@ite i k l m x e f g h b hk hi t u v F G L=>
  intro w h1 q;rw[<-Acy H,<-b];refine E h (by unfold I6;omega) w h1 q (by rw[hk];rfl) (fun j y o hy s p=>?_);rw[hk]at hy
  match j with
  |0=>cases hy;cases s;exact F p
  |1=>cases hy;cases s;exact G p
  |2=>cases hy;cases s;exact L p
  |j+3=>simp at hy
set_option maxHeartbeats 3200000
def Ea:Nat->List Rc->Except (Int×Int) (List Int)
 |_,[]=> .ok []
 |f,.error c ::_=> .error (c,f)
 |f,.ok t ::r=>(Ea (f+1) r).map (t :: ·)
theorem Ny {f:Nat}{r:List Rc}{K:List Int}(h:Ea f (.ok t ::r)= .ok K):∃a,Ea (f+1) r= .ok a/\K=t ::a:=by
 rw[Ea]at h;cases b:Ea (f+1) r with
 |error c=>rw[b]at h;cases h
 |ok a=>rw[b]at h;cases h;exact⟨a,rfl,rfl⟩
theorem VT:∀{os:List Rc} {f:Nat} {K:List Int},Ea f os= .ok K->K.length=os.length
 |[],f,K,h=>by cases h;rfl
 |.error c ::_,f,K,h=>by cases h
 |.ok t ::r,f,K,h=>by
  obtain⟨a,h1,rfl⟩:=Ny h;rw[List.length_cons,List.length_cons,VT h1]
def AfS (K:List Int) (f:Nat):Rc->Except (Int×Int) (List Int)
 |.ok t=> .ok (K++[t])
 |.error c=> .error (c,f)
theorem Ts (o:Rc):∀(os:List Rc) (f:Nat) (K:List Int),Ea f os= .ok K->Ea f (os++[o])=AfS K (f+os.length) o
 |[],f,K,h=>by cases h;cases o<;>rfl
 |.error c ::_,f,K,h=>by cases h
 |.ok t ::r,f,K,h=>by
  obtain⟨a,h1,rfl⟩:=Ny h;have e:f+1+r.length=f+(r.length+1):=by omega
  rw[List.cons_append,Ea,Ts o r (f+1) a h1,List.length_cons,e];cases o<;>rfl
theorem Qz (B:List Rc):∀(A:List Rc) (f:Nat),Ea f (A++B)=(Ea f A).bind fun l=>(Ea (f+A.length) B).map (l++ ·)
 |[],f=>by simp only[List.nil_append,Ea,List.length_nil,ze];cases Ea f B<;>rfl
 |.error c ::_,f=>rfl
 |.ok t ::r,f=>by
  have e:f+1+r.length=f+(r.length+1):=by omega
  rw[List.cons_append,Ea,Ea,Qz B r (f+1),List.length_cons,e];cases Ea (f+1) r with
  |error c=>rfl
  |ok l=>
   show Except.map (t :: ·) ((Ea (f+(r.length+1)) B).map (l++ ·))=(Ea (f+(r.length+1)) B).map ((t ::l)++ ·);cases Ea (f+(r.length+1)) B<;>rfl
theorem Yg (os:List Rc)(f:Nat)(k:Nat){c:Int×Int}(h:Ea f (os.take k)= .error c):Ea f os= .error c:=by
 have e:=Qz (os.drop k) (os.take k) f;rw[Z9,h]at e;exact e
def Gi (Es:List Ex) (D:List Dc) (i:Nat):Rc:=match Es[i]? with
 |some e=>cR (BF D e)
 |none=> .error 0
theorem Nms.keep {w':Z}{v':jB}{a:Option jD}{L:List ByteArray}(h:Nms w a L)(k:GZ w v w' v')(f:∀x,a=Y x->Y x.block≠v.ownBlock):Nms w' a L:=fun j g=>by
 obtain⟨b,i,c,d,c0⟩:=h j g;exact⟨b,i,c,zR d k.2.2,(World.cell?_of_block (w:=w) (k.1 b d (f _ c))).trans c0⟩
theorem Ltm.keep {w w':Z}{v v':jB}{a:Nat}{b:Option jD}{nn cc:Nat}{ns:List ByteArray}{c:Option jD}{d f:Nat}{ts:List Int}(h:Ltm w a b nn cc ns c d f ts)(k:GZ w v w' v')(h5:Y a≠v.ownBlock)(g:∀x,c=Y x->Y x.block≠v.ownBlock)(i:∀x,b=Y x->Y x.block≠v.ownBlock):Ltm w' a b nn cc ns c d f ts:=
 ⟨(World.cell?_of_block (w:=w) (k.1 a h.lt h5)).trans h.c0,(World.cell?_of_block (w:=w) (k.1 a h.lt h5)).trans h.c1,zR h.lt k.2.2,h.nms.keep k i,h.nl,h.small,h.ints.keep k g,h.same⟩
def TrX (B:Nat) (tv:jB) (tt:List Int) (o:Except (Int×Int) (List Int)) (w:Z) (r:Ending) (w':Z):Prop:=
 (∃ys v',o= .ok ys/\r= .returned (jJ #[v',jE #[U V 0,U V 0]])/\w'.ownsRow B 3 1 v' (tt++ys).length (Aw (tt++ys))/\GZ w tv w' v'/\Below B w w')\/
 (∃ (f:Int×Int) (v':jB),o= .error f/\r= .returned (jJ #[v',jE #[U V f.1,U V f.2]])/\(v'=X T 0 0\/∃x n c,v'=X x n c)/\f.1≠0/\Below B w w')
theorem VU (a:Option jD)(n c:Nat)(N:List Nd)(ay:∀x∈N,FdX x)(w0:Z)(az:IY w0 a n c N)(B:Nat)(aA:w0.heap.size<=B)(z:Nat)(aa:Option jD)(nn cc:Nat)(ns:List ByteArray)(ab:Option jD)(al ao:Nat)(ts:List Int)(aB:∀d∈CJ ns ts,1<=d.typ/\d.typ<=4)(Es:List Ex)(aX:Es.length=n)(aC:∀j,(h:j<Es.length)->Bu N j Es[j])
  (f m:Nat)(aY:f+m<=n)(aZ: 1<=f+m)(bu:n<=4000)(A:jB)(tt:List Int)(bv:tt.length<=4000)(w:Z)(aD:An w0 w)(y:B<=w.heap.size)(aE:Ltm w z aa nn cc ns ab al ao ts)(h5:Y z≠A.ownBlock)(a0:∀x,ab=Y x->Y x.block≠A.ownBlock)(a1:∀x,aa=Y x->Y x.block≠A.ownBlock)(ac:w.ownsRow B 3 1 A tt.length (Aw tt)):
  Calls jL 75 #[X a n c,U V f,U V ((f+m:Nat)-1 :Int),jH (Y ⟨z,0,T⟩),A] w (TrX B A tt (Ea f ((List.range' f m).map (Gi Es (CJ ns ts)))) w):=by
 obtain⟨a2,a3,a4,a5,a6⟩:=info_parts Mi;obtain⟨ad,ae,rfl,_⟩:=Ae ac;have aF:∀k,k<m->∀s,An w0 s->Ltm s z aa nn cc ns ab al ao ts->Calls jL 103 #[X a n c,U V ((f+k:Nat):Int),jH (Y ⟨z,0,T⟩)] s (NdC (Gi Es (CJ ns ts) (f+k)) s):=fun k hk s a7 a8=>by
  have aG:f+k<Es.length:=by omega
  rw[Gi,zL aG];exact VP a n c N ay z aa nn cc ns ab al ao ts aB (aC (f+k) aG) s (az.below a7 NLN) a8
 have a9:=Ab aF;have ba:=Ab aD;obtain⟨os,H⟩:∃os,os=(List.range' f m).map (Gi Es (CJ ns ts)):=⟨_,rfl⟩
 have bb:=Ab (show ∀k,(h:k<m)->∃C:k<os.length,os[k]=Gi Es (CJ ns ts) (f+k)from fun k h=>⟨by rw[H];simpa using h,by simp[H]⟩);have bc:=Ab (show os.length=m by rw[H];simp);rw[<-H];have af:=Ah.new w #[U V 0,U V 0] 89;have I:=AN w (jC #[U V 0,U V 0] 89);have aH:=ac.alloc (jC #[U V 0,U V 0] 89);have ap:(w.alloc (jC #[U V 0,U V 0] 89)).heap.size=w.heap.size+1:=by simp
 have aI:=aE.below I;have aJ:Y w.heap.size≠(Value.slice ad tt.length ae).ownBlock:=fun e=>by have:=(ac.lt _ e.symm).2;omega
 have aK:∀s v,GZ (w.alloc (jC #[U V 0,U V 0] 89)) (X ad tt.length ae) s v->GZ w (X ad tt.length ae) s v:=fun s v k=>
  ⟨fun j h1 C=>(k.1 j (by omega) C).trans (Below.heap_alloc w _ j h1),fun q J=>by rcases k.2.1 q J with e|e;exact .inl e;right;omega,by have:=k.2.2;omega⟩
 have aL:=Ab aK;clear H aF aC aX aD az ay ac aE aB aK;obtain⟨ag,aq⟩:∃ag:Int,ag=(f+m:Nat)-1:=⟨_,rfl⟩
 rw[<-aq];have aM:=Ab aq;have aN:=Ab (show f+m<=4000 by omega);clear aq aY aZ;go_enter func75,ntmps75
 go_wp2_with fail
 generalize w.alloc (jC #[U V 0,U V 0] 89)=aO at af I aH ap aI aL|-;have bd:=Ab ap;clear ap;go_loopw [4,12] (fun v i wr=>∃ (j b:Nat) (K l:List Int),Hid (j<=m/\b=f+j/\l=tt++K)/\i=U V b/\wr.ownsRow B 3 1 v l.length (Aw l)/\Hid (Ea f (os.take j)= .ok K)/\Below B aO wr/\GZ aO (X ad tt.length ae) wr v) (fun _ i _=>f+m-(intOf i).toNat)
 case atStart=>exact⟨0,f,[],tt,Ab ⟨zE _,rfl,by simp⟩,rfl,aH,Ab rfl,BRN,GZ.refl _ _⟩
 case round=>
  obtain⟨j,b,K,l,o,rfl,ah,ar,ai,L⟩:=hrel;have bw:l.length<=8000:=by have h1:=VT (Aa ar);have C:=Aa o;have bx:=Aa aN;rw[zv]at h1;rw[C.2.2,zB];omega
  have bf:An w0 wr:=((Aa ba).trans (I.mono (zC aA y))).trans (ai.mono aA);have aP:B<=wr.heap.size:=zC (by have:=Aa bd;omega) ai.size;have aj:Ah wr w.heap.size #[U V 0,U V 0] 89:=⟨(L.1 _ af.lt aJ).trans af.out⟩
  by_cases ak:j<m
  ·have bg:(b:Int)<=ag:=by have:=Aa o;have:=Aa aM;omega
   have aQ:=aI.keep L h5 a0 a1;have M:=Ab (Aa a9 j ak wr bf aQ);obtain⟨aR,au⟩:=Aa bb j ak;have D:=Ab (show Ea f (os.take (j+1))=AfS K (f+j) os[j] by rw[zc aR,Ts _ _ _ _ (Aa ar),zv,Nat.min_eq_left (by omega)]);have O:=Ab (show ∀c,os[j]= .error c->Ea f os= .error (c,((f+j:Nat):Int))from fun c e=>Yg os f (j+1) (by rw[Aa D,e];rfl));rw[au]at D O;have aS:=Ab ak;have bz:b<=4000:=by have:=Aa o;have:=Aa aN;omega
   generalize Gi Es (CJ ns ts) (f+j)=bA at M D O au;rw[<-(Aa o).2.1]at M;obtain⟨E,F,rfl,_⟩:=Ae ah;clear aR ak au aQ;go_wp2_with fail
   refine(Aa M).mono ?_;rintro r w2 ⟨⟨ty,t,rfl,bh⟩,G⟩;have aT:=ai.trans (G.mono aP);have aU:=Af ah G NLN;have KB:GZ wr (X E l.length F) w2 (X E l.length F):=⟨fun k h _=>G.block k h,fun q h=> .inl h,G.size⟩
   have P:=L.trans KB;have av:=aj.after G NLN;have bi:B<=w2.heap.size:=zC aP G.size;rcases bh with⟨rfl,rfl⟩|⟨hc,rfl⟩
   ·have bj:=Ab (show Ea f (os.take (j+1))= .ok (K++[ty])from Aa D);clear D O M;dsimp only;go_wp2_with (at_builtin;refine wpList_append_lies _ rfl _ _ 67 rfl B 3 a2 (U V 0) 1 8 underlying67 a3 a4 a5 a6 rfl (by decide) _ _ _ rfl (World.ownsRow.alloc aU _) ⟨w2.heap.size,0,T⟩ 1 1 [U V ty] rfl rfl ?c1 ?c2 (by decide) ?c3 ?c4 ?c5 (w2.heap.size+1) (by simp) ?_)
    case c1=>exact Dr _ _ _ _ (by simp)
    case c2=>intro u hu;simp at hu;subst hu;rfl
    case c3=>unfold maxLen;omega
    case c4=>omega
    case c5=>simp;omega
    intro g cap bB aV aw hat bC;have bk:=P.trans (EQ (n:=l.length+1) (c:=cap) aw hat);have bl:=(aT.alloc bi (jC #[U V ty] 3)).grown aw (by simp;omega) (fun q J=>(aU.lt q J).1);have bm:=Fu aV;clear aw hat aV;go_wp2
    go_roundw
    case rel=>exact⟨j+1,b+1,K++[ty],l++[ty],Ab ⟨Aa aS,by have:=Aa o;omega,by rw[(Aa o).2.2,zJ]⟩,by go_num,bm,bj,bl,bk⟩
    case measure=>have:=Aa aS;have:=Aa o;simp[intOf];omega
   ·have bD:(t !=0)=R:=zp.2 hc;have bn:=Ab (show Ea f os= .error (t,(b:Int)) by rw[(Aa o).2.1];exact Aa O t rfl);have bo:=Ab hc;clear hc D O M;obtain⟨bp,br⟩:=CI av;have bs:=fun j=>av.frozen j;have S:=av.set 0 (U V t);have f1:=fun j=>S.frozen j;dsimp only;have W:=S.set 1 (U V b);have ax:((w2.setCell ⟨w.heap.size,0,T⟩ (U V t)).setCell ⟨w.heap.size,1,T⟩ (U V b)).cell? ⟨w.heap.size,0,T⟩=Y (U V t):=W.cell 0;have s1:((w2.setCell ⟨w.heap.size,0,T⟩ (U V t)).setCell ⟨w.heap.size,1,T⟩ (U V b)).cell? ⟨w.heap.size,1,T⟩=Y (U V b):=W.cell 1;go_wp2_with fail
    refine bodyPost_ret (v:= jJ #[X E l.length F,jE #[U V t,U V b]]) (by simp[results,results75,go_sem,ax,s1]) rfl (.inr ⟨_,_,Aa bn,rfl,.inr ⟨_,_,_,rfl⟩,Aa bo,?_⟩)
    exact(((I.mono y).trans aT).setCell (p:=⟨w.heap.size,0,T⟩) y _).setCell (p:=⟨w.heap.size,1,T⟩) y _
  ·have e:j=m:=by have:=Aa o;omega
   have bg: ¬ ((b:Int)<=ag):=by have:=Aa o;have:=Aa aM;omega
   subst e;have bt:=Ab (show Ea f os= .ok K by rw[<-Aa ar,zf (by rw[Aa bc];exact NLN)]);obtain⟨E,F,rfl,_⟩:=Ae ah;obtain⟨bp,br⟩:=CI aj;have bs:=fun j=>aj.frozen j;have S:=aj.set 0 (U V 0);have f1:=fun j=>S.frozen j;have W:=S.set 1 (U V 0);have ax:((wr.setCell ⟨w.heap.size,0,T⟩ (U V 0)).setCell ⟨w.heap.size,1,T⟩ (U V 0)).cell? ⟨w.heap.size,0,T⟩=Y (U V 0):=W.cell 0;have s1:((wr.setCell ⟨w.heap.size,0,T⟩ (U V 0)).setCell ⟨w.heap.size,1,T⟩ (U V 0)).cell? ⟨w.heap.size,1,T⟩=Y (U V 0):=W.cell 1;have P:=Aa aL _ _ L;have aW:∀q,(Value.slice E l.length F).ownBlock=Y q->q≠w.heap.size:=fun q J e=>by
    subst e;rcases L.2.1 _ J with e2|e2
    ·exact aJ e2.symm
    ·have:=af.lt;omega
   go_wp2_with fail
   refine bodyPost_ret (v:= jJ #[X E l.length F,jE #[U V 0,U V 0]]) (by simp[results,results75,go_sem,ax,s1]) rfl (.inl ⟨K,_,Aa bt,rfl,?_,?_,?_⟩)
   ·rw[<-(Aa o).2.2];exact Ai (Ai ah _ _ aW) _ _ aW
   ·exact⟨fun k h1 C=>((heap_setCell_other _ _ _ _ (by show k≠w.heap.size;omega)).trans (heap_setCell_other _ _ _ _ (by show k≠w.heap.size;omega))).trans (P.1 k h1 C),P.2.1,by have:=P.2.2;simpa using this⟩
   ·exact(((I.mono y).trans ai).setCell (p:=⟨w.heap.size,0,T⟩) y _).setCell (p:=⟨w.heap.size,1,T⟩) y _
def FZ (kd:Int) (nm:ByteArray) (st:Cs) (i:Int) (ot:Rs) (ys:List Int):Except (Int×Int) Cs:=
 if kd=1 then Acq st.1 st.2.1 st.2.2 nm i ot ys else Jw 1 st.1 st.2.1 st.2.2 i ot ys
def OM (st:Cs) (x:Sx):Except (Int×Int) Cs:=match x.cond with
 |none=> .ok st
 |some e=>FZ x.kind x.name st e.pos (BF st.1 e) (Ds st.1 e)
def Il (st:Cs) (x:Sx):Except (Int×Int) Cs:=match x.grant with
 |none=> .ok st
 |some e=>Jw 4 st.1 st.2.1 st.2.2 e.pos (BF st.1 e) (Ds st.1 e)
def AfQ (st:Cs) (x:Sx):Except (Int×Int) Cs:=(OM st x).bind fun s=>Il s x
def Yd:Cs->List Sx->Except (Int×Int) Cs
 |st,[]=> .ok st
 |st,x ::S=>(AfQ st x).bind fun s=>Yd s S
def Wst (st:Cs):Prop:=∀d∈st.1,1<=d.typ/\d.typ<=4
theorem Uw {a:List Dc}{i:Int}{b:Rs}{c:Cs}(h:Acq a ts tt nm i b ys= .ok c):∃t,b= .ok t/\JR a nm=T/\c=(a++[⟨nm,R,ts.length,t⟩],ts++[t],tt++ys):=by
 cases b with
 |error f=>cases h
 |ok t=>
  simp only[Acq]at h;split at h
  ·cases h
  ·rename_i d;cases h;exact⟨t,rfl,by simpa using d,rfl⟩
theorem IL {c:Int}{b:List Dc}{i:Int}{a:Rs}(h:Jw c b ts tt i a ys= .ok st):a= .ok c/\st=(b,ts,tt++ys):=by
 cases a with
 |error f=>cases h
 |ok t=>
  simp only[Jw]at h;split at h
  ·rename_i e;subst e;cases h;exact⟨rfl,rfl⟩
  ·cases h
theorem AaD {a:Cs}(h:OM st x= .ok a):a.2.2.length=st.2.2.length+Bc x.cond/\a.2.1.length<=st.2.1.length+1/\(Wst st->Wst a):=by
 obtain⟨j,g,nm,f,i⟩:=x;cases f with
 |none=>cases h;exact⟨rfl,zh _,id⟩
 |some e=>
  simp only[OM,FZ]at h;have b:=Ew st.1 e;split at h
  ·obtain⟨t,h1,_,rfl⟩:=Uw h;refine⟨by simp[b,Bc],by simp,fun c d hd=>?_⟩;rcases zM.1 hd with hd|hd
   ·exact c d hd
   ·simp at hd;subst hd;exact Qs c e t h1
  ·obtain⟨_,rfl⟩:=IL h;exact⟨by simp[b,Bc],zh _,id⟩
theorem Ye {a:Cs}(h:Il st x= .ok a):a.2.2.length=st.2.2.length+Bc x.grant/\a.2.1=st.2.1/\a.1=st.1:=by
 obtain⟨j,d,nm,f,b⟩:=x;cases b with
 |none=>cases h;exact⟨rfl,rfl,rfl⟩
 |some e=>
  simp only[Il]at h;have c:=Ew st.1 e;obtain⟨_,rfl⟩:=IL h;exact⟨by simp[c,Bc],rfl,rfl⟩
theorem VN:∀{L:List Sx} {st a:Cs},Yd st L= .ok a->a.2.2.length=st.2.2.length+Cn L/\a.2.1.length<=st.2.1.length+L.length/\(Wst st->Wst a)
 |[],st,a,h=>by cases h;exact⟨by simp[Cn],by simp,id⟩
 |x ::L,st,a,h=>by
  rw[Yd,AfQ]at h;cases h1:OM st x with
  |error f=>rw[h1]at h;cases h
  |ok s1=>
   rw[h1]at h
   change ((Il s1 x).bind fun a=>Yd a L)= .ok a at h
   cases b:Il s1 x with
   |error f=>rw[b]at h;cases h
   |ok s2=>
    rw[b]at h;obtain⟨a1,a2,a3⟩:=AaD h1;obtain⟨b1,b2,b3⟩:=Ye b;obtain⟨c1,c2,c3⟩:=VN (show Yd s2 L= .ok a from h);rw[BI];refine⟨by omega,by rw[b2]at c2;simp;omega,fun c=>c3 (by unfold Wst;rw[b3];exact a3 c)⟩
def BV (Es:List Ex) (k:Int):Option Ex:=if k= -1 then T else Es[k.toNat]?
def Nf (Es:List Ex):Nat->List St->List Sx
 |_,[]=> []
 |i,s ::L=>⟨i,s.kind,s.name,BV Es s.cond,BV Es s.grant⟩ ::Nf Es (i+1) L
theorem Ux (Es:List Ex):∀(L:List St) (i:Nat),(Nf Es i L).length=L.length
 |[],i=>rfl
 |s ::L,i=>by rw[Nf,List.length_cons,Ux Es L (i+1),List.length_cons]
theorem Zk (Es:List Ex)(k:Int):Bc (BV Es k)=Bq Es k:=by
 unfold BV Bq;split
 ·rfl
 ·cases Es[k.toNat]?<;>rfl
theorem Uy (Es:List Ex):∀(L:List St) (i:Nat),Cn (Nf Es i L)=Dq Es L
 |[],i=>rfl
 |s ::L,i=>by
  rw[Nf,BI,Uy Es L (i+1),Zk,Zk];simp[Dq]
theorem Zl {Es:List Ex} :∀{L:List St} {i:Nat} {x:Sx},x∈Nf Es i L->∃s∈L,x.cond=BV Es s.cond/\x.grant=BV Es s.grant/\x.kind=s.kind/\x.name=s.name
 |s ::L,i,x,h=>by
  rw[Nf,zT]at h;rcases h with rfl|h
  ·exact⟨s,zS ..,rfl,rfl,rfl,rfl⟩
  ·obtain⟨a,h1,b⟩:=Zl h;exact⟨a,za _ h1,b⟩
 |[],_,_,h=>by cases h
theorem Ia (Es:List Ex):∀(L:List St),(∀s∈L,Bq Es s.cond+Bq Es s.grant=((Ap s).map (Bq Es)).sum)->Dq Es L=((L.flatMap Ap).map (Bq Es)).sum
 |[],_=>rfl
 |s ::L,h=>by
  have a:=Ia Es L (fun x hx=>h x (za _ hx));have h1:=h s (zS ..);have e:Dq Es (s ::L)=Bq Es s.cond+Bq Es s.grant+Dq Es L:=by simp[Dq]
  rw[e,h1,a,zm,zl,List.sum_append]
abbrev CkR:=Except (Int×Int) (List Nd×List St×List Int)
theorem JS {o:Option Int}{g:Int×Int}(h:ofO f o= .error g):g=f:=by
 cases o with
 |none=>cases h;rfl
 |some t=>cases h
theorem Acr:Wst (JE,[],[]):=fun d hd=>by
 simp only[JE,zT,List.not_mem_nil,or_false]at hd;rcases hd with rfl|rfl|rfl|rfl|rfl|rfl<;>decide
def Gp (D:List Dc) (e:Ex):Except (Int×Int) (List Int):=match BF D e with
 |.ok _=> .ok (Ds D e)
 |.error f=> .error f
theorem Bu.ty_oneX {i:Nat}{e:Ex}(t:Bu N i e):∀{f:Ex},Bu N i f->∀ts:List Dc,BF ts e=BF ts f/\Ds ts e=Ds ts f:=by
 induction t with
 |int h d hk=>intro f u ts;rcases u.inv h with⟨o,r⟩|⟨o,r⟩|⟨o,r⟩|⟨o,r⟩|⟨o,r⟩|⟨o,r⟩|⟨o,r⟩|⟨o,r⟩|⟨o,r⟩|⟨o,r⟩<;>first|omega|(subst r;exact⟨rfl,rfl⟩)
 |text h d hk=>intro f u ts;rcases u.inv h with⟨o,r⟩|⟨o,r⟩|⟨o,r⟩|⟨o,r⟩|⟨o,r⟩|⟨o,r⟩|⟨o,r⟩|⟨o,r⟩|⟨o,r⟩|⟨o,r⟩<;>first|omega|(subst r;exact⟨rfl,rfl⟩)
 |bool h d hk=>intro f u ts;rcases u.inv h with⟨o,r⟩|⟨o,r⟩|⟨o,r⟩|⟨o,r⟩|⟨o,r⟩|⟨o,r⟩|⟨o,r⟩|⟨o,r⟩|⟨o,r⟩|⟨o,r⟩<;>first|omega|(subst r;exact⟨rfl,rfl⟩)
 |name h d hk=>intro f u ts;rcases u.inv h with⟨o,r⟩|⟨o,r⟩|⟨o,r⟩|⟨o,r⟩|⟨o,r⟩|⟨o,r⟩|⟨o,r⟩|⟨o,r⟩|⟨o,r⟩|⟨o,r⟩<;>first|omega|(subst r;exact⟨rfl,rfl⟩)
 |attr h d hk=>intro f u ts;rcases u.inv h with⟨o,r⟩|⟨o,r⟩|⟨o,r⟩|⟨o,r⟩|⟨o,r⟩|⟨o,r⟩|⟨o,r⟩|⟨o,r⟩|⟨o,r⟩|⟨o,r⟩<;>first|omega|(subst r;exact⟨rfl,rfl⟩)
 |lett h d hk=>intro f u ts;rcases u.inv h with⟨o,r⟩|⟨o,r⟩|⟨o,r⟩|⟨o,r⟩|⟨o,r⟩|⟨o,r⟩|⟨o,r⟩|⟨o,r⟩|⟨o,r⟩|⟨o,r⟩<;>first|omega|(subst r;exact⟨rfl,rfl⟩)
 |set h d hk a n c=>intro f u ts;rcases u.inv h with⟨o,r⟩|⟨o,r⟩|⟨o,r⟩|⟨o,r⟩|⟨o,r⟩|⟨o,r⟩|⟨o,r⟩|⟨o,r⟩|⟨o,r⟩|⟨o,r⟩<;>first|omega|(obtain⟨_,_,_,r⟩:=r;subst r;exact⟨rfl,rfl⟩)
 |un h d hk hi t x=>
  intro f u ts;rcases u.inv h with⟨o,r⟩|⟨o,r⟩|⟨o,r⟩|⟨o,r⟩|⟨o,r⟩|⟨o,r⟩|⟨o,r⟩|⟨o,w,e',b,g,r⟩|⟨o,r⟩|⟨o,r⟩<;>first|omega|skip
  subst r;rw[hk]at b;obtain rfl:=Int.ofNat.inj (List.cons.inj b).1;obtain⟨j,k⟩:=x g ts;simp only[Ds,BF,j,k,and_self]
 |bin h d hk hi t u l m=>
  intro f v ts;rcases v.inv h with⟨o,r⟩|⟨o,r⟩|⟨o,r⟩|⟨o,r⟩|⟨o,r⟩|⟨o,r⟩|⟨o,r⟩|⟨o,r⟩|⟨o,w,y,e',A,b,g,p,r⟩|⟨o,r⟩<;>first|omega|skip
  subst r;rw[hk]at b;simp only[List.cons.injEq,and_true,Int.natCast_inj]at b;obtain⟨rfl,rfl⟩:=b;obtain⟨j,k⟩:=l g ts;obtain⟨q,s⟩:=m p ts;simp only[Ds,BF,j,k,q,s,and_self]
 |ite h d hk hi t u v l m B=>
  intro f z ts;rcases z.inv h with⟨o,r⟩|⟨o,r⟩|⟨o,r⟩|⟨o,r⟩|⟨o,r⟩|⟨o,r⟩|⟨o,r⟩|⟨o,r⟩|⟨o,r⟩|⟨o,w,y,D,e',A,h',b,g,p,v',r⟩<;>first|omega|skip
  subst r;rw[hk]at b;simp only[List.cons.injEq,and_true,Int.natCast_inj]at b;obtain⟨rfl,rfl,rfl⟩:=b;obtain⟨j,k⟩:=l g ts;obtain⟨q,s⟩:=m p ts;obtain⟨l1,C⟩:=B v' ts;simp only[Ds,BF,j,k,q,s,l1,C,and_self]
def Dt (D:List Dc):List Ex->Except (Int×Int) (List Int)
 |[]=> .ok []
 |e ::r=>(Gp D e).bind fun k=>(Dt D r).map fun l=>k++l
def Acz (N:List Nd):List Nat->List Ex->Prop
 |[],[]=>True
 |q ::qs,e ::es=>Bu N q e/\Acz N qs es
 |_,_=>False
theorem Bu.kidsX {i:Nat}{e:Ex}(t:Bu N i e){x:Nd}(hx:N[i]? =Y x):∃d:List Nat,x.kids=d.map (fun (q:Nat)=>(q:Int))/\Acz N d e.kids:=by
 have same:∀{y:Nd},N[i]? =Y y->y=x:=fun k=>Option.some.inj (k.symm.trans hx);cases t with
 |int h b hk=>obtain rfl:=same h;exact⟨[],hk,trivial⟩
 |text h b hk=>obtain rfl:=same h;exact⟨[],hk,trivial⟩
 |bool h b hk=>obtain rfl:=same h;exact⟨[],hk,trivial⟩
 |set h b hk a n c=>obtain rfl:=same h;exact⟨[],hk,trivial⟩
 |name h b hk=>obtain rfl:=same h;exact⟨[],hk,trivial⟩
 |attr h b hk=>obtain rfl:=same h;exact⟨[],hk,trivial⟩
 |lett h b hk=>obtain rfl:=same h;exact⟨[],hk,trivial⟩
 |@un _ k _ _ h b hk hi t=>obtain rfl:=same h;exact⟨[k],hk,t,trivial⟩
 |@bin _ k l _ _ _ h b hk hi t u=>obtain rfl:=same h;exact⟨[k,l],hk,t,u,trivial⟩
 |@ite _ k l m _ _ _ _ h b hk hi t u v=>obtain rfl:=same h;exact⟨[k,l,m],hk,t,u,v,trivial⟩
theorem AcA (g:List Dc):∀(e:Ex),Gp g e=(Dt g e.kids).bind fun l=>match BF g e with
  |.ok t=> .ok (l++[t])
  |.error f=> .error f
 |.int ..| .text ..| .bool ..| .set ..| .attr .. =>rfl
 |.lett i s=>by
  simp only[Ex.kids,Dt,Gp,Ds];cases h:BF g (.lett i s)<;>rfl
 |.name i s=>by
  simp only[Ex.kids,Dt,Gp,Ds];cases h:BF g (.name i s)<;>rfl
 |.un i op k=>by
  cases h:BF g k with
  |error f=>simp[Ex.kids,Dt,Gp,BF,h,Except.bind]
  |ok a=>
   simp only[Ex.kids,Dt,Gp,Ds,h];cases j:BF g (.un i op k)<;>simp[Except.bind,Except.map,gX]
 |.bin i op l r=>by
  cases h:BF g l with
  |error f=>simp[Ex.kids,Dt,Gp,BF,h,Except.bind]
  |ok a=>
   cases h1:BF g r with
   |error f=>simp[Ex.kids,Dt,Gp,BF,h,h1,Except.bind,Except.map]
   |ok b=>
    simp only[Ex.kids,Dt,Gp,Ds,h,h1];cases j:BF g (.bin i op l r)<;>simp[Except.bind,Except.map,gX]
 |.ite i c t e=>by
  cases h:BF g c with
  |error f=>simp[Ex.kids,Dt,Gp,BF,h,Except.bind]
  |ok a=>
   cases h1:BF g t with
   |error f=>simp[Ex.kids,Dt,Gp,BF,h,h1,Except.bind,Except.map]
   |ok b=>
    cases m:BF g e with
    |error f=>simp[Ex.kids,Dt,Gp,BF,h,h1,m,Except.bind,Except.map]
    |ok d=>
     simp only[Ex.kids,Dt,Gp,Ds,h,h1,m];cases j:BF g (.ite i c t e)<;>simp[Except.bind,Except.map,gX]
theorem Bu.pos {N:List Nd}{i:Nat}{e:Ex}(t:Bu N i e):e.pos=i:=by
 cases t<;>rfl
theorem AaH (c:List Dc):∀(e:Ex) {l:List Int} {f:Int×Int},Dt c e.kids= .ok l->BF c e= .error f->f.2=e.pos
 |.int ..,_,_,_,h=>by cases h
 |.text ..,_,_,_,h=>by cases h
 |.bool ..,_,_,_,h=>by cases h
 |.set ..,_,_,_,h=>by cases h
 |.name i s,_,_,_,h=>by rw[JS h];rfl
 |.attr ..,_,_,_,h=>by cases h
 |.lett i s,_,_,_,h=>by rw[JS h];rfl
 |.un i op k,l,f,hk,h=>by
  simp only[Ex.kids,Dt,Gp]at hk;rw[BF]at h;cases h1:BF c k with
  |error g=>rw[h1]at hk;cases hk
  |ok a=>rw[h1]at h;rw[JS h];rfl
 |.bin i op k m,l,f,hk,h=>by
  simp only[Ex.kids,Dt,Gp]at hk;rw[BF]at h;cases h1:BF c k with
  |error g=>rw[h1]at hk;cases hk
  |ok a=>
   rw[h1]at h hk;cases j:BF c m with
   |error g=>rw[j]at hk;cases hk
   |ok b=>rw[j]at h;rw[JS h];rfl
 |.ite i k m n,l,f,hk,h=>by
  simp only[Ex.kids,Dt,Gp]at hk;rw[BF]at h;cases h1:BF c k with
  |error g=>rw[h1]at hk;cases hk
  |ok a=>
   rw[h1]at h hk;cases j:BF c m with
   |error g=>rw[j]at hk;cases hk
   |ok b=>
    rw[j]at h hk;cases o:BF c n with
    |error g=>rw[o]at hk;cases hk
    |ok d=>rw[o]at h;rw[JS h];rfl
theorem Yh (q:Es.length=N.length)(r:∀j,(h:j<Es.length)->Bu N j Es[j])(ts:List Dc){a b:Nat}{g:List (Nat×Nat)}(h:Ay (N.map Nd.kids) a g b):∀(c:List Ex),Acz N (g.map (fun p=>p.1)) c->Ea a ((List.range' a (b-a)).map (Gi Es ts))=Dt ts c:=by
 induction h with
 |nil a=>
  intro c i
  match c,i with
  |[],_=>simp[Ea,Dt]
 |@cons a t b m g hk d s u v=>
  intro c i
  match c,i with
  |e ::c,⟨he,hr⟩=>
   obtain⟨x,hx,w⟩:∃x,N[t]? =Y x/\x.kids=As m:=by
    rw[zk]at d;cases hx:N[t]? with
    |none=>rw[hx]at d;cases d
    |some x=>rw[hx]at d;exact⟨x,rfl,Option.some.inj d⟩
   obtain⟨y,z,A⟩:=he.kidsX hx;have e1:m.map (fun p=>p.1)=y:=by
    have:=w.symm.trans z;rw[As]at this;have B:=congrArg (List.map Int.toNat) this;simpa[List.map_map,Function.comp_def]using B
   have C:=u e.kids (by rw[e1];exact A);have D:=v c hr;have I:=hk.le;have J:=s.le;have E:List.range' a (b-a)=List.range' a (t-a)++t ::List.range' (t+1) (b-(t+1)):=by
    have e2:b-a=(t-a)+(1+(b-(t+1))):=by omega
    rw[e2,<-List.range'_append_1,<-List.range'_append_1];have e3:a+(t-a)=t:=by omega
    rw[e3];rfl
   have n:t<Es.length:=by rw[q];exact he.lt
   have en:Gi Es ts t=cR (BF ts e):=by
    rw[Gi,zL n];exact congrArg cR ((r t n).ty_oneX he ts).1
   have K:=AcA ts e;have F:a+(List.map (Gi Es ts) (List.range' a (t-a))).length=t:=by simp;omega
   rw[E,zl,List.map_cons,Qz,C,en,F];simp only[Dt];rw[K];cases G:Dt ts e.kids with
   |error f=>rfl
   |ok l=>
    cases H:BF ts e with
    |error f=>
     have hp:=AaH ts e G H;rw[he.pos]at hp;show(Except.error (f.1,(t:Int)):Except (Int×Int) (List Int))= .error f;rw[<-hp]
    |ok o=>
     show(Except.map (l++ ·) ((Ea (t+1) ((List.range' (t+1) (b-(t+1))).map (Gi Es ts))).map (o :: ·)))=(Dt ts c).map fun k=>(l++[o])++k;rw[D];cases Dt ts c<;>simp[Except.map]
theorem JU (m:Es.length=N.length)(g:∀j,(h:j<Es.length)->Bu N j Es[j]){a b:Nat}(f:Ay (N.map Nd.kids) a S b)(n:b<=N.length):a+((As S).map (Bq Es)).sum=b:=by
 have c:∀q∈S,q.1<Es.length:=fun q d=>by have:=(f.lt q d).2;omega
 have i:=Jf f (S.attach.map (fun q=>Es[q.1.1]'(c q.1 q.2))) (by simp) (fun j h1 k=>by
  have:=g (S[j]).1 (c _ (zH h1));simpa using this)
 have e2:(As S).map (Bq Es)=(S.attach.map (fun q=>Es[q.1.1]'(c q.1 q.2))).map Ex.cnt:=by
  apply List.ext_getElem
  ·simp[As]
  ·intro j h1 k;have l:j<S.length:=by simpa[As]using h1
   have d:=c S[j] (zH l);simp only[As,List.getElem_map,List.getElem_attach];exact Jg rfl (zL d)
 rw[e2];exact i
def AcB (Es:List Ex) (f:Nat) (e:Ex):Prop:=∀D,Ea f ((List.range' f e.cnt).map (Gi Es D))=Gp D e
def Ib (Es:List Ex) (c:Nat) (k:Int):Prop:=k= -1\/∃ (mm:Nat) (e:Ex),k=mm/\Es[mm]? =Y e/\c+e.cnt=mm+1/\AcB Es c e
theorem QA (b:Es.length=N.length)(a:∀j,(h:j<Es.length)->Bu N j Es[j])(l:Ay (N.map Nd.kids) 0 S N.length){d m:List Int}{x:Int}(h:As S=d++x ::m):Ib Es ((d.map (Bq Es)).sum) x:=by
 rw[As]at h;obtain⟨u,S2,rfl,h1,n⟩:=List.map_eq_append_iff.1 h;obtain⟨p,v,rfl,o,w⟩:=List.map_eq_cons_iff.1 n;obtain⟨c,q,f⟩:=l.split;have hc:=JU b a q (by have:=f.le;omega);have hp:=(f.lt p (zS ..)).2;have e1:c=(d.map (Bq Es)).sum:=by rw[<-h1];rw[As]at hc;omega
 have g:p.1<Es.length:=by omega
 have i:Ay (N.map Nd.kids) c [p] (p.1+1):=by
  cases f with
  |cons hk r y=>exact .cons hk r (.nil _)
 have s:=JU b a i (by omega);have z:Bq Es (p.1:Nat)=Es[p.1].cnt:=Jg rfl (zL g);have t:c+Es[p.1].cnt=p.1+1:=by
  simp only[As,List.map_cons,List.map_nil,List.sum_cons,List.sum_nil]at s;omega
 rw[<-e1];refine .inr ⟨p.1,Es[p.1],o.symm,zL g,t,fun ts=>?_⟩;have k:=Yh b a ts i [Es[p.1]] ⟨a p.1 g,trivial⟩;rw[show p.1+1-c=Es[p.1].cnt by omega]at k;rw[k,Dt,Dt];cases Gp ts Es[p.1]<;>simp[Except.bind,Except.map]
theorem Mu (h:GJ N L=R):∃S,Ay (N.map Nd.kids) 0 S N.length/\As S=L.flatMap Ap:=by
 simp only[GJ,zD,zG]at h;obtain⟨⟨⟨h1,⟨g,i⟩,j⟩,h5⟩,a⟩:=h;obtain⟨S,d,f⟩:∃S,EK (N.map Nd.kids) N.length [] 0=Y S/\As S=L.flatMap Ap:=by
  rw[GK]at a;cases b:EK (N.map Nd.kids) N.length [] 0 with
  |none=>rw[b]at a;cases a
  |some S=>rw[b]at a;exact⟨S,rfl,of_decide_eq_true a⟩
 obtain⟨c,_⟩:=Dd N.length (.nil 0) (fun p hp=>(by cases hp)) d;rw[zP]at c;exact⟨S,c,f⟩
def noC (L:List St):Prop:=∀s∈L,s.cond= -1\/s.kind≠3
theorem AcC.noC (a:AcC N L):noC L:=fun s hs=>by
 rcases a.stm s hs with q|q|q
 ·right;omega
 ·right;omega
 ·exact .inl q.2
theorem QB (b:noC L)(Es:List Ex):∀s∈L,Bq Es s.cond+Bq Es s.grant=((Ap s).map (Bq Es)).sum:=fun s hs=>by
 have c:Bq Es s.grant=((if s.grant≠-1 then [s.grant]else []).map (Bq Es)).sum:=by
  by_cases g:s.grant= -1
  ·rw[if_neg (fun k=>k g),g];rfl
  ·rw[if_pos g];simp
 rw[Ap,zl,List.sum_append,<-c]
 congr 1
 by_cases a:s.kind=3
 ·rw[if_neg (fun k=>k a)];rcases b s hs with q|q
  ·rw[q];rfl
  ·exact absurd a q
 ·rw[if_pos a];simp
theorem VV (a:noC L)(b:Ay (N.map Nd.kids) 0 S N.length)(c:As S=L.flatMap Ap)(d:Es.length=N.length)(f:∀j,(h:j<Es.length)->Bu N j Es[j]):Dq Es L=N.length:=by
 have h1:=JU d f b NLN;rw[Ia Es L (QB a Es),<-c];omega
theorem Nz (h:GJ N L=R)(a:Es.length=N.length)(b:∀j,(h:j<Es.length)->Bu N j Es[j]):Dq Es L=N.length:=by
 obtain⟨S,c,d⟩:=Mu h;exact VV (QC h).noC c d a b
def LB (Es:List Ex) (L:List St):Prop:=∀k,(h:k<L.length)->Ib Es (Dq Es (L.take k)) L[k].cond/\Ib Es (Dq Es (L.take k)+Bq Es L[k].cond) L[k].grant
theorem QD (b:noC L)(c:Ay (N.map Nd.kids) 0 S N.length)(i:As S=L.flatMap Ap)(d:Es.length=N.length)(f:∀j,(h:j<Es.length)->Bu N j Es[j]):LB Es L:=fun k hk=>by
 have l:L=L.take k++L[k] ::L.drop (k+1):=by rw[List.getElem_cons_drop,Z9]
 have e1:Dq Es (L.take k)=(((L.take k).flatMap Ap).map (Bq Es)).sum:=Ia Es _ (QB (fun s hs=>b s (List.mem_of_mem_take hs)) Es);have e2:As S=(L.take k).flatMap Ap++(Ap L[k]++(L.drop (k+1)).flatMap Ap):=by
  rw[i]
  conv=>lhs;rw[l]
  rw[Z3,zm]
 have hs:=zH hk;generalize L[k]=s at e2 hs|-;have kc:=b s hs;rw[e1];refine⟨?_,?_⟩
 ·rcases kc with q|q
  ·exact .inl q
  ·rw[Ap,if_pos q]at e2;exact QA d f c e2
 ·by_cases g:s.grant= -1
  ·exact .inl g
  ·have m:Ap s=(if s.kind≠3 then [s.cond]else [])++[s.grant]:=by rw[Ap,if_pos g]
   have e3:As S=((L.take k).flatMap Ap++(if s.kind≠3 then [s.cond]else []))++s.grant ::(L.drop (k+1)).flatMap Ap:=by
    rw[e2,m];simp
   have r:=QA d f c e3;have e4:(((L.take k).flatMap Ap++(if s.kind≠3 then [s.cond]else [])).map (Bq Es)).sum=(((L.take k).flatMap Ap).map (Bq Es)).sum+Bq Es s.cond:=by
    rw[zl,List.sum_append]
    congr 1
    by_cases a:s.kind=3
    ·rw[if_neg (fun k=>k a)];rcases kc with q|q
     ·rw[q];rfl
     ·exact absurd a q
    ·rw[if_pos a];simp
   rw[e4]at r;exact r
theorem Tu (h:GJ N L=R)(a:Es.length=N.length)(b:∀j,(h:j<Es.length)->Bu N j Es[j]):LB Es L:=by
 obtain⟨S,c,d⟩:=Mu h;exact QD (QC h).noC c d a b
theorem AaI (a:List Dc):∀(e:Ex),∃l,Ds a e=l++[gX (BF a e)]
 |.int ..| .text ..| .bool ..| .set ..| .name ..| .attr ..| .lett .. =>⟨[],rfl⟩
 |.un _ _ _=>⟨_,rfl⟩
 |.bin _ _ _ _=>⟨_,rfl⟩
 |.ite _ _ _ _=>⟨_,rfl⟩
theorem Zm {a:List Dc}{tt:List Int}{e:Ex}{b:Nat}(h:tt.length+e.cnt=b+1)(d:BF a e= .ok t):(tt++Ds a e)[b]? =Y t:=by
 obtain⟨l,f⟩:=AaI a e;have c:=Ew a e;rw[f]at c|-;rw[zB,zg]at c;rw[<-zJ,z8 (by rw[zB];omega),zB,show b-(tt.length+l.length)=0 by omega,d];rfl
def NdK (x:Nd) (w:Z) (r:Ending) (w':Z):Prop:=(∃u cu k ck,r= .returned (jE #[U V x.op,U V x.num,Q x.text,X u x.names.length cu,X k x.kids.length ck])/\w'.ownsRow w.heap.size 9 1 (X u x.names.length cu) x.names.length (x.names.map Value.string)/\w'.ownsRow w.heap.size 3 1 (X k x.kids.length ck) x.kids.length (Aw x.kids))/\An w w'
theorem Fv {B:Nat}{e:TypeId}{size n:Nat}{a:List jB}(h:w.ownsRow B e size v n a)(b:B'<=B):w.ownsRow B' e size v n a:=by
 refine⟨h.1,?_⟩;rcases h.2 with q|⟨g,cap,c,h1,d,f⟩
 ·exact .inl q
 ·exact .inr ⟨g,cap,c,h1,zC b d,f⟩
theorem Yj (op c:Int)(d:ByteArray)(ns:List ByteArray)(E:List Int)(an:Option jD)(nn cn:Nat)(j:Option jD)(a g:Nat)(w:Z)(ab:AJ w an nn cn ns)(F:Em w j a g E)(hs:nn<=1048576):
  Calls jL 69 #[jE #[U V op,U V c,Q d,X an nn cn,X j a g]] w fun r w'=>(∃u b k g,r= .returned (jE #[U V op,U V c,Q d,X u nn b,X k a g])/\w'.ownsRow w.heap.size 9 1 (X u nn b) nn (ns.map Value.string)/\w'.ownsRow w.heap.size 3 1 (X k a g) a (Aw E))/\An w w':=by
 have aF:=F.small;have G:=((Ah.new w #[U V op,U V c,Q d,X an nn cn,X j a g] 134).alloc (jC #[U V 0,U V 0,Q ⟨#[]⟩,X T 0 0,X T 0 0] 134)).alloc (EV op c d T 0 0 T 0 0);have y:=(Ah.new (w.alloc (EV op c d an nn cn j a g)) #[U V 0,U V 0,Q ⟨#[]⟩,X T 0 0,X T 0 0] 134).alloc (EV op c d T 0 0 T 0 0);have z:=Ah.new ((w.alloc (EV op c d an nn cn j a g)).alloc (jC #[U V 0,U V 0,Q ⟨#[]⟩,X T 0 0,X T 0 0] 134)) #[U V op,U V c,Q d,X T 0 0,X T 0 0] 134;have A:=((AN w (EV op c d an nn cn j a g)).alloc (by simp) (jC #[U V 0,U V 0,Q ⟨#[]⟩,X T 0 0,X T 0 0] 134)).alloc (by simp;omega) (EV op c d T 0 0 T 0 0);simp only[World.size_alloc]at y z;have au:∃H,H=((w.alloc (EV op c d an nn cn j a g)).alloc (jC #[U V 0,U V 0,Q ⟨#[]⟩,X T 0 0,X T 0 0] 134)).alloc (EV op c d T 0 0 T 0 0):=⟨_,rfl⟩
 have I:=ab.below A NLN;have av:=Ab F;clear ab F;go_enter func69,ntmps69
 go_wp2_with (at_builtin;refine KW rfl _ _ rfl _ _ 0 [] rfl (World.ownsRow_nil _ (w.heap.size+1+1+1) _ _) an nn cn ns rfl I (by omega) (by simp) ?_)
 intro aG n B m;obtain⟨H,J⟩:=au;have aH:H.heap.size=w.heap.size+1+1+1:=by rw[J];simp
 rw[<-J]at G y z A I m;clear J;have ac:=G.below m (by omega);have ad:=y.below m (by omega);have K:=z.below m (by omega);have ae:=A.trans (m.mono (by omega));clear G y z A I;obtain⟨f,b,rfl,_⟩:=Ae B;obtain⟨m0,af,ag,ah,ai⟩:=DM K;have aj:=fun k=>K.frozen k;have aI:w.heap.size+1+1+1<=n.heap.size:=by have:=m.size;omega
 have C:=K.set 3 (X f nn b);have L:=ac.setFar (p:=⟨w.heap.size+1+1,3,T⟩) (by show w.heap.size≠w.heap.size+1+1;omega) (X f nn b);have M:=ad.setFar (p:=⟨w.heap.size+1+1,3,T⟩) (by show w.heap.size+1≠w.heap.size+1+1;omega) (X f nn b);have t:=ae.setCell (p:=⟨w.heap.size+1+1,3,T⟩) (by show w.heap.size<=w.heap.size+1+1;omega) (X f nn b);have N:=Ai B ⟨w.heap.size+1+1,3,T⟩ (X f nn b) (fun q l=>by have:=(B.lt q l).1;show q≠w.heap.size+1+1;omega);have ak:=(Aa av).below t NLN;have aw:(n.setCell ⟨w.heap.size+1+1,3,T⟩ (X f nn b)).cell? ⟨w.heap.size,4,T⟩=Y (X j a g):=L.cell 4;have ax:(n.setCell ⟨w.heap.size+1+1,3,T⟩ (X f nn b)).cell? ⟨w.heap.size+1+1,4,T⟩=Y (X T 0 0):=C.cell 4;clear ac ad ae B m;have ay:∃D,D=n.setCell ⟨w.heap.size+1+1,3,T⟩ (X f nn b):=⟨_,rfl⟩
 go_wp2_with (at_builtin;refine Gg rfl _ _ rfl _ _ 0 [] rfl (World.ownsRow_nil _ n.heap.size _ _) j a g E rfl ak (by omega) (by simp) ?_)
 intro aJ aK x o;obtain⟨D,O⟩:=ay;have az:D.heap.size=n.heap.size:=by rw[O];simp
 rw[<-O]at L M C t N o;clear O aw ax m0 af ag ah ai aj ak;rw[<-az]at o x;have al:=M.after o NLN;have ao:=C.after o NLN;have ap:=t.trans (o.mono t.size);have P:=Af N o NLN;obtain⟨h,i,rfl,_⟩:=Ae x;clear L M C t N;obtain⟨m0,af,ag,ah,ai⟩:=DM ao;have aj:=fun k=>ao.frozen k;have S:=al.setFar (p:=⟨w.heap.size+1+1,4,T⟩) (by show w.heap.size+1≠w.heap.size+1+1;omega) (X h a i);have aA:=ap.setCell (p:=⟨w.heap.size+1+1,4,T⟩) (by show w.heap.size<=w.heap.size+1+1;omega) (X h a i);have W:=Ai P ⟨w.heap.size+1+1,4,T⟩ (X h a i) (fun q l=>by have:=(P.lt q l).1;show q≠w.heap.size+1+1;omega);have aa:=Ai x ⟨w.heap.size+1+1,4,T⟩ (X h a i) (fun q l=>by have:=(x.lt q l).1;show q≠w.heap.size+1+1;omega);clear al ap P x;obtain⟨aL,aM,aN,aO,aP⟩:=DM S;have aQ:=fun k=>S.frozen k;have aB:=((((S.set 0 (U V op)).set 1 (U V c)).set 2 (Q d)).set 3 (X f nn b)).set 4 (X h a i);have aC:=((((aA.setCell (p:=⟨w.heap.size+1,0,T⟩) (zh _) (U V op)).setCell (p:=⟨w.heap.size+1,1,T⟩) (zh _) (U V c)).setCell (p:=⟨w.heap.size+1,2,T⟩) (zh _) (Q d)).setCell (p:=⟨w.heap.size+1,3,T⟩) (zh _) (X f nn b)).setCell (p:=⟨w.heap.size+1,4,T⟩) (zh _) (X h a i);have hp:∀q,(Value.slice f nn b).ownBlock=Y q->q≠w.heap.size+1:=fun q l=>by have:=(W.lt q l).1;omega
 have s:∀q,(Value.slice h a i).ownBlock=Y q->q≠w.heap.size+1:=fun q l=>by have:=(aa.lt q l).1;omega
 have aq:=Ai (Ai (Ai (Ai (Ai W ⟨w.heap.size+1,0,T⟩ (U V op) hp) ⟨w.heap.size+1,1,T⟩ (U V c) hp) ⟨w.heap.size+1,2,T⟩ (Q d) hp) ⟨w.heap.size+1,3,T⟩ (X f nn b) hp) ⟨w.heap.size+1,4,T⟩ (X h a i) hp;have ar:=Ai (Ai (Ai (Ai (Ai aa ⟨w.heap.size+1,0,T⟩ (U V op) s) ⟨w.heap.size+1,1,T⟩ (U V c) s) ⟨w.heap.size+1,2,T⟩ (Q d) s) ⟨w.heap.size+1,3,T⟩ (X f nn b) s) ⟨w.heap.size+1,4,T⟩ (X h a i) s;have aD:=Ab (Fv aq (show w.heap.size<=w.heap.size+1+1+1 by omega));have aE:=Ab (Fv ar (show w.heap.size<=D.heap.size by omega));clear aq ar W aa hp s;go_wp2_with fail
 obtain⟨e0,e1,e2,e3,e4⟩:=DM aB;refine bodyPost_ret (v:= jE #[U V op,U V c,Q d,X f nn b,X h a i]) (by simp[results,results69,go_sem,e0,e1,e2,e3,e4]) rfl ⟨⟨f,b,h,i,?_,?_,?_⟩,aC⟩
 ·rfl
 ·exact Aa aD
 ·exact Aa aE
theorem Yk (x:Nd)(an:Option jD)(nn cn:Nat)(a:Option jD)(b c:Nat)(w:Z)(d:AJ w an nn cn x.names)(f:Em w a b c x.kids)(hs:nn<=1048576):
  Calls jL 69 #[jE #[U V x.op,U V x.num,Q x.text,X an nn cn,X a b c]] w (NdK x w):=by
 have h1:=d.len;have g:=f.len;refine(Yj x.op x.num x.text x.names x.kids an nn cn a b c w d f hs).mono ?_;subst h1;subst g;exact fun r w' h=>h
theorem CQ {s:ByteArray}(h:s.size=0):s=⟨#[]⟩:=by
 cases s with
 |mk d=>
  have:d.size=0:=h;rw[Array.eq_empty_of_size_eq_zero this]
theorem TS (w0:Z)(a:Option jD)(n c:Nat)(N:List Nd)(y:IY w0 a n c N)(z:NmQ w0 a N)(E:∀x∈N,Bb x=R){i:Nat}{e:Ex}(t:Bu N i e):∀w,An w0 w->Calls jL 53 #[X a n c,U V i] w (XB w0 e w):=by
 have leaf:∀{i:Nat} {x:Nd} {e:Ex},N[i]? =Y x->x.kids=[]->Rx x.op x.num x.text x.names [] e->∀w,An w0 w->Calls jL 53 #[X a n c,U V i] w (XB w0 e w):=fun {i x e} h hk hf w o=>Jq w0 a n c N y z w o i x h [] (by rw[hk];rfl) e hf (fun j h1=>absurd h1 (by rw[hk];simp));have fld:∀{i:Nat} {x:Nd},N[i]? =Y x->Jc x=R:=fun h=>by
  have:=E _ (zu h);rw[Bb,zD]at this;exact this.2
 have A:∀{i:Nat} {x:Nd},N[i]? =Y x->8<=x.op->x.num=0/\x.text=⟨#[]⟩/\x.names=[]:=fun {i x} h d=>by
  have b:=fld h;rw[Jc,if_neg (by omega),if_neg (by omega),if_neg (by omega),U8,if_neg (by omega),if_neg (by omega),if_neg (by omega),if_neg (by omega),if_neg (by omega),if_neg (by omega)]at b;simp only[zD,zG]at b;exact⟨b.1.1,CQ b.1.2,zj b.2⟩
 have s:∀{x:Nd} {op num:Int} {text:ByteArray} {ss:List ByteArray},op=x.op->num=x.num->text=x.text->ss=x.names->(⟨op,num,text,ss,[]⟩:Nd)=⟨x.op,x.num,x.text,x.names,[]⟩:=fun h1 r F G=>by rw[h1,r,F,G]
 induction t with
 |@int i x h d hk=>
  have b:=fld h;rw[Jc,if_neg (by omega),if_neg (by omega),if_pos (.inr d)]at b;simp only[zD,zG]at b;exact leaf h hk (.leaf _ rfl (s d.symm rfl (CQ b.1).symm (zj b.2).symm))
 |@text i x h d hk=>
  have b:=fld h;rw[Jc,if_neg (by omega),if_neg (by omega),if_neg (by omega),U8,if_neg (by omega),if_pos d]at b;simp only[zD,zG]at b;exact leaf h hk (.leaf _ rfl (s d.symm b.1.2.symm rfl (zj b.2).symm))
 |@bool i x h d hk=>
  have b:=fld h;rw[Jc,if_neg (by omega),if_neg (by omega),if_neg (by omega),U8,if_neg (by omega),if_neg (by omega),if_pos d]at b;simp only[zD,zG]at b;have H:(if decide (x.num=1)=R then (1 :Int)else 0)=x.num:=by
   rcases b.1.1 with e|e<;>rw[e]<;>rfl
  exact leaf h hk (.leaf _ rfl (s d.symm H (CQ b.1.2).symm (zj b.2).symm))
 |@set i x h d hk a n c=>
  have b:=fld h;rw[Jc,if_neg (by omega),if_neg (by omega),if_neg (by omega),U8,if_neg (by omega),if_neg (by omega),if_neg (by omega),if_pos d]at b;simp only[zD,zG]at b;exact leaf h hk (.leaf _ rfl (s d.symm b.1.2.symm (CQ b.2).symm rfl))
 |name h d hk=>
  have b:=fld h;rw[Jc,if_pos d]at b;cases b
 |@attr i x h d hk=>
  have b:=fld h;rw[Jc,if_neg (by omega),if_pos d]at b;simp only[zD,zG]at b;exact leaf h hk (.leaf _ rfl (s d.symm rfl (CQ b.1.2).symm (zj b.2).symm))
 |@lett i x h d hk=>
  have b:=fld h;rw[Jc,if_neg (by omega),if_neg (by omega),if_pos (.inl d)]at b;simp only[zD,zG]at b;exact leaf h hk (.leaf _ rfl (s d.symm rfl (CQ b.1).symm (zj b.2).symm))
 |@un i k x e h d hk hi t I=>
  intro w o;refine Jq w0 a n c N y z w o i x h [e] (by rw[hk];rfl) _ (.un _ _ (A h (by omega))) (fun j h1 r p q=>?_);obtain rfl:j=0:=by simpa using r
  have e1:x.kids[0]=(k:Int):=by simp[hk]
  rw[e1];exact I p (o.trans (q.mono o.size))
 |@bin i k l x e f h d hk hi t u B C=>
  intro w o;refine Jq w0 a n c N y z w o i x h [e,f] (by rw[hk];rfl) _ (.bin _ _ _ (A h (by omega))) (fun j h1 r p q=>?_);have D:j=0\/j=1:=by simp at r;omega
  rcases D with rfl|rfl
  ·have e1:x.kids[0]=(k:Int):=by simp[hk]
   rw[e1];exact B p (o.trans (q.mono o.size))
  ·have e1:x.kids[1]=(l:Int):=by simp[hk]
   rw[e1];exact C p (o.trans (q.mono o.size))
 |@ite i k l m x e f g h d hk hi t u v B C J=>
  intro w o;refine Jq w0 a n c N y z w o i x h [e,f,g] (by rw[hk];rfl) _ (.ite _ _ _ _ d (A h (by omega))) (fun j h1 r p q=>?_);have D:j=0\/j=1\/j=2:=by simp at r;omega
  rcases D with rfl|rfl|rfl
  ·have e1:x.kids[0]=(k:Int):=by simp[hk]
   rw[e1];exact B p (o.trans (q.mono o.size))
  ·have e1:x.kids[1]=(l:Int):=by simp[hk]
   rw[e1];exact C p (o.trans (q.mono o.size))
  ·have e1:x.kids[2]=(m:Int):=by simp[hk]
   rw[e1];exact J p (o.trans (q.mono o.size))
noncomputable def Lo:List Ex->List Sx->List (Sx×Int)
 |_,[]=> []
 |ls,x ::Xx=>
  if x.kind=1 then (Ga ls x,(ls.length:Int)) ::Lo (SL ls (Ga ls x)) Xx
  else if x.kind=2/\La jA (Ga ls x).cond=R then Lo ls Xx
  else if x.kind=2/\La R (Ga ls x).cond=R then [(⟨x.at',3,⟨#[]⟩,T,(Ga ls x).grant⟩,0)]
  else if x.kind=3 then [(Ga ls x,0)]
  else (Ga ls x,0) ::Lo ls Xx
def Rn:Int->List Sx->List (Sx×Int)
 |_,[]=> []
 |n,x ::Xx=>if x.kind=1 then (x,n) ::Rn (n+1) Xx else (x,0) ::Rn n Xx
def Afe:List Sx->Prop
 |[]=>True
 |x ::Xx=>(x.kind=3->Xx=[])/\Afe Xx
theorem Rp:∀(a:List Sx) (ls:List Ex),Afe a->Lo ls a=Rn ls.length (Ee (DT ls a))
 |[],_,_=>rfl
 |x ::a,ls,h=>by
  have hk:(Ga ls x).kind=x.kind:=rfl;rw[Lo,DT,Ee,hk];by_cases h1:x.kind=1
  ·rw[if_pos h1,if_neg (by omega),if_neg (by omega),Rn,if_pos (show(Ga ls x).kind=1 from h1),Rp a _ h.2];have:(SL ls (Ga ls x)).length=ls.length+1:=by rw[SL,if_pos (show(Ga ls x).kind=1 from h1)];simp
   rw[this];simp
  ·have b:SL ls (Ga ls x)=ls:=by rw[SL,if_neg (show(Ga ls x).kind≠1 from h1)]
   rw[if_neg h1,b];split
   ·exact Rp a ls h.2
   ·split
    ·rw[Rn,if_neg (show ¬ (3 :Int)=1 by decide),Rn];rfl
    ·rw[Rn,if_neg (show(Ga ls x).kind≠1 from h1),<-Rp a ls h.2];split
     ·rename_i c;rw[h.1 c,Lo]
     ·rfl
def Lb:List (Sx×Int)->List (Sx×Int)
 |[]=> []
 |q ::D=>if q.1.kind=1/\((Lb D).any fun r=>usS q.2 r.1)=jA/\JB q.1.cond=R then Lb D else q ::Lb D
def IT (q:Sx×Int):Sx×Int:=if q.1.kind=1 then q else (q.1,0)
theorem UI:∀(a:List Sx) (n:Int),Lb (Rn n a)=(G3 n a).map IT
 |[],_=>rfl
 |x ::a,n=>by
  rw[Rn,G3];have b:∀(m:Int) (K:List (Sx×Int)),((K.map IT).any fun r=>usS m r.1)=K.any fun r=>usS m r.1:=fun m K=>by
   rw[List.any_map]
   congr 1
   funext q
   show usS m (IT q).1=usS m q.1;unfold IT;split<;>rfl
  by_cases h1:x.kind=1
  ·rw[if_pos h1,if_pos h1,Lb,UI a (n+1),b];cases hu:(G3 (n+1) a).any fun q=>usS n q.1 with
   |true=>simp[IT,h1]
   |false=>
    cases hs:JB x.cond with
    |true=>simp[h1]
    |false=>simp[IT,h1]
  ·rw[if_neg h1,if_neg h1,Lb,if_neg (fun e=>h1 e.1),UI a n];simp[IT,h1]
theorem Adr (K:List (Sx×Int)):Dp (K.map IT)=Dp K:=by
 unfold Dp;rw[List.filter_map];have e1:(K.filter ((fun q=>decide (q.1.kind=1)) ∘ IT))=K.filter fun q=>decide (q.1.kind=1):=by
  congr 1
  funext q
  show decide ((IT q).1.kind=1)=decide (q.1.kind=1);unfold IT;split<;>rfl
 rw[e1,z7];refine List.map_congr_left (fun q a=>?_);have:=of_decide_eq_true (List.mem_filter.1 a).2;show(IT q).2=q.2;rw[IT,if_pos this]
theorem Aff (K:List (Sx×Int)):(K.map IT).map Prod.fst=K.map Prod.fst:=by
 rw[z7];refine List.map_congr_left (fun q _=>?_);show(IT q).1=q.1;unfold IT;split<;>rfl
theorem Aa6 (X:List Sx)(h:Afe X):DE X=((Lb (Lo [] X)).map Prod.fst).map (PI (Dp (Lb (Lo [] X)))):=by
 have e:Lb (Lo [] X)=(G3 0 (Ee (DT [] X))).map IT:=by rw[Rp X [] h];exact UI _ 0
 rw[e,Adr,Aff,DE,YD,z7];rfl
structure Nh (X:List Sx) (j:Nat) (ls:List Ex) (D:List (Sx×Int)) (ts:List Int):Prop where
 eq:D++Lo ls (X.drop j)=Lo [] X
 ty:Mg ts (X.drop j)
 lt:Ki ts ls
 len:ls.length=ts.length
 ok:∀c∈ls,Ix c
 ops:∀c∈ls,Bi c=R
 sm:ls.length<=j
 sd:D.length<=j
theorem Nh.start (X:List Sx)(h:Mg [] X):Nh X 0 [] [] []:=
 ⟨rfl,h,fun n c hc=>by simp at hc,rfl,fun c hc=>(by cases hc),fun c hc=>(by cases hc),NLN,NLN⟩
theorem Nh.kinds {X:List Sx}{ls:List Ex}(h:Nh X j ls a ts)(hx:X[j]? =Y x):
  (x.kind=1/\∃e t,x.cond=Y e/\AE ts e=Y t/\x.grant=T/\Mg (ts++[t]) (X.drop (j+1)))\/(x.kind=2/\(∃e,x.cond=Y e/\AE ts e=Y 1)/\tyG ts x.grant/\Mg ts (X.drop (j+1)))\/(x.kind=3/\x.cond=T/\tyG ts x.grant/\Mg ts (X.drop (j+1))):=by
 obtain⟨b,hx⟩:=zZ.1 hx;have:=h.ty;rw[Z4 b,hx]at this;exact this
theorem Nh.drop {X:List Sx}{j:Nat}{x:Sx}(hx:X[j]? =Y x):X.drop j=x ::X.drop (j+1):=by
 obtain⟨a,hx⟩:=zZ.1 hx;rw[Z4 a,hx]
theorem Nh.lett {X:List Sx}{ls:List Ex}(h:Nh X j ls a ts)(hx:X[j]? =Y x)(hk:x.kind=1){e:Ex}(hc:x.cond=Y e)(d:AE ts e=Y t)(f:Mg (ts++[t]) (X.drop (j+1)))(g:Ix e):
  Nh X (j+1) (ls++[AX ls e]) (a++[(Ga ls x,(ls.length:Int))]) (ts++[t]):=by
 have b:=DR h.lt e t d;have i:SL ls (Ga ls x)=ls++[AX ls e]:=by rw[SL,if_pos (show(Ga ls x).kind=1 from hk)];simp[Ga,hc]
 refine⟨?_,f,h.lt.snoc h.len b,by simp[h.len],fun c hm=>?_,fun c hm=>?_,by simp;exact h.sm,by simp;exact h.sd⟩
 ·rw[<-h.eq,Nh.drop hx,Lo,if_pos hk,i];simp
 ·rcases zM.1 hm with q|q
  ·exact h.ok c q
  ·rw[zO.1 q];exact GQ h.ok e g
 ·rcases zM.1 hm with q|q
  ·exact h.ops c q
  ·rw[zO.1 q];exact Cv _ _ b
theorem Nh.skip {X:List Sx}{ls:List Ex}(h:Nh X j ls a ts)(hx:X[j]? =Y x)(hk:x.kind=2)(b:Mg ts (X.drop (j+1)))(c:La jA (Ga ls x).cond=R):Nh X (j+1) ls a ts:=by
 refine⟨?_,b,h.lt,h.len,h.ok,h.ops,Nat.le_succ_of_le h.sm,Nat.le_succ_of_le h.sd⟩;rw[<-h.eq,Nh.drop hx,Lo,if_neg (by omega),if_pos ⟨hk,c⟩]
theorem Nh.tru {X:List Sx}{ls:List Ex}(h:Nh X j ls a ts)(hx:X[j]? =Y x)(hk:x.kind=2)(b:La jA (Ga ls x).cond=jA)(c:La R (Ga ls x).cond=R):a++[(⟨x.at',3,⟨#[]⟩,T,(Ga ls x).grant⟩,0)]=Lo [] X:=by
 rw[<-h.eq,Nh.drop hx,Lo,if_neg (by omega),if_neg (fun e=>by rw[b]at e;cases e.2),if_pos ⟨hk,c⟩]
theorem Nh.when {X:List Sx}{ls:List Ex}(h:Nh X j ls a ts)(hx:X[j]? =Y x)(hk:x.kind=2)(b:Mg ts (X.drop (j+1)))(c:La jA (Ga ls x).cond=jA)(d:La R (Ga ls x).cond=jA):Nh X (j+1) ls (a++[(Ga ls x,0)]) ts:=by
 refine⟨?_,b,h.lt,h.len,h.ok,h.ops,Nat.le_succ_of_le h.sm,by simp;exact h.sd⟩;rw[<-h.eq,Nh.drop hx,Lo,if_neg (by omega),if_neg (fun e=>by rw[c]at e;cases e.2),if_neg (fun e=>by rw[d]at e;cases e.2),if_neg (by omega)];simp
theorem Nh.els {X:List Sx}{ls:List Ex}(h:Nh X j ls a ts)(hx:X[j]? =Y x)(hk:x.kind=3):a++[(Ga ls x,0)]=Lo [] X:=by
 rw[<-h.eq,Nh.drop hx,Lo,if_neg (by omega),if_neg (by omega),if_neg (by omega),if_pos hk]
theorem Nh.fin {X:List Sx}{ls:List Ex}(h:Nh X j ls a ts)(b:X.length<=j):a=Lo [] X:=by
 rw[<-h.eq,List.drop_eq_nil_of_le b,Lo,zd]
end Go.Proofs.YtppafecmccdplaaGreat
