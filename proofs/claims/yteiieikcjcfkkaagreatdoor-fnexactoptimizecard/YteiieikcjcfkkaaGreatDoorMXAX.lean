import Derived.Test.YteiieikcjcfkkaaGreatDoorMXAU
import Derived.Test.YteiieikcjcfkkaaGreatDoorMXBA
open Go.Proofs.Tryz
open Option renaming none->T,some->X
open Go.Value renaming int->U,slice->Y,string->Q
open Go.IntKind renaming i64->V
open Go renaming World->Z,Value->R,heap_setCell_other->jc
open Go.Obj renaming cells->jF
open And renaming intro->jS
open Go.Proofs.Tryz renaming prog->j4
namespace Go.Proofs.YteiieikcjcfkkaaGreatDoor
open Go.RowKit
set_option linter.unusedVariables false
variable {N A B:List Nd}{d:List R}{b k:Nat}{v:R}{w:Z}
def mx (a b:Int):Int:=if a<b then b else a
def Bl:Ex->Int
 |.un _ _ k=>mx 0 (Bl k)+1
 |.bin _ _ l r=>mx (mx 0 (Bl l)) (Bl r)+1
 |.ite _ c t e=>mx (mx (mx 0 (Bl c)) (Bl t)) (Bl e)+1
 |_=>1
def dpO:Option Ex->Int
 |none=>0
 |some e=>Bl e
theorem Eh (a b:Int):a<=mx a b/\b<=mx a b/\(mx a b=a\/mx a b=b):=by unfold mx;split<;>omega
theorem CH:∀(e:Ex),1<=Bl e/\Bl e<=(e.cnt:Int)
 |.int .. =>by simp[Bl,Ex.cnt]
 |.text .. =>by simp[Bl,Ex.cnt]
 |.bool .. =>by simp[Bl,Ex.cnt]
 |.set .. =>by simp[Bl,Ex.cnt]
 |.name .. =>by simp[Bl,Ex.cnt]
 |.attr .. =>by simp[Bl,Ex.cnt]
 |.lett .. =>by simp[Bl,Ex.cnt]
 |.un _ _ k=>by
  have h1:=CH k;have a:=Eh 0 (Bl k);simp only[Bl,Ex.cnt];omega
 |.bin _ _ l b=>by
  have h1:=CH l;have h2:=CH b;have a:=Eh 0 (Bl l);have d:=Eh (mx 0 (Bl l)) (Bl b);simp only[Bl,Ex.cnt];omega
 |.ite _ c t e=>by
  have h1:=CH c;have h2:=CH t;have h3:=CH e;have a:=Eh 0 (Bl c);have d:=Eh (mx 0 (Bl c)) (Bl t);have f:=Eh (mx (mx 0 (Bl c)) (Bl t)) (Bl e);simp only[Bl,Ex.cnt];omega
theorem Ex.cnt1:∀(e:Ex),1<=e.cnt
 |.un .. =>by simp[Ex.cnt]
 |.bin .. =>by simp[Ex.cnt]
 |.ite .. =>by simp[Ex.cnt]
 |.int .. =>by simp[Ex.cnt]
 |.text .. =>by simp[Ex.cnt]
 |.bool .. =>by simp[Ex.cnt]
 |.set .. =>by simp[Ex.cnt]
 |.name .. =>by simp[Ex.cnt]
 |.attr .. =>by simp[Ex.cnt]
 |.lett .. =>by simp[Ex.cnt]
def FZ (N:List Nd) (b:Nat) (M:List Nd):Prop:=∀j x,M[j]? =X x->N[b+j]? =X x
theorem FZ.left (h:FZ N b (A++B)):FZ N b A:=fun j x hx=>h j x (by
 have:=(zd.1 hx).1;rw[Z5 this];exact hx)
theorem FZ.right (h:FZ N b (A++B))(a:A.length=k):FZ N (b+k) B:=fun j x hx=>by
 have:=h (k+j) x (by rw[yL (by omega),<-a];rw[show A.length+j-A.length=j by omega];exact hx);rw[show b+k+j=b+(k+j) by omega];exact this
theorem FZ.one {x:Nd}(h:FZ N b [x]):(N.map Nd.kids)[b]? =X x.kids:=by
 have:=h 0 x rfl;rw[zX]at this;rw[zZ,this];rfl
theorem mxN {a b:Int}(c: 0<=a)(d: 0<=b):(mx a b).toNat=max a.toNat b.toNat:=by unfold mx;split<;>omega
theorem EI:∀(e:Ex) (N:List Nd) (b:Nat),FZ N b (DC e b)->Au (N.map Nd.kids) b [(b+e.cnt-1,(Bl e).toNat)] (b+e.cnt)
 |.un i op k,N,b,h=>by
  rw[DC]at h;have h1:=EI k N b h.left;have h2:=(h.right (Ax k b)).one;have c1:=k.cnt1;have d1:=(CH k).1;have:=Au.cons h1 (show(N.map Nd.kids)[b+k.cnt]? =X (Am [(b+k.cnt-1,(Bl k).toNat)])from h2) (.nil _);have e1:(Bl (.un i op k)).toNat=DP [(b+k.cnt-1,(Bl k).toNat)]+1:=by
   rw[Bl];have:=mxN (Z6 0) (show 0<=Bl k by omega);simp[DP];have:=(Eh 0 (Bl k));omega
  rw[e1,Ex.cnt];exact this
 |.bin i op l r,N,b,h=>by
  rw[DC]at h;have h1:=EI l N b h.left.left;have h2:=EI r N (b+l.cnt) (h.left.right (Ax l b));have h3:=(h.right (k:=l.cnt+r.cnt) (by rw[zC,Ax,Ax])).one;have c1:=l.cnt1;have c2:=r.cnt1;have d1:=(CH l).1;have d2:=(CH r).1;rw[<-Z4]at h3;have:=Au.cons (h1.join h2) (show(N.map Nd.kids)[b+l.cnt+r.cnt]? =X (Am [(b+l.cnt-1,(Bl l).toNat),(b+l.cnt+r.cnt-1,(Bl r).toNat)])from h3) (.nil _);have e1:(Bl (.bin i op l r)).toNat=DP [(b+l.cnt-1,(Bl l).toNat),(b+l.cnt+r.cnt-1,(Bl r).toNat)]+1:=by
   rw[Bl];have a1:=Eh 0 (Bl l);have a2:=Eh (mx 0 (Bl l)) (Bl r);simp[DP];omega
  rw[e1,Ex.cnt,show b+(l.cnt+r.cnt+1)-1=b+l.cnt+r.cnt by omega,show b+(l.cnt+r.cnt+1)=b+l.cnt+r.cnt+1 by omega];exact this
 |.ite i c t e,N,b,h=>by
  rw[DC]at h;have h1:=EI c N b h.left.left.left;have h2:=EI t N (b+c.cnt) (h.left.left.right (Ax c b));have h3:=EI e N (b+c.cnt+t.cnt) (by have:=h.left.right (k:=c.cnt+t.cnt) (by rw[zC,Ax,Ax]);rw[<-Z4]at this;exact this);have h4:=(h.right (k:=c.cnt+t.cnt+e.cnt) (by rw[zC,zC,Ax,Ax,Ax])).one;have c1:=c.cnt1;have c2:=t.cnt1;have c3:=e.cnt1;have d1:=(CH c).1;have d2:=(CH t).1;have d3:=(CH e).1;rw[show b+(c.cnt+t.cnt+e.cnt)=b+c.cnt+t.cnt+e.cnt by omega]at h4;have:=Au.cons ((h1.join h2).join h3) (show(N.map Nd.kids)[b+c.cnt+t.cnt+e.cnt]? =X (Am [(b+c.cnt-1,(Bl c).toNat),(b+c.cnt+t.cnt-1,(Bl t).toNat),(b+c.cnt+t.cnt+e.cnt-1,(Bl e).toNat)])from h4) (.nil _);have e1:(Bl (.ite i c t e)).toNat=DP [(b+c.cnt-1,(Bl c).toNat),(b+c.cnt+t.cnt-1,(Bl t).toNat),(b+c.cnt+t.cnt+e.cnt-1,(Bl e).toNat)]+1:=by
   rw[Bl];have a1:=Eh 0 (Bl c);have a2:=Eh (mx 0 (Bl c)) (Bl t);have a3:=Eh (mx (mx 0 (Bl c)) (Bl t)) (Bl e);simp[DP];omega
  rw[e1,Ex.cnt,show b+(c.cnt+t.cnt+e.cnt+1)-1=b+c.cnt+t.cnt+e.cnt by omega,show b+(c.cnt+t.cnt+e.cnt+1)=b+c.cnt+t.cnt+e.cnt+1 by omega];exact this
 |.int i n,N,b,h=>Au.cons (.nil b) (show(N.map Nd.kids)[b]? =X (Am [])from h.one) (.nil _)
 |.text i s,N,b,h=>Au.cons (.nil b) (show(N.map Nd.kids)[b]? =X (Am [])from h.one) (.nil _)
 |.bool i v,N,b,h=>Au.cons (.nil b) (show(N.map Nd.kids)[b]? =X (Am [])from h.one) (.nil _)
 |.set i a n c ss,N,b,h=>Au.cons (.nil b) (show(N.map Nd.kids)[b]? =X (Am [])from h.one) (.nil _)
 |.name i s,N,b,h=>Au.cons (.nil b) (show(N.map Nd.kids)[b]? =X (Am [])from h.one) (.nil _)
 |.attr i n,N,b,h=>Au.cons (.nil b) (show(N.map Nd.kids)[b]? =X (Am [])from h.one) (.nil _)
 |.lett i n,N,b,h=>Au.cons (.nil b) (show(N.map Nd.kids)[b]? =X (Am [])from h.one) (.nil _)
theorem PK (o:Option Ex)(N:List Nd)(b:Nat)(h:FZ N b (Kk o b))(c:dpO o<=64):∃a,Au (N.map Nd.kids) b a (b+AF o)/\Am a=(if o.isSome then [GD o b]else [])/\∀p∈a,p.2<=64:=by
 cases o with
 |none=>exact⟨[],.nil _,rfl,fun p hp=>by cases hp⟩
 |some e=>
  refine⟨_,EI e N b h,?_,fun p hp=>?_⟩
  ·simp[Am,GD]
  ·rw[zS.1 hp];have:Bl e<=64:=c;show(Bl e).toNat<=64;omega
theorem PM (N:List Nd):∀(S:List Sx) (b:Nat),FZ N b (AM b S)->(∀x∈S,dpO x.cond<=64/\dpO x.grant<=64/\(x.kind=3↔x.cond=T))->∃a,Au (N.map Nd.kids) b a (b+Bu S)/\Am a=(BK b S).flatMap Aj/\∀p∈a,p.2<=64
 |[],b,_,_=>⟨[],.nil _,rfl,fun p hp=>by cases hp⟩
 |x ::S,b,h,hx=>by
  rw[AM]at h;have l1:(Kk x.cond b).length=AF x.cond:=by cases x.cond<;>simp[Kk,AF,Ax]
  have d:(Kk x.grant (b+AF x.cond)).length=AF x.grant:=by cases x.grant<;>simp[Kk,AF,Ax]
  obtain⟨f,g,c⟩:=hx x (za ..);obtain⟨i,g1,j,d1⟩:=PK x.cond N b h.left.left f;obtain⟨l,g2,m,d2⟩:=PK x.grant N (b+AF x.cond) (h.left.right l1) g;obtain⟨n,g3,o,d3⟩:=PM N S (b+AF x.cond+AF x.grant) (by have:=h.right (k:=AF x.cond+AF x.grant) (by rw[zC,l1,d]);rw[<-Z4]at this;exact this) (fun y hy=>hx y (zf _ hy));refine⟨i++l++n,?_,?_,fun p hp=>?_⟩
  ·have:=(g1.join g2).join g3;rw[A4,<-Z4,<-Z4];exact this
  ·rw[BK,zi,<-o];have e0:∀A B:List (Nat×Nat),Am (A++B)=Am A++Am B:=fun A B=>by simp[Am]
   rw[e0,e0,j,m]
   congr 1
   rw[Aj]
   congr 1
   ·cases hc:x.cond with
    |none=>simp[c.2 hc]
    |some e=>
     have h3:x.kind≠3:=fun h3=>by rw[c.1 h3]at hc;cases hc
     simp[h3]
   ·cases hc:x.grant with
    |none=>simp[GD]
    |some e=>simp[GD]
  ·rcases zN.1 hp with hp|hp
   ·rcases zN.1 hp with hp|hp
    ·exact d1 p hp
    ·exact d2 p hp
   ·exact d3 p hp
set_option maxRecDepth 100000
set_option maxHeartbeats 3200000
theorem AaC:(j4.info? 53).map (fun i=>(i.zero,i.size,i.bytes))=X (X (.agg #[U V 0,Q ByteArray.empty,U V 0,U V 0]),4,40):=by kernel_rfl
def AjY (S:List Sx) (w:Z) (r:Ending) (w':Z):Prop:=
 (∃nd pl nv kv sv,r= .returned (.tuple #[.agg #[nd,sv],pl])/\Ci w' w.heap.size nd (AM 0 S) nv kv/\w'.ownsRow w.heap.size 53 4 sv S.length (Dk (BK 0 S))/\w'.ownsRow w.heap.size 3 1 pl (GX S).length (Aq (GX S))/\(∀q,pl.ownBlock=X q->∀j,(hj:j<kv.length)->kv[j].ownBlock≠X q))/\Ah w w'
theorem Wn (o:Option Ex):(AH o).oneCell'=true:=by
 cases o with
 |none=>rfl
 |some e=>obtain⟨t,u,h⟩:=Ex.form e;rw[AH,h];rfl
theorem YE (S:List Sx)(g m c:Nat)(aV:Array Value)(w:Z)(hm:S.length=m)(R:Ag w g aV 108)(aW:∀(b:Nat) (u:Value),(GN S)[b]? =X u->aV[b]? =X u)(hS:∀x∈S,VO w x.cond/\VO w x.grant)(aX:Bu S<=65535)(bV:m<=65535):
  Calls j4 111 #[Y (X ⟨g,0,T⟩) m c] w (AjY S w):=by
 have av:=Ab hm;have bt:=Ab aW;have bu:=Ab aX;have bv:=Ab hS;obtain⟨bw,bx,bz,bA,bB⟩:=info_parts AaC;have aY:=Av w (jF #[Y T 0 0,Y T 0 0] 68);have aw:=aY.alloc aY.size (jF #[Y T 0 0,Y T 0 0] 227);have bC:=(Ag.new w #[Y T 0 0,Y T 0 0] 68).alloc (jF #[Y T 0 0,Y T 0 0] 227);have ax:=Ag.new (w.alloc (jF #[Y T 0 0,Y T 0 0] 68)) #[Y T 0 0,Y T 0 0] 227;simp only[World.size_alloc]at ax;have bD:OV ((w.alloc (jF #[Y T 0 0,Y T 0 0] 68)).alloc (jF #[Y T 0 0,Y T 0 0] 227)) w.heap.size (w.heap.size+1) [] [] (Y T 0 0) (Y T 0 0) [] []:=⟨ax,Ci.nil _ _,World.ownsRow_nil _ _ _ _,(fun q hq=>by cases hq),zj _⟩
 have bE:(Tryz.f148.name== "runtime.NumGoroutine")=false:=by kernel_rfl
 have bF: Tryz.f148.body.isNone=false:=by kernel_rfl
 clear hm aW aX hS ax;go_enter func111,ntmps111
 go_wp2_with fail
 go_loopw [5,11] (fun v i wr=>∃ (k:Nat) (nd pl:Value) (s t:List Value),k<=m/\i=U V k/\wr.ownsRow w.heap.size 53 4 v k (Dk (BK 0 (S.take k)))/\OV wr w.heap.size (w.heap.size+1) (AM 0 (S.take k)) (GX (S.take k)) nd pl s t/\Ag wr w.heap.size #[Y T 0 0,Y T 0 0] 68/\Ah w wr) (fun _ i _=>m-(intOf i).toNat)
 case atStart=>exact⟨0,_,_,_,_,by omega,rfl,World.ownsRow_nil _ _ _ _,bD,bC,aw⟩
 case round=>
  obtain⟨k,nd,pl,s,t,bW,rfl,y,a,d,af⟩:=hrel;by_cases J:k<m
  ·have bX:(k:Int)<(m:Int):=by omega
   have ag:k<S.length:=by rw[Aa av];exact J
   have bG:=R.after af NLN;have A:∀b,b<5->∀u,(Gm S[k])[b]? =X u->wr.cell? ⟨g,k*5+b,T⟩=X u:=fun b bH u ah=>by
    rw[bG.cell];refine Aa bt _ _ ?_;rw[Pw S k ag b bH];exact ah
   have ay:=A 0 (by decide) _ rfl;have c1:=A 1 (by decide) _ rfl;have c2:=A 2 (by decide) _ rfl;have c3:=A 3 (by decide) _ rfl;have c4:=A 4 (by decide) _ rfl;simp only[zX]at ay;have az:S.take (k+1)=S.take k++[S[k]]:=zQ ag;have aA:Bu (S.take k)+(AF S[k].cond+AF S[k].grant)<=65535:=by
    have h1:=Aa bu;have h2:S=S.take (k+1)++S.drop (k+1):=(yN _ _).symm;rw[h2,az,L7,L7,A4]at h1;omega
   have ai:=Nc S[k] (S.take k) 0;have aB:=Tr S[k] (S.take k);have B:=Nf S[k] (S.take k) 0;rw[<-az]at ai aB B;rw[zU,<-El (S.take k) 0]at ai B;have aC:(AM 0 (S.take k)).length+(AF S[k].cond+AF S[k].grant)<=65535:=by rw[El];exact aA
   have aD:(GX (S.take k)).length+(AF S[k].cond+AF S[k].grant)<=65535:=by rw[Wm];exact aA
   have aE:=Ts (BK 0 (S.take k)) ⟨S[k].kind,S[k].name,GD S[k].cond (AM 0 (S.take k)).length,GD S[k].grant ((AM 0 (S.take k)).length+AF S[k].cond)⟩;rw[<-B]at aE;have C:=Ab (jS ai (jS aB aE));obtain⟨aZ,a0⟩:=Aa bv S[k] (zH ag);have aF:=Ab (jS aZ a0);have a3:=Ab J;clear A ai aB B aE az aA aZ a0 J;generalize S[k]=x at ay c1 c2 c3 c4 aC aD C aF;dsimp only at C;have D:=Ab (show ∀v wz E F K L,wz.ownsRow w.heap.size 53 4 v (k+1) (Dk (BK 0 (S.take k))++[U V x.kind,Q x.name,U V (GD x.cond (AM 0 (S.take k)).length),U V (GD x.grant ((AM 0 (S.take k)).length+AF x.cond))])->OV wz w.heap.size (w.heap.size+1) (AM 0 (S.take k)++Kk x.cond (AM 0 (S.take k)).length++Kk x.grant ((AM 0 (S.take k)).length+AF x.cond)) (GX (S.take k)++plO x.cond++plO x.grant) E F K L->wz.ownsRow w.heap.size 53 4 v (k+1) (Dk (BK 0 (S.take (k+1))))/\OV wz w.heap.size (w.heap.size+1) (AM 0 (S.take (k+1))) (GX (S.take (k+1))) E F K L from fun v wz E F K L h1 h2=>by
    obtain⟨e1,e2,e3⟩:=Aa C;rw[e1,e2,e3];exact⟨h1,h2⟩)
   generalize Dk (BK 0 (S.take k))=aw at y D;generalize AM 0 (S.take k)=M at a D aC aD C;generalize GX (S.take k)=aG at a D aC aD C;clear C ag;obtain⟨aj,ak⟩:∃v,v=AH x.cond:=⟨_,rfl⟩
   obtain⟨G,al⟩:∃v,v=AH x.grant:=⟨_,rfl⟩
   rw[<-ak]at c3;rw[<-al]at c4;have aH:=af.alloc af.size (jF #[U V x.at',U V x.kind,Q x.name,aj,G] 108);have ao:=Av wr (jF #[U V x.at',U V x.kind,Q x.name,aj,G] 108);have a4:=Ag.new wr #[U V x.at',U V x.kind,Q x.name,aj,G] 108;have aI:=Ab (Ajq w.heap.size (w.heap.size+1) w NLN x.cond (Aa aF).1 M aG nd pl s t _ aH (a.below ao) (by omega) (by omega));have N:=Ab (fun nd pl s t a5 (bI:Ah w a5) h=>Ajq w.heap.size (w.heap.size+1) w NLN x.grant (Aa aF).2 (M++Kk x.cond M.length) (aG++plO x.cond) nd pl s t a5 bI h (by rw[zC,FI];omega) (by rw[zC,UB];omega));have a6:(M++Kk x.cond M.length).length=M.length+AF x.cond:=by rw[zC,FI]
   rw[a6]at N;rw[<-ak]at aI;rw[<-al]at N;have a7:=Wn x.cond;have a8:=Wn x.grant;rw[<-ak]at a7;rw[<-al]at a8;have ap:=World.ownsRow.alloc y (jF #[U V x.at',U V x.kind,Q x.name,aj,G] 108);have r:=a.below ao;have z:=d.after ao NLN;clear ak al ao a6;go_wp2_with fail
   rw[run_store _ _ _ _ _ a7];go_simp
   rw[run_store _ _ _ _ _ a8];go_simp
   go_wp2_with fail
   refine(Aa aI).mono ?_;rintro b o ⟨rfl,bJ,bK,bL,bM,a9,O⟩;have ba:=O.row r a4 (by decide) (by decide) (by decide);have aq:=O.row r z (by decide) (by decide) (by decide);have aJ:=O.stm r ap;have aK:=aH.trans O.low;clear O r a4 z ap aH aI ay c1 c2 c3 c4;generalize GD x.cond M.length=ar at D|-;generalize GD x.grant (M.length+AF x.cond)=P at D N;obtain⟨f,l,rfl,_⟩:=Ae aJ;have W:=a9.below (L5 o);have aa:=ba.after (L5 o) NLN;have bb:=aq.after (L5 o) NLN;have bc:=Af (w':=o.drew) aJ (fun q hq=>rfl);have aL:=aK.trans ((L5 o).mono aK.size);have bd:=Ab ((Aa N _ _ _ _ _ aL W).mono (R':=fun e w'=>∃v,e= .returned v/\(v=U V P/\∃E F K L,OV w' w.heap.size (w.heap.size+1) (M++Kk x.cond M.length++Kk x.grant (M.length+AF x.cond)) (aG++plO x.cond++plO x.grant) E F (s++bL++K) (t++bM++L)/\Nk w.heap.size (w.heap.size+1) bJ bK o.drew E F w')) (fun b w' h=>⟨_,h.1,rfl,h.2⟩));have b1:o.drew.cell? ⟨wr.heap.size,1,T⟩=X (U V x.kind):=aa.cell 1;have b2:o.drew.cell? ⟨wr.heap.size,2,T⟩=X (Q x.name):=aa.cell 2;have b4:o.drew.cell? ⟨wr.heap.size,4,T⟩=X G:=aa.cell 4;clear a9 ba aq aJ aK N;dsimp only;go_wp2_with fail
   apply Ajp
   ·intro bN;go_region_law (first
     |(refine AE rfl 148 _ func148 bE bF _ _ _ rfl (.pointer (X ⟨w.heap.size+1,0,T⟩)) G rfl rfl _ (Aa bd) ?_;rintro bY ab ⟨rfl,RQ,aM,bf,bg,bh,K5⟩;have aN:=K5.row W aa (by decide) (by decide) (by decide);have au:=K5.row W bb (by decide) (by decide) (by decide);have ac:=K5.stm W bc;have ad:=aL.trans K5.low;have a1:ab.cell? ⟨wr.heap.size,1,T⟩=X (U V x.kind):=aN.cell 1;have a2:ab.cell? ⟨wr.heap.size,2,T⟩=X (Q x.name):=aN.cell 2;have bi:=World.news_of_block (heap_alloc_new ab (PN x.kind x.name ar P));have bj:=World.ownsRow.alloc ac (PN x.kind x.name ar P))
     |(refine step_append_lies _ rfl _ _ 29 rfl w.heap.size 53 bw (.agg #[U V 0,Q ByteArray.empty,U V 0,U V 0]) 4 40 underlying29 bx bz bA bB rfl (by decide) (Y f k l) k aw rfl bj ⟨ab.heap.size,0,T⟩ 1 1 [U V x.kind,Q x.name,U V ar,U V P] rfl rfl bi (by intro u ah;simp at ah;rcases ah with rfl|rfl|rfl|rfl<;>rfl) (by decide) (by unfold maxLen;omega) (by omega) (by have:=ad.size;simp;omega) _ rfl ?_;intro g7 c7 aO bk aP hat J))
    all_goals
     have aQ:=Cv aP;have bl:=bh.other ac aQ;have bm:Ag aO w.heap.size #[Y T 0 0,Y T 0 0] 68:=⟨(aQ _ au.lt (Ac au ac (by decide))).trans au.out⟩
     have bn:=(ad.alloc ad.size (PN x.kind x.name ar P)).grown aP (by have:=ad.size;simp;omega) (fun q hq=>(ac.lt q hq).1);have H:=Ab (jS (Aa D _ _ _ _ _ _ bk bl) (jS bm bn));clear aQ bl bm bn bk aP hat J bi bj ac a1 a2 ad aN au bh K5;generalize ab.heap.size=h5;revert H;revert bg;revert bf;revert aM;revert RQ;revert aO;revert c7;revert g7;revert h5;exact bN.out
   intro h5 g7 c7 aO RQ aM bf bg H;clear b1 b2 b4 W aa bb bc aL bd;go_wp2_with fail
   go_roundw
   case rel=>exact⟨k+1,RQ,aM,_,_,Aa a3,by go_num,(Aa H).1.1,(Aa H).1.2,(Aa H).2.1,(Aa H).2.2⟩
   case measure=>have:=Aa a3;simp[intOf];omega
  ·have e:k=m:=by omega
   subst e;have B:S.take k=S:=by rw[<-Aa av,Z2]
   rw[B]at y a;obtain⟨f,l,rfl,_⟩:=Ae y;obtain⟨n,cn,rfl,_⟩:=Ae a.nodes.own;obtain⟨aR,aS,rfl,_⟩:=Ae a.places;have r:=a.below (L5 wr);have z:=d.after (L5 wr) NLN;have ap:=Af (w':=wr.drew) y (fun q hq=>rfl);have bO:wr.drew.cell? ⟨w.heap.size+1,0,T⟩=X (Y n (AM 0 S).length cn):=r.row.cell 0;have s1:wr.drew.cell? ⟨w.heap.size+1,1,T⟩=X (Y aR (GX S).length aS):=r.row.cell 1;have bP:wr.drew.cell? ⟨w.heap.size,0,T⟩=X (Y T 0 0):=z.cell 0;have bQ:=z.frozen 0;have aq:=z.set 0 (Y n (AM 0 S).length cn);have bR:wr.cell? ⟨w.heap.size+1,1,T⟩=X (Y aR (GX S).length aS):=a.row.cell 1;have bS:wr.cell? ⟨w.heap.size,1,T⟩=X (Y T 0 0):=d.cell 1;have bT:=d.frozen 1;go_wp2_with fail
   go_region_law fail
   all_goals
    have I:∀q,q≠w.heap.size->((wr.setCell ⟨w.heap.size,0,T⟩ (Y n (AM 0 S).length cn)).setCell ⟨w.heap.size,1,T⟩ (Y f k l)).heap[q]? =wr.heap[q]? :=fun q hq=>(jc _ ⟨w.heap.size,1,T⟩ q _ hq).trans (jc wr ⟨w.heap.size,0,T⟩ q _ hq);have aT:=(d.set 0 (Y n (AM 0 S).length cn)).set 1 (Y f k l);have bo:((wr.setCell ⟨w.heap.size,0,T⟩ (Y n (AM 0 S).length cn)).setCell ⟨w.heap.size,1,T⟩ (Y f k l)).cell? ⟨w.heap.size,0,T⟩=X (Y n (AM 0 S).length cn):=aT.cell 0;have bp:((wr.setCell ⟨w.heap.size,0,T⟩ (Y n (AM 0 S).length cn)).setCell ⟨w.heap.size,1,T⟩ (Y f k l)).cell? ⟨w.heap.size,1,T⟩=X (Y f k l):=aT.cell 1;have aU:=(af.setCell (p:=⟨w.heap.size,0,T⟩) NLN (Y n (AM 0 S).length cn)).setCell (p:=⟨w.heap.size,1,T⟩) NLN (Y f k l);have bq:=a.nodes.upto (fun q hq=>I q (fun e=>Ac d a.nodes.own (by decide) (by rw[hq,e]))) (fun j ae q hq=>I q (fun e=>Ac d (a.nodes.names j (by rw[<-a.nodes.len];exact ae) ae) (by decide) (by rw[hq,e]))) (fun j ae q hq=>I q (fun e=>Ac d (a.nodes.kids j (by rw[<-a.nodes.lenk];exact ae) ae) (by decide) (by rw[hq,e])));have br:=Af y (fun q hq=>I q (fun e=>Ac d y (by decide) (by rw[hq,e])));have bs:=Af a.places (fun q hq=>I q (fun e=>Ac d a.places (by decide) (by rw[hq,e])));have bU:=a.apart;clear I aT bO s1 bR bP bS bQ bT aq z r ap;generalize (wr.setCell ⟨w.heap.size,0,T⟩ (Y n (AM 0 S).length cn)).setCell ⟨w.heap.size,1,T⟩ (Y f k l)=wz at bo bp aU bq br bs|-;go_wp2_with fail
    refine bodyPost_ret (v:= .tuple #[.agg #[Y n (AM 0 S).length cn,Y f k l],Y aR (GX S).length aS]) (by simp[results,results111,go_sem,bo,bp]) rfl ⟨⟨_,_,s,t,_,rfl,?_,?_,?_,bU⟩,?_⟩
    ·exact bq.blocks (fun q _ _=>rfl)
    ·rw[Aa av];exact Af br (fun q hq=>rfl)
    ·exact Af bs (fun q hq=>rfl)
    ·exact aU.trans ((L5 wz).mono aU.size)
theorem Dv {B a:Nat}{e:TypeId}{size n:Nat}{b:List R}(h:w.ownsRow B e size v n b)(hB:a<=B):w.ownsRow a e size v n b:=by
 refine⟨h.1,?_⟩;rcases h.2 with q|⟨g,cap,c,h1,h2,h3⟩
 ·exact .inl q
 ·exact .inr ⟨g,cap,c,h1,zB hB h2,h3⟩
theorem Ci.low {lo lo':Nat}{f:List R}(h:Ci w lo v N d f)(a:lo'<=lo):Ci w lo' v N d f:=
 ⟨h.len,h.lenk,Dv h.own a,fun j b c=>Dv (h.names j b c) a,fun j b c=>Dv (h.kids j b c) a,h.apart,h.apartk⟩
section
variable {aS aO aZ aW : Addr} {G : Nat -> Prop}
end
end Go.Proofs.YteiieikcjcfkkaaGreatDoor
