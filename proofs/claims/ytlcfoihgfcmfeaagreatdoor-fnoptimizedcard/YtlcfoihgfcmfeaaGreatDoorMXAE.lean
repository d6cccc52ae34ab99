import Derived.Test.YtlcfoihgfcmfeaaGreatDoorMXAC
open Option renaming none->V,some->Z
open List renaming length->Y
open Array renaming size->R
open Go renaming World->jD,Value->jF
open Bool renaming true->jG,false->jI
namespace Go.Proofs.YtlcfoihgfcmfeaaGreatDoor
open Proofs.Tryz
open Value renaming int->T,slice->X,string->jA,tuple->jS
open IntKind renaming i64->U
open World renaming heap->Q,ownsRow->jP
open Ending renaming returned->jN
open Proofs.Tryz renaming prog->jZ
open Go.RowKit
set_option linter.unusedVariables false
variable{a:Act}{K:Act->jD->Prop}{c:Array Oper}{g:Exit->Act->jD->Prop}{S:List (Nat×Nat)}{ks:M4}{i f j:Nat}{o:Oper}{x:M2 Addr}{P:Program}{w:jD}
theorem AaK{i:Prop}(j:o.guard=V)(f:FuncId)(fn:Func)(hf:P.funcs[f]?=Z fn)(k:(fn.name== "runtime.NumGoroutine")=jI)(d:fn.body.isNone=jI)(x:Operand)(l:Array TypeId)(m:o.op=.call {callee:=.value (.func f),args:=#[x],argTypes:=l})(b:jF)(hx:a.eval x=b)(R:jF->jD->Prop)(hc:Calls P f #[b] w λe w'=>∃v,e=jN v/\R v w')(h:∀v w',R v w'->K (a.put o.dst v) w'):if Region.wanted o (yielded c a.tmps)=jG then Oper.wp P o a w K g else i:=by
 have n:Region.wanted o (yielded c a.tmps)=jG:=by simp[Region.wanted,j]
 rw[if_pos n];unfold Oper.wp;have p:(execOp a.eval o).run P w=.ok (.enter f #[b]) w:=by
  subst hx;have h1:fn.name≠ "runtime.NumGoroutine":=by simpa using k
  have h2:(callFunc f #[a.eval x]).run P w=.ok (.enter f #[a.eval x]) w:=by
   have h3:fn.body≠V:=λe=>by rw[e]at d;cases d
   simp[callFunc,hf,h1,h3]
  simpa[execOp,m,resolve,invoke,Act.eval,Result.andThen,go_sem]using h2
 rw[p,Oper.upon_enter];refine hc.mono ?_;rintro e w' ⟨v,rfl,q⟩;exact h v w' q
theorem Cc{d:Array Oper}{i:Exit->Act->jD->Prop}{j:Prop}(k:o.guard=V)(f:FuncId)(fn:Func)(hf:P.funcs[f]?=Z fn)(l:(fn.name== "runtime.NumGoroutine")=jI)(g:fn.body.isNone=jI)(x y:Operand)(m:Array TypeId)(n:o.op=.call {callee:=.value (.func f),args:=#[x,y],argTypes:=m})(b c:jF)(hx:a.eval x=b)(hy:a.eval y=c)(R:jF->jD->Prop)(hc:Calls P f #[b,c] w λe w'=>∃v,e=jN v/\R v w')(h:∀v w',R v w'->K (a.put o.dst v) w'):if Region.wanted o (yielded d a.tmps)=jG then Oper.wp P o a w K i else j:=by
 have p:Region.wanted o (yielded d a.tmps)=jG:=by simp[Region.wanted,k]
 rw[if_pos p];unfold Oper.wp;have q:(execOp a.eval o).run P w=.ok (.enter f #[b,c]) w:=by
  subst hx hy;have h1:fn.name≠ "runtime.NumGoroutine":=by simpa using l
  have h2:(callFunc f #[a.eval x,a.eval y]).run P w=.ok (.enter f #[a.eval x,a.eval y]) w:=by
   have h3:fn.body≠V:=λe=>by rw[e]at g;cases g
   simp[callFunc,hf,h1,h3]
  simpa[execOp,n,resolve,invoke,Act.eval,Result.andThen,go_sem]using h2
 rw[q,Oper.upon_enter];refine hc.mono ?_;rintro e w' ⟨v,rfl,r⟩;exact h v w' r
def DK(S:List<|Nat×Nat):N4:=S.flatMap λp=>[T U p.1,T U p.2]
theorem Ox:∀(S:List<|Nat×Nat)(i:Nat)(h:i<Y S),(DK S)[i*2]?=Z (T U (S[i].1:Int))/\(DK S)[i*2+1]?=Z (T U (S[i].2:Int))|[],i,h=>K4 h Oz|p::S,0,h=>⟨rfl,rfl⟩|p::S,i+1,h=>by have a:=Ox S i P4;have e:DK (p::S)=T U p.1::T U p.2::DK S:=rfl;rw[e,(Oa:(i+1)*2=i*2+1+1),z5,z5,(Oa:i*2+1+1+1=(i*2+1)+1+1),z5,z5];simpa using a
theorem AhW(l:List<|Nat×Nat)(p:Nat×Nat):EB (l++[p])=max (EB l) p.2:=by induction l with|nil=>simp[EB]|cons q l a=>rw[List.cons_append,EB,EB,a];omega
theorem AeF{K:List M4}{k:Nat}(h:CD K k [] 0=Z S)(a:K[k]?=Z ks):CD K (k+1) [] 0=Eg S k ks:=by rw[IN K k 1 [] 0,h];show CD K 1 S (0+k)=_;rw[zT,CD,a];dsimp only;cases Eg S k ks<;>rfl
theorem AeG{K:List M4}{k n:Nat}(a:k<=n)(h:CD K k [] 0=V):CD K n [] 0=V:=by have e:n=k+(n-k):=Oa;rw[e,IN K k (n-k) [] 0,h];rfl
theorem Zi(h:Y S<Y ks):Eg S i ks=V:=by rw[Eg,K1 h]
theorem AbA(hf:f+Y ks=Y S)(a:j<Y ks)(hS:f+j<Y S)(h:(S[f+j].1:Int)≠ks[j]):Eg S i ks=V:=by
 have b:Y S-Y ks=f:=Oa;rw[Eg,K0 Oa,K1];rw[b];intro e;apply h;have h1:(Al<|S.drop f)[j]?=Z ks[j]:=by rw[e];exact zE a
 rw[Al,zi,List.getElem?_drop,zE hS]at h1;simpa using h1
theorem AbB(hf:f+Y ks=Y S)(hd:EB (S.drop f)=64):Eg S i ks=V:=by
 have a:Y S-Y ks=f:=Oa;rw[Eg,K0 Oa,a];by_cases h:Al (S.drop f)≠ks
 .rw[K1 h]
 rw[K0 h,K1 hd]
theorem AhX(hf:f+Y ks=Y S)(ht:Al (S.drop f)=ks)(hd:EB (S.drop f)≠64):Eg S i ks=Z (S.take f++[(i,EB (S.drop f)+1)]):=by have a:Y S-Y ks=f:=Oa;rw[Eg,K0 Oa,a,K0<|by simp[ht],K0 hd]
def NH(S:List<|Nat×Nat)(f:Nat)(ks:M4)(j:Nat):Prop:=Al ((S.drop f).take j)=ks.take j
theorem AbC(S:List<|Nat×Nat)(f:Nat)(ks:M4):NH S f ks 0:=by simp[NH,Al]
theorem KD(S:List<|Nat×Nat)(f j:Nat)(h:f+j<Y S):(S.drop f).take (j+1)=(S.drop f).take j++[S[f+j]]:=by
 have a:j<Y (S.drop f):=by rw[List.length_drop];omega
 rw[zY a,List.getElem_drop]
theorem AbD{f j:Nat}(a:j<Y ks)(hS:f+j<Y S)(h:NH S f ks j)(e:(S[f+j].1:Int)=ks[j]):NH S f ks<|j+1:=by rw[NH,KD S f j hS,zY a,<-e];rw[NH]at h;rw[<-h];simp[Al]
theorem AeH{f:Nat}(hf:f+Y ks=Y S)(h:NH S f ks<|Y ks):Al (S.drop f)=ks:=by rw[NH,zh<|by rw[List.length_drop];omega,zh NLN]at h;exact h
set_option maxRecDepth 100000
set_option maxHeartbeats 6400000
theorem AlY:(jZ.info? 188).map (λi=>(i.zero,i.size,i.bytes))=Z (Z<|.agg #[T U 0,T U 0],2,16):=Ok
def Akk(B:Nat)(r:M2<|List<|Nat×Nat)(e:Ending)(w':jD):Prop:=match r with|none=>e=jN (jS #[X V 0 0,.bool jI])|some S=>∃v,e=jN (jS #[v,.bool jG])/\jP w' B 3 1 v (Y S) (Ap<|Al S)
def AlZ(K:List M4)(B k:Nat)(v:jF)(wr:jD):Prop:=∃S,CD K k [] 0=Z S/\Y S<=k/\(∀p∈S,p.1<k/\p.2<=64)/\jP wr B 188 2 v (Y S) (DK S)
theorem Zj{a:List (Nat×Nat)}{k:Nat}(h:Eg S k ks=Z a)(h1:Y S<=k)(h2:∀p∈S,p.1<k/\p.2<=64):Y a<=k+1/\∀p∈a,p.1<k+1/\p.2<=64:=by
 obtain⟨A,B,rfl,e2,e3,rfl⟩:=SF h;have hd:EB B<=64:=by clear h e2 e3 h1;induction B with|nil=>simp[EB]|cons q B c=>have hq:=h2 q Oz;have d:=c λp b=>h2 p (by obtain e|e:=zJ.1 b<;>simp[e]);rw[EB];omega
 rw[zC]at h1;refine⟨G2,λp b=>?_⟩;obtain e|e:=zJ.1 b
 .have:=h2 p<|z3 _ e;omega
 simp at e;subst e;exact⟨(Oa:k<k+1),(Oa:EB B+1<=64)⟩
theorem AhY{base:Nat}{e:TypeId}{size:Nat}{n c:Nat}{b:N4}(h:jP w base e size (X x n c) n b):n<=c:=by
 obtain⟨a,d⟩|⟨g,cap,f,a,h1,h2,h3,h4,h5,h6⟩:=h.2
 .omega
 cases a;exact h3
theorem Zk(S:List<|Nat×Nat)(f k d:Nat):(DK S).take (f*2)++[T U k,T U<|(d:Int)+1]=DK (S.take f++[(k,d+1)]):=by
 have e:∀(S:List<|Nat×Nat) (f:Nat),(DK S).take (f*2)=DK (S.take f):=by intro S;induction S with|nil=>intro f;simp[DK]|cons p S a=>intro f;cases f with|zero=>simp[DK]|succ f=>have e1:DK (p::S)=T U p.1::T U p.2::DK S:=rfl;have e2:DK (p::S.take f)=T U p.1::T U p.2::DK (S.take f):=rfl;rw[e1,(Oa:(f+1)*2=f*2+1+1),List.take_succ_cons,List.take_succ_cons,a f,List.take_succ_cons,e2]
 rw[e,DK,DK,List.flatMap_append];simp
theorem AbE(S:List<|Nat×Nat)(k:Nat)(h:k<Y S):Al (S.take<|k+1)=Al (S.take k)++[(S[k].1:Int)]:=by rw[zY h,Al,Al,zN];rfl
theorem QT(a:M2 Addr)(n c:Nat)(L:M7)(w:jD)(h:GN w a n c L):Calls jZ 63 #[X a n c] w λe w'=>Akk (R<|Q w) (CD (L.map Nd.aC) n [] 0) e w'/\Ak w w':=by
 have bj:=h.aH;have aw:=Ab h.len;obtain⟨aM,aN,aO,aP,aQ⟩:=info_parts AlY;obtain⟨i,hi,aR,aS,aT⟩:=info_parts GS;go_enter func63,ntmps63;go_wp2_with fail;go_loopw[4,16] (λv i wr=>∃k:Nat,k<=n/\i=T U k/\Ak w wr/\AlZ (L.map Nd.aC) (R<|Q w) k v wr) (λ_ i _=>n-(intOf i).toNat);case atStart=>exact⟨0,Oa,rfl,BRN,[],rfl,Oz,Oz,G8⟩
 obtain⟨k,bk,rfl,o,S,ab,aU,ac,ad⟩:=hrel;by_cases aj:k<n
 .have bl:(k:Int)<(n:Int):=Oa;have ax:k<Y L:=by rw[Aa aw];exact aj
  obtain⟨b,bm,rfl,bn,an,nn,cn,ae,l,af,c0,c1,c2,c3,c4,ay,G⟩:=(h.below o NLN).cells k ax;have H:=Ab (AeF ab<|show(L.map Nd.aC)[k]?=Z L[k].aC by rw[zi,zE ax];rfl);have r:=Ab (show Eg S k L[k].aC=V->CD (L.map Nd.aC) n [] 0=V from λe=>AeG (k:=k+1) aj<|by rw[Aa H,e]);have ak:=Ab λaV (aW:Eg S k L[k].aC=Z aV)=>Zj aW aU ac;have az:=Ab aj;have aX:=Ab ac;clear ab ac;generalize L[k]=x at c0 c1 c2 c3 c4 ay G H r ak;have bo:=G.aH;have z:=Ab G.len;have bp:=Ah.new wr #[T U x.op,T U x.num,jA x.text,X an nn cn,X ae l af] 112;have s:=o.alloc o.size<|CW x.op x.num x.text an nn cn ae l af;have aY:=Ar wr<|CW x.op x.num x.text an nn cn ae l af;have al:=ad.alloc<|CW x.op x.num x.text an nn cn ae l af;have aZ:=G.below aY NLN;obtain⟨a0,aA,rfl,I⟩:=Af al;have ao:=Ab I;clear ay G I;by_cases hs:Y S<l
  .have is:(Y S:Int)-(l:Int)<0:=Oa;have J:=Ab (Aa r<|Zi<|by rw[Aa z];exact hs);clear hs r;go_wp2;exact K8 (v:=jS #[X V 0 0,.bool jI]) Hk rfl ⟨by rw[Aa J];rfl,s⟩
  have is:¬ ((Y S:Int)-(l:Int)<0):=Oa;obtain⟨f,hf⟩:∃f,f+l=Y S:=⟨Y S-l,Oa⟩;have a1:=Ab (Oa:(Y S:Int)-(l:Int)=(f:Int));have bq:=Ab hf;clear hs;go_wp2_with fail;rw[Aa a1];go_loop[8,32] (λd i=>∃j:Nat,j<=l/\i=T U j/\d=T U (EB<|(S.drop f).take j)/\EB ((S.drop f).take j)<=64/\NH S f x.aC j) (λ_ i=>l-(intOf i).toNat);case atStart=>exact⟨0,Oa,rfl,rfl,by simp[EB],AbC _ _ _⟩
  obtain⟨j,a2,rfl,rfl,hd,aB⟩:=hrel;have ag:=Ab aB;clear aB;by_cases D:j<l
  .have a3:(j:Int)<(l:Int):=Oa;obtain⟨g,rfl,hg,B⟩:=Aa ao Oa;have hS:f+j<Y S:=Oa;have ap:j<Y x.aC:=by rw[Aa z];exact D
   obtain⟨br,ok,rfl,bs,a4⟩:=aZ.cells j ap;obtain⟨K,M⟩:=Ox S (f+j) hS;have aq:=B _ _ K;have s1:=B _ _ M;have a5:=Aa aX S[f+j]<|zI hS;have N:=Ab (show EB ((S.drop f).take<|j+1)=max (EB<|(S.drop f).take j) S[f+j].2 by rw[KD S f j hS,AhW]);have O:=Ab λe=>AbA (i:=k) (ks:=x.aC) (by rw[Aa z];exact hf) ap hS e;have P:=Ab λe=>AbD ap hS (Aa ag) e;clear K M B ag;generalize S[f+j]=p at aq s1 a5 N O P;generalize x.aC[j]=y at a4 O P;generalize EB ((S.drop f).take j)=t at hd N;by_cases hy:(p.1:Int)=y
   .have a6:((p.1:Int)!=y)=jI:=by rw[hy];simp
    have a7:=Ab<|Aa P hy;clear hy O P;have W:=Ab D;go_wp2_with fail;have a8:(Value.int U<|if t<p.2 then (p.2:Int)else (t:Int))=T U (EB<|(S.drop f).take<|j+1):=by rw[Aa N];split<;>congr 1<;>omega
    (first|rw[a8]|rw[show Value.int U (max (t:Int) (p.2:Int))=T U (EB ((S.drop f).take (j+1)))by rw[Aa N];congr 1;omega]);exact⟨⟨j+1,Aa W,O0,rfl,by rw[Aa N];omega,Aa a7⟩,by have:=Aa W;simp[intOf];omega⟩
   have a6:((p.1:Int)!=y)=jG:=zW.2 hy;have J:=Ab<|Aa r<|Aa O hy;clear hy O P r;go_wp2;exact K8 (v:=jS #[X V 0 0,.bool jI]) Hk rfl ⟨by rw[Aa J];rfl,s⟩
  have e:j=l:=Oa;subst e;have aD:=Ab (AeH (by rw[Aa z];exact hf)<|by rw[Aa z];exact Aa ag);have a9:=Ab (show(S.drop f).take j=S.drop f from zh<|by rw[List.length_drop];omega);rw[Aa a9]at hd|-;clear ag;by_cases ah:EB (S.drop f)=64
  .have ar:((EB (S.drop f):Int)==64)=jG:=zD.2 Oa;have J:=Ab<|Aa r<|AbB (by rw[Aa z];exact hf) ah;clear ah r;generalize EB (S.drop f)=t at hd ar|-;go_wp2;exact K8 (v:=jS #[X V 0 0,.bool jI]) Hk rfl ⟨by rw[Aa J];rfl,s⟩
  have ar:((EB (S.drop f):Int)==64)=jI:=zA.2 Oa;have ai:=Ab<|AhX (i:=k) (by rw[Aa z];exact hf) (Aa aD) ah;clear ah r aD;generalize EB (S.drop f)=t at hd ar ai|-;have aE:=TC (m:=f) al Oa;have bt:=AhY al;have bu:(f:Int)<=(aA:Int):=Oa;have zb:=o.size;go_wp2_with (at_builtin;refine J7 _ rfl _ _ 186 rfl (R<|Q w) 188 aM (.agg #[T U 0,T U 0]) 2 16 underlying186 aN aO aP aQ rfl Ob _ _ _ rfl (K7 aE _) ⟨R (Q wr)+1,0,V⟩ 1 1 [T U k,T U<|(t:Int)+1] rfl rfl ?c1 ?c2 ?c3 ?c4 ?c5 ?_);case c2=>exact⟨rfl,rfl⟩
  case c3=>unfold maxLen;omega
  case c4=>omega
  case c5=>omega
  intro v' ba aF E _;have bb:=(s.alloc s.size<|.cells #[T U k,T U<|(t:Int)+1] 188).grown E Od λq hq=>(aE.lt q hq).1;clear E;rw[Zk]at aF;go_wp2;go_roundw;case rel=>exact⟨k+1,Aa az,O0,bb,S.take f++[(k,t+1)],by rw[Aa H,Aa ai],(Aa ak _<|Aa ai).1,(Aa ak _<|Aa ai).2,by rw[zC,zv,yF,(Oa:min f (Y S)=f)];exact aF⟩
  have:=Aa az;simp[intOf];omega
 have e:k=n:=Oa;subst e;obtain⟨a0,aA,rfl,I⟩:=Af ad;have H:=Ab ab;obtain⟨F,bc⟩:∃F,F=wr:=⟨_,rfl⟩;subst bc;have ao:=Ab I;have bd:=Ab ad;have aG:=Ab o;clear ab I ac ad o h aw;go_wp2_with fail;go_loopw[11,70] (λv i wr=>∃j:Nat,j<=Y S/\i=T U j/\jP wr (R<|Q F) 3 1 v (Y<|Al<|S.take j) (Ap<|Al<|S.take j)/\Ak w wr/\Ak F wr) (λ_ i _=>Y S-(intOf i).toNat);case atStart=>exact⟨0,Oa,rfl,G8,Aa aG,BRN⟩
 obtain⟨j,a2,rfl,C,o,aa⟩:=hrel;by_cases D:j<Y S
 .have a3:(j:Int)<(Y S:Int):=Oa;obtain⟨g,rfl,hg,B⟩:=Aa ao Oa;obtain⟨K,M⟩:=Ox S j D;have aI:g<R (Q F):=((Aa bd).lt g rfl).2;have aq:=(aa.cell (p:=⟨g,j*2,V⟩) aI).trans<|B _ _ K;have s1:=(aa.cell (p:=⟨g,j*2+1,V⟩) aI).trans<|B _ _ M;have au:=Ab<|AbE S j D;have bf:Y (Al<|S.take j)<=1048576:=by rw[Al,zZ,zv];omega
  have W:=Ab D;clear K M B;generalize S[j]=p at aq s1 au;generalize Al (S.take j)=A at C bf au;have s:=o.alloc o.size<|.cells #[T U p.1,T U p.2] 188;have aJ:=aa.alloc aa.size<|.cells #[T U p.1,T U p.2] 188;have av:=C.alloc<|.cells #[T U p.1,T U p.2] 188;obtain⟨aK,aL,rfl,_⟩:=Af C;have zb:=o.size;have bv:=aa.size;go_wp2_with (at_builtin;refine J7 _ rfl _ _ 25 rfl (R<|Q F) 3 i (T U 0) 1 8 underlying25 hi aR aS aT rfl Ob _ _ _ rfl (K7 av _) ⟨R (Q wr)+1,0,V⟩ 1 1 [T U p.1] rfl rfl ?d1 ?d2 ?d3 ?d4 ?d5 ?_);case d1=>exact A6 _ _ _ _ Oz
  case d2=>intro u hu;simp at hu;subst hu;rfl
  case d3=>unfold maxLen;omega
  case d4=>omega
  case d5=>simp;omega
  intro v' ba bg E _;have bh:=(s.alloc s.size<|.cells #[T U p.1] 3).grown E Od λq hq=>G7<|(av.lt q hq).1;have bi:=(aJ.alloc aJ.size<|.cells #[T U p.1] 3).grown E Od λq hq=>(av.lt q hq).1;clear E;go_wp2;go_roundw;case rel=>exact⟨j+1,Aa W,O0,by rw[Aa au,Ap,zN,zC];exact bg,bh,bi⟩
  have:=Aa W;simp[intOf];omega
 have e:j=Y S:=Oa;subst e;have e2:S.take (Y S)=S:=zh NLN;rw[e2]at C;obtain⟨aK,aL,rfl,_⟩:=Af C;go_wp2_with fail;refine K8 (v:=jS #[X aK (Y<|Al S) aL,.bool jG]) Hk rfl ⟨?_,o⟩;rw[Aa H];exact⟨_,rfl,Gf (by rw[Vc]at C|-;exact C) (Aa aG).size⟩
theorem Dd{base:Nat}{n c:Nat}{L:M4}(h:jP w base 3 1 (X x n c) n<|Ap L)(a:n<=1048576):BN w x n c L:=by
 have b:Y L=n:=by have:=h.1;rw[Ap,zZ]at this;omega
 refine⟨b,a,λj f=>?_⟩;obtain⟨i,k,d,hc⟩:=Af h;cases d;obtain⟨g,rfl,_,hg⟩:=hc Oa;refine⟨g,0,rfl,(h.lt g rfl).2,?_⟩;grind[Ap]
theorem Be.cI{N:M7}{f:Ex}(u:Be N i f){x:Nd}(hx:N[i]?=Z x):(x.op=1/\f=.int i x.num)\/(x.op=2/\f=.text i x.text)\/(x.op=3/\f=.bool i (decide (x.num=1)))\/(x.op=4/\∃a n c,f=.set i a n c x.aE)\/(x.op=5/\f=.name i x.text)\/(x.op=6/\f=.attr i x.num)\/(x.op=7/\f=.lett i x.num)\/((8<=x.op/\x.op<=10)/\∃(k:Nat)(e:Ex),x.aC=[(k:Int)]/\Be N k e/\f=.un i x.op e)\/((11<=x.op/\x.op<=26)/\∃(k l:Nat)(e g:Ex),x.aC=[(k:Int),(l:Int)]/\Be N k e/\Be N l g/\f=.bin i x.op e g)\/(x.op=27/\∃(k l m:Nat)(e g h:Ex),x.aC=[(k:Int),(l:Int),(m:Int)]/\Be N k e/\Be N l g/\Be N m h/\f=.ite i e g h):=by have same:∀{y:Nd},N[i]?=Z y->y=x:=λk=>Mk<|k.symm.trans hx;cases u with|int h b d=>grind|text h b d=>grind|bool h b d=>grind|set h b d a n c=>simp_all|name h b d=>grind|attr h b d=>grind|lett h b d=>grind|un h b d hi t=>grind|bin h b d hi t u=>grind|ite h b d hi t u v=>grind
set_option maxHeartbeats 800000
theorem NT(a:M2 Addr)(n c:Nat)(ss:M6)(s:M1)(w:jD)(h:Am w a n c ss):Calls jZ 169 #[X a n c,jA s] w λe w'=>e=jN (.bool<|KY ss s)/\w'=w:=by
 have q:n<=9223372036854775807:=P5;go_enter func169,ntmps169;go_wp2;go_loop[6,9] (λ_ i=>∃k:Nat,k<=n/\i=T U k/\∀j,j<k->eqS (AB ss j) s=jI) (λ_ i=>n-(intOf i).toNat);case atStart=>exact⟨0,zH _,rfl,λj d=>Oa⟩
 obtain⟨k,r,rfl,f⟩:=hrel;have g:=Ab f;clear f;by_cases m:k<n
 .obtain⟨b,t,o,_,hc⟩:=h.cells k m;subst o;cases l:((AB ss k).toList==s.toList)
  .go_wp2;go_round;case rel=>
    refine⟨k+1,Oa,O0,λj d=>?_⟩;by_cases e:j=k
    .subst e;exact l
    exact Aa g j Oa
   simp[intOf];omega
  have p:=Ab<|Acx ss s k Q5 l;go_wp2;go_ret;exact⟨Ae (Aa p).symm,rfl⟩
 go_wp2;go_ret;exact⟨Ae (Oj ss s λj d=>Aa g j Q5).symm,rfl⟩
set_option maxHeartbeats 1600000
theorem LJ(a:M2 Addr)(n c:Nat)(ss:M6)(l:M2 Addr)(m o:Nat)(tt:M6)(q:Bool)(w:jD)(h:Am w a n c ss)(B:Am w l m o tt)(N:n<=1048576):Calls jZ 191 #[X a n c,X l m o,.bool q] w λe w'=>∃x g,e=jN (X x (Y<|CX ss tt q) g)/\jP w' (R<|Q w) 9 1 (X x (Y<|CX ss tt q) g) (Y<|CX ss tt q) ((CX ss tt q).map Value.string)/\Ak w w':=by
 obtain⟨i,hi,C,D,E⟩:=info_parts Gd;have p:=Ab h.len;go_enter func191,ntmps191;go_wp2;go_loopw[7,9,12] (λv _ i wr=>∃k:Nat,k<=n/\i=T U k/\jP wr (R<|Q w) 9 1 v (Y<|CX (ss.take k) tt q) ((CX (ss.take k) tt q).map Value.string)/\Ak w wr) (λ_ _ i _=>n-(intOf i).toNat);case atStart=>exact⟨0,zH _,rfl,G8,BRN⟩
 obtain⟨k,r,rfl,d,f⟩:=hrel;by_cases F:k<n
 .obtain⟨b,O,G,S,hc⟩:=(h.below f NLN).cells k F;have s:=B.below f NLN;subst G;have t:k<Y ss:=G7<|Aa p;have W:Y (CX (ss.take k) tt q)<=k:=zB (IH _ _ _)<|List.length_take_le _ _;generalize H:CX (ss.take k) tt q=P at*;have y:=Ab H;cases z:(KY tt (AB ss k)==q)
  .have j:=Ab<|VO ss tt q k t z;go_wp2_with (go_at_call 169;refine(NT _ _ _ _ _ _ s).mono ?_;rintro e w' ⟨rfl,rfl⟩);go_roundw;case rel=>exact⟨k+1,Oa,O0,by rw[Aa j,Aa y];exact d,f⟩
   simp[intOf];omega
  have j:=Ab<|Ri ss tt q k t z;have I:=f.size;go_wp2_with (first|(go_at_call 169;refine(NT _ _ _ _ _ _ s).mono ?_;rintro e w2 ⟨rfl,A⟩;rw[A];clear A)|(at_builtin;refine J7 _ rfl _ _ 31 rfl (R<|Q w) 9 i (jA ByteArray.empty) 1 16 underlying31 hi C D E rfl Ob _ _ _ rfl (d.alloc _) ⟨R<|Q wr,0,V⟩ 1 1 [jA<|AB ss k] rfl rfl ?c1 ?c2 ?c3 ?c4 ?c5 ?_));case c1=>exact L4 _ _ _
  case c2=>intro u hu;simp at hu;subst hu;rfl
  case c3=>unfold maxLen;omega
  case c4=>omega
  case c5=>simp;omega
  intro v' J K L _;have M:Ak w J:=(f.alloc I _).grown L Od λk r=>(d.lt k r).1;go_wp2;go_roundw;case rel=>exact⟨k+1,Oa,O0,by rw[Aa j,Aa y,zN,zC];exact K,M⟩
  simp[intOf];omega
 have e:k=n:=Oa;subst e;go_wp2;go_ret;have e1:ss.take k=ss:=zh<|G7<|Aa p;rw[e1]at d;obtain⟨x,g,hf⟩:=AG d;subst hf;exact⟨x,g,rfl,d,f⟩
end Go.Proofs.YtlcfoihgfcmfeaaGreatDoor
