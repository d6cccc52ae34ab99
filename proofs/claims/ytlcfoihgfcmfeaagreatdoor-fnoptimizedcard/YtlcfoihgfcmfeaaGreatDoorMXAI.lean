import Derived.Test.YtlcfoihgfcmfeaaGreatDoorMXAL
import Derived.Test.YtlcfoihgfcmfeaaGreatDoorMXAE
import Derived.Deep.AppendLies
import Derived.Test.YtlcfoihgfcmfeaaGreatDoorMXAY
open Option renaming none->V,some->Z
open List renaming length->Y
open Array renaming size->R,size->jh
open Go renaming World->jD,Value->jF,Addr->jH
namespace Go.Proofs.YtlcfoihgfcmfeaaGreatDoor
open Proofs.Tryz
open Value renaming int->T,int->ja,slice->X,string->jA,ownBlock->jO
open IntKind renaming i64->U
open World renaming heap->Q,cell?->jE,ownsRow->jP
open Proofs.Tryz renaming prog->jZ
open Go.RowKit
set_option linter.unusedVariables false
variable{cs:Array jF}{top:Int}{f:Int->M4->M4}{O:M4}{N:M7}{b c:N4}{lo i n:Nat}{t:TypeId}{v v' d:jF}{w w':jD}
def NM(x:Nd)(u k:jF):N4:=[T U x.op,T U x.num,jA x.text,u,k]
def Fy:M7->N4->N4->N4|x::N,u::nv,k::kv=>NM x u k++Fy N nv kv|_,_,_=>[]
theorem Acs:∀(N:M7)(a b:N4),Y a=Y N->Y b=Y N->Y (Fy N a b)=Y N*5|[],_,_,_,_=>by simp[Fy]|x::N,[],_,h,_=>by simp at h|x::N,_::_,[],_,h=>by simp at h|x::N,u::a,k::b,h,h'=>by have:=Acs N a b P4 (by simpa using h');simp only[Fy,NM,zC,List.length_cons,List.length_nil,this];omega
theorem MT:∀(N:M7)(a b:N4)(x:Nd)(u k:jF),Y a=Y N->Y b=Y N->Fy (N++[x]) (a++[u]) (b++[k])=Fy N a b++NM x u k|[],[],[],x,u,k,_,_=>by simp[Fy]|[],_::_,_,x,u,k,h,_=>by simp at h|[],[],_::_,x,u,k,_,h=>by simp at h|y::N,[],_,x,u,k,h,_=>by simp at h|y::N,_::_,[],x,u,k,_,h=>by simp at h|y::N,z::a,t::b,x,u,k,h,h'=>by have:=MT N a b x u k P4 (by simpa using h');grind[Fy]
theorem LH:∀(N:M7)(a b:N4)(j:Nat)(h:j<Y N)(d:j<Y a)(h2:j<Y b),∀c,c<5->(Fy N a b)[j*5+c]?=(NM N[j] a[j] b[j])[c]?|x::N,u::a,k::b,0,_,_,_,c,hr=>by grind[NM,Fy]|x::N,u::a,k::b,j+1,h,d,h2,c,hr=>by have f:=LH N a b j P4 (by simpa using d) Hv c hr;grind[NM,Fy]|[],_,_,_,h,_,_,_,_=>K4 h Oz|_::_,[],_,_,_,h,_,_,_=>K4 h Oz|_::_,_::_,[],_,_,_,h,_,_=>K4 h Oz
structure BO(w:jD)(lo:Nat)(v:jF)(N:M7)(nv kv:N4):Prop where
 len:Y nv=Y N
 bL:Y kv=Y N
 bG:jP w lo 112 5 v (Y N)<|Fy N nv kv
 aE:∀j,(h:j<Y N)->(h':j<Y nv)->jP w lo 9 1 nv[j] (Y N[j].aE) (N[j].aE.map Value.string)aC:∀j,(h:j<Y N)->(h':j<Y kv)->jP w lo 3 1 kv[j] (Y N[j].aC) (Ap N[j].aC)bH:∀i j,(hij:i<j)->(h:j<Y nv)->∀q,jO (nv[i]' Oa)=Z q->jO nv[j]≠Z q
 dL:∀i j,(hij:i<j)->(h:j<Y kv)->∀q,jO (kv[i]' Oa)=Z q->jO kv[j]≠Z q
theorem BO.nil(w:jD)(lo:Nat):BO w lo (X V 0 0) [] [] []:=⟨rfl,rfl,G8,λj h=>K4 h Oz,λj h=>K4 h Oz,λi j _ h=>K4 h Oz,λi j _ h=>K4 h Oz⟩
theorem BO.cF(h:BO w lo v N b c):(∀q,jO v=Z q->lo<=q/\q<R (Q w))/\(∀j,(a:j<Y b)->∀q,jO b[j]=Z q->lo<=q/\q<R (Q w))/\∀j,(a:j<Y c)->∀q,jO c[j]=Z q->lo<=q/\q<R (Q w):=⟨h.bG.lt,λj a=>(h.aE j (by rw[<-h.len];exact a) a).lt,λj a=>(h.aC j (by rw[<-h.bL];exact a) a).lt⟩
theorem BO.cJ{c d:N4}(h:BO w lo v N c d)(h1:∀q,jO v=Z q->(Q w')[q]?=(Q w)[q]?)(h2:∀j,(a:j<Y c)->∀q,jO c[j]=Z q->(Q w')[q]?=(Q w)[q]?)(h3:∀j,(a:j<Y d)->∀q,jO d[j]=Z q->(Q w')[q]?=(Q w)[q]?):BO w' lo v N c d:=⟨h.len,h.bL,Ac h.bG h1,λj a b=>Ac (h.aE j a b)<|h2 j b,λj a b=>Ac (h.aC j a b)<|h3 j b,h.bH,h.dL⟩
theorem BO.bJ{a b:N4}(h:BO w lo v N a b)(hd:∀k,lo<=k->k<R (Q w)->(Q w')[k]?=(Q w)[k]?):BO w' lo v N a b:=by grind[BO.cF,BO.cJ]
theorem Ao{B j size k:Nat}{e f:TypeId}{l m:N4}(h:jP w B e size v n l)(o:jP w i f k v' j m)(p:e≠f):∀q,jO v=Z q->jO v'≠Z q:=λq hq b=>by
 obtain⟨c,_⟩|⟨g,cap,s,c,_,hg,_⟩:=h.2
 .rw[c]at hq;cases hq
 obtain⟨d,_⟩|⟨r,t,u,d,_,a,_⟩:=o.2
 .rw[d]at b;cases b
 rw[c]at hq;rw[d]at b;obtain rfl:g=q:=P1;obtain rfl:r=g:=by simpa[jO]using b
 rw[hg]at a;injection a with a;injection a with _ a;exact p a
def InN(v:jF)(nv kv:N4)(hi:Nat):Prop:=(∀q,jO v=Z q->q<hi)/\(∀j,(hj:j<Y nv)->∀q,jO nv[j]=Z q->q<hi)/\∀j,(hj:j<Y kv)->∀q,jO kv[j]=Z q->q<hi
def okN(x:Nd):Prop:=Y x.aE<=1048576/\Y x.aC<=1048576/\∀s∈x.aE,s.size<=maxLen
set_option maxRecDepth 100000
set_option maxHeartbeats 6400000
def exN:Ex->Nd|.int _ n=>⟨1,n,⟨#[]⟩,[],[]⟩|.text _ s=>⟨2,0,s,[],[]⟩|.bool _ b=>⟨3,if b then 1 else 0,⟨#[]⟩,[],[]⟩|.set _ _ _ _ ss=>⟨4,0,⟨#[]⟩,ss,[]⟩|.name _ s=>⟨5,0,s,[],[]⟩|.attr _ n=>⟨6,n,⟨#[]⟩,[],[]⟩|.lett _ n=>⟨7,n,⟨#[]⟩,[],[]⟩|.un _ op _=>⟨op,0,⟨#[]⟩,[],[]⟩|.bin _ op _ _=>⟨op,0,⟨#[]⟩,[],[]⟩|.ite ..=>⟨27,0,⟨#[]⟩,[],[]⟩
def NdA(x:Nd)(w:jD)(r:Ending)(w':jD):Prop:=(∃u cu,r=.returned (.agg #[T U x.op,T U x.num,jA x.text,X u (Y x.aE) cu,X V 0 0])/\jP w' (R<|Q w) 9 1 (X u (Y x.aE) cu) (Y x.aE) (x.aE.map Value.string))/\Ak w w'
theorem FG{b:Nat}{a c f g:jF}(R:Ah w b #[a,c,d,f,g] t):jE w (Addr.mk b 0 V)=Z a/\jE w (Addr.mk b 1 V)=Z c/\jE w (Addr.mk b 2 V)=Z d/\jE w (Addr.mk b 3 V)=Z f/\jE w (Addr.mk b 4 V)=Z g:=⟨R.cell 0,R.cell 1,R.cell 2,R.cell 3,R.cell 4⟩
theorem AmH{fn:Func}{b:Array jF}{a:jD}{x:Nd}(c:x.aE=[])(d:Ak w a)(f:(results fn b).run jZ a=.ok (.agg #[T U x.op,T U x.num,jA x.text,X V 0 0,X V 0 0]) a):bodyPost jZ fn (NdA x w) Exit.ret {tmps:=b,defers:=[]} a:=K8 f rfl ⟨⟨V,0,by rw[c];rfl,by rw[c];exact G8⟩,d⟩
theorem AmI(e:Ex)(he:∀i a n c ss,e≠.set i a n c ss)(w:jD):Calls jZ 175 #[e.val] w<|NdA (exN e) w:=by
 have g:=λo p:Obj=>(Ar w o).alloc Oz p;obtain⟨S,v,d⟩:=e.form;have ts:=tas S v;cases e;case' set i a n c ss=>exact K4 rfl (he i a n c ss)
 case' bool i b=>cases b
 case' un i op k=>obtain⟨t,u,h⟩:=k.form;simp only[Ex.val,h]at d|-
 case' bin i op k l=>obtain⟨t,u,h⟩:=k.form;obtain⟨j,q,f⟩:=l.form;simp only[Ex.val,h,f]at d|-
 case' ite i k l m=>obtain⟨t,u,h⟩:=k.form;obtain⟨j,q,f⟩:=l.form;obtain⟨r,s,h2⟩:=m.form;simp only[Ex.val,h,f,h2]at d|-
 all_goals
  try simp only[Ex.val]at d|-
  cases d;simp only[NP,Nat.reduceEqDiff,reduceIte]at ts;obtain⟨x,s1,s2,y,z,s5,A,B,C,D⟩:=ts;go_enter func175,ntmps175;go_wp2_with fail;exact AmH rfl (g _ _) (by simp[results,results175,go_sem,exN])
theorem Agu(i:Int)(a:M3)(n c:Nat)(ss:M6)(w:jD)(hS:Am w a n c ss)(s:Y ss<=1048576):Calls jZ 175 #[.iface 201<|.agg #[ja U i,X a n c]] w<|NdA (exN<|.set i a n c ss) w:=by
 have D:=AI (S:=201) (T:=195) underlying195 zeroValue195 Ob 86;have a1:=AI (S:=201) (T:=198) underlying198 zeroValue198 Ob 86;have a2:=AI (S:=201) (T:=179) underlying179 zeroValue179 Ob 86;have E:=CK (T:=201) underlying201 86;have g:=(Ar w<|.cells #[ja U 0,ja U 0,jA ⟨#[]⟩,X V 0 0,X V 0 0] 112).alloc Oz<|.cells #[ja U i,X a n c] 201;have m:=(Ah.new w #[ja U 0,ja U 0,jA ⟨#[]⟩,X V 0 0,X V 0 0] 112).alloc<|.cells #[ja U i,X a n c] 201;have o:=Ab<|ZE a n c ss _ (hS.below g NLN) s;clear hS;go_enter func175,ntmps175;go_wp2_with fail;refine(Aa o).mono ?_;rintro F G ⟨⟨x,b,rfl,k⟩,l⟩;have f:=m.aB l NLN;obtain⟨H,I,x2,x3,J⟩:=FG f;have K:=λj=>f.frozen j;obtain⟨t,u,y,z,A⟩:=FG<|(((((f).set 0<|ja U 4).set 1<|ja U 0).set 2<|jA ⟨#[]⟩).set 3<|X x (Y ss) b).set 4<|X V 0 0;have r:=g.trans<|l.mono Od;have d:∀q,jO (Value.slice x (Y ss) b)=Z q->q≠R (Q w):=λq hq h=>by have:=(k.lt q hq).1;simp at this;omega
 have B:=Ab<|(((((r).setCell (p:=⟨R<|Q w,0,V⟩) NLN<|ja U 4).setCell (p:=⟨R<|Q w,1,V⟩) NLN<|ja U 0).setCell (p:=⟨R<|Q w,2,V⟩) NLN<|jA ⟨#[]⟩).setCell (p:=⟨R<|Q w,3,V⟩) NLN<|X x (Y ss) b).setCell (p:=⟨R<|Q w,4,V⟩) NLN<|X V 0 0;have C:=Ab<|(Ag (Ag (Ag (Ag (Ag (Gf (base':=R<|Q w) k Od) ⟨R<|Q w,0,V⟩ (ja U 4) d) ⟨R<|Q w,1,V⟩ (ja U 0) d) ⟨R<|Q w,2,V⟩ (jA ⟨#[]⟩) d) ⟨R<|Q w,3,V⟩ (X x (Y ss) b) d) ⟨R<|Q w,4,V⟩ (X V 0 0) d);clear m f g r l o k d;dsimp only;go_wp2_with fail;refine K8 (v:=.agg #[ja U 4,ja U 0,jA ⟨#[]⟩,X x (Y ss) b,X V 0 0]) (by simp[results,results175,go_sem,t,u,y,z,A]) rfl ?_;exact⟨⟨x,b,rfl,Aa C⟩,Aa B⟩
theorem AeI{M:Nat}(hf:∀k O,Y (f k O)<=max (Y O) M+1)(top:Int):∀(ks O:M4),Y (DL f top ks O)<=max (Y O) M+Y ks+1:=by intro ks;induction ks<;>intros<;>grind[DL]
theorem Oy{K:List M4}(h3:∀ks∈K,Y ks<=3):∀(n:Nat)(top:Int)(O:M4),Y (Bf K n top O)<=max (Y O) (Y K+3*n)+1
 |0,top,O=>by grind[Bf]|n+1,top,O=>by
  rw[Bf];dsimp only;split
  .grind
  rename_i hc;have h1:=AeI (M:=Y K+3*n) (Oy h3 n) top (K.getD top.toNat []) O;grind
def Gm(w:jD)(v:jF)(w':jD)(v':jF):Prop:=(∀k,k<R (Q w)->Z k≠jO v->(Q w')[k]?=(Q w)[k]?)/\(∀q,jO v'=Z q->jO v=Z q\/R (Q w)<=q)/\R (Q w)<=R (Q w')
theorem Gm.refl(w:jD)(v:jF):Gm w v w v:=⟨λ_ _ _=>rfl,λq h=>.inl h,NLN⟩
theorem Gm.trans{a w2:jD}{b c:jF}(h:Gm w v a b)(k:Gm a b w2 c):Gm w v w2 c:=by grind[Gm]
theorem En{o:Obj}{g n c:Nat}(hg:(World.alloc w o).grownBy w'<|jO v)(a:jO v=Z g\/g=R (Q w)+1):Gm w v w'<|X (Z<|Addr.mk g 0 V) n c:=⟨λk b d=>(hg.block k Od d).trans<|Below.heap_alloc w o k b,λq hq=>by
  have:g=q:=P1;subst this;obtain e|e:=a
  .exact .inl e
  right;omega,by have:=hg.size;simp at this;omega⟩
theorem Ah.aV{b:Nat}(R:Ah w b cs t)(h:Gm w v w' v')(a:jO v≠Z b):Ah w' b cs t:=⟨(h.1 b R.lt λe=>a e.symm).trans R.out⟩
def Adb(B:Nat)(w:jD)(v:jF)(R:M4)(e:Ending)(w':jD):Prop:=∃v',e=.returned v'/\jP w' B 3 1 v' (Y R) (Ap R)/\Below B w w'/\Gm w v w' v'
theorem EZ{B:Nat}{x:Int}(h:jP w B 3 1 v (Y O+1)<|Ap O++[T U x]):jP w B 3 1 v (Y<|O++[x])<|Ap<|O++[x]:=by grind[Ap]
theorem SG{K:List M4}(h:top<0\/(Y K:Int)<=top\/Y K<Y O):∀fuel,Bf K fuel top O=O++[-1]|0=>rfl|n+1=>by rw[Bf];exact K1 h
theorem NI(a:M3)(n c:Nat)(B:Nat)(top:Int)(O:M4)(v:jF)(w:jD)(t:n<=4000)(h:top<0\/(n:Int)<=top\/n<Y O)(x:Y O<=100000)(k:B<=R (Q w))(d:jP w B 3 1 v (Y O)<|Ap O):Calls jZ 56 #[X a n c,T U top,v] w λe w'=>Adb B w v (O++[-1]) e w':=by
 obtain⟨i,hi,l,m,o⟩:=info_parts GS;obtain⟨y,z,rfl,_⟩:=Af d;rcases(Oa:top<0\/(0<=top/\(n:Int)<=top)\/(0<=top/\top<n/\n<Y O))with h1|⟨h0,h2⟩|⟨h0,h2,h3⟩
 .have p:top<0:=h1;go_enter func56,ntmps56;go_wp2_with (at_builtin;refine J6 _ rfl _ _ 25 rfl B 3 i (T U 0) 1 8 underlying25 hi l m o rfl Ob _ _ _ rfl (K7 d _) ⟨R<|Q w,0,V⟩ 1 1 [T U<|-1] rfl rfl ?a1 ?a2 Ob ?a3 ?a4 ?a5 _ rfl ?_);first|(case a1=>exact A6 _ _ _ _ Oz)|skip
  case a2=>first|(intro u hu;simp at hu;subst hu;rfl)|rfl
  case a3=>unfold maxLen;omega
  case a4=>omega
  case a5=>first|(simp;omega)|omega
  intro g cap r f b hat s;have j:=((Below.refl B w).alloc k<|.cells #[T U<|-1] 3).grown b Od λq hq=>(d.lt q hq).1;go_wp2;go_ret;exact⟨_,rfl,(EZ f),j,(En (n:=Y O+1) (c:=cap) b hat)⟩
 .have p:¬ top<0:=Oa;go_enter func56,ntmps56;go_wp2_with (at_builtin;refine J6 _ rfl _ _ 25 rfl B 3 i (T U 0) 1 8 underlying25 hi l m o rfl Ob _ _ _ rfl (K7 d _) ⟨R<|Q w,0,V⟩ 1 1 [T U<|-1] rfl rfl ?b1 ?b2 Ob ?b3 ?b4 ?b5 _ rfl ?_);first|(case b1=>exact A6 _ _ _ _ Oz)|skip
  case b2=>first|(intro u hu;simp at hu;subst hu;rfl)|rfl
  case b3=>unfold maxLen;omega
  case b4=>omega
  case b5=>first|(simp;omega)|omega
  intro g cap r f b hat s;have j:=((Below.refl B w).alloc k<|.cells #[T U<|-1] 3).grown b Od λq hq=>(d.lt q hq).1;go_wp2;go_ret;exact⟨_,rfl,(EZ f),j,(En (n:=Y O+1) (c:=cap) b hat)⟩
 have p:¬ top<0:=Oa;have A:(n:Int)<(Y O:Int):=Oa;go_enter func56,ntmps56;go_wp2_with (at_builtin;refine J6 _ rfl _ _ 25 rfl B 3 i (T U 0) 1 8 underlying25 hi l m o rfl Ob _ _ _ rfl (K7 d _) ⟨R<|Q w,0,V⟩ 1 1 [T U<|-1] rfl rfl ?c1 ?c2 Ob ?c3 ?c4 ?c5 _ rfl ?_);first|(case c1=>exact A6 _ _ _ _ Oz)|skip
 case c2=>first|(intro u hu;simp at hu;subst hu;rfl)|rfl
 case c3=>unfold maxLen;omega
 case c4=>omega
 case c5=>first|(simp;omega)|omega
 intro g cap r f b hat s;have j:=((Below.refl B w).alloc k<|.cells #[T U<|-1] 3).grown b Od λq hq=>(d.lt q hq).1;go_wp2;go_ret;exact⟨_,rfl,(EZ f),j,(En (n:=Y O+1) (c:=cap) b hat)⟩
theorem AbF{ks:M4}{j:Nat}(a:j<Y ks)(O:M4):DL f top (ks.drop j) O=if top<=ks[j]then O++[-1]else DL f top (ks.drop<|j+1) (f ks[j] O):=by rw[Z7 a,DL]
theorem GE(a:M3)(n c:Nat)(N:M7)(D:jD)(B:Nat)(E:GN D a n c N)(hB:jh (Q D)<=B)(ad:n<=4000)(h3:∀ks∈N.map Nd.aC,Y ks<=3):∀(fuel:Nat)(top:Int)(O:M4)(v:jF)(w:jD),fuel<=4000->(Y N<=fuel\/top<fuel)->Y O<=100000->Ak D w->B<=jh (Q w)->jP w B 3 1 v (Y O) (Ap O)->Calls jZ 56 #[X a n c,T U top,v] w λe w'=>Adb B w v (Bf (N.map Nd.aC) fuel top O) e w':=by have G:=Ab E.len;have H:=Ab (show Y (N.map Nd.aC)=n by rw[zZ,E.len]);have ae:=Ab h3;obtain⟨i,hi,af,ag,ah⟩:=info_parts GS;intro fuel;induction fuel with|zero=>intro top O v w _ hf I J z m;have aJ:=Aa G;rw[SG (K:=N.map Nd.aC) (by rw[zZ];omega) 0];exact NI a n c B top O v w ad Oa I z m|succ fuel ai=>
  intro top O v w aK hf I J z m;by_cases hu:top<0\/(n:Int)<=top\/n<Y O
  .rw[SG (K:=N.map Nd.aC) (by rw[Aa H];exact hu)<|fuel+1];exact NI a n c B top O v w ad hu I z m
  obtain⟨t,rfl⟩:∃t:Nat,top=(t:Int):=⟨top.toNat,Oa⟩;have av:t<n:=Oa;have aL:Y O<=n:=Oa;have L:t<Y N:=by rw[Aa G];exact av
  have aM:¬ ((t:Int)<0):=Oa;have i2:¬ ((n:Int)<=(t:Int)):=Oa;have aN:(t:Int)<(n:Int):=Oa;have aO:¬ ((n:Int)<(Y O:Int)):=Oa;have aP:t<=fuel:=G7<|Aa G;have aw:=Ab (show Bf (N.map Nd.aC) (fuel+1) (t:Int) O=DL (Bf (N.map Nd.aC) fuel) (t:Int) (N[t].aC) O by rw[Bf];dsimp only;rw[K0<|by rw[Aa H];exact hu,zP,zf,zi,zE L];rfl);have aj:Y N[t].aC<=3:=Aa ae _<|List.mem_map_of_mem<|zI L;rw[Aa aw];obtain⟨b,ax,rfl,ay,an,nn,cn,aQ,h,aR,c0,c1,c2,c3,c4,az,A⟩:=E.cells t L;have c4:=(J.cell (p:=⟨b,ax+t*5+4,V⟩) ay).trans c4;have M:=Ab λk O=>Oy (K:=N.map Nd.aC) (Aa ae) fuel k O;rw[Aa H]at M;generalize N[t]=x at c0 c1 c2 c3 c4 az A aj|-;generalize Bf (N.map Nd.aC) fuel=F at ai M|-;have ak:=Ab A.len;have aS:h<=3:=by rw[<-A.len];exact aj
  obtain⟨aA,aB,rfl,_⟩:=Af m;have al:=Ab (show DL F (t:Int) (x.aC.drop 0) O=DL F (t:Int) x.aC O by rw[List.drop_zero]);generalize DL F (t:Int) x.aC O=R at al|-;go_enter func56,ntmps56;go_wp2_with fail;go_loopw[2,33] (λu i wr=>∃ (j:Nat) (d:M4),j<=h/\i=T U j/\Hid (DL F (t:Int) (x.aC.drop j) d=R)/\Y d<=n+3*fuel+j/\jP wr B 3 1 u (Y d) (Ap d)/\Below B w wr/\Gm w (X aA (Y O) aB) wr u) (λ_ i _=>h-(intOf i).toNat);case atStart=>exact⟨0,O,Oa,rfl,al,Oa,m,BRN,Gm.refl _ _⟩
  obtain⟨j,d,aT,rfl,ao,aU,l,o,P⟩:=hrel;obtain⟨aV,aW,rfl,_⟩:=Af l;have S:=zB z o.size;have ap:=J.trans<|o.mono hB;by_cases aq:j<h
  .have aX:(j:Int)<(h:Int):=Oa;have ar:j<Y x.aC:=by rw[Aa ak];exact aq
   obtain⟨aY,ok,rfl,aZ,aD⟩:=(A.below ap NLN).cells j ar;have C:=Ab<|AbF (f:=F) (top:=(t:Int)) ar d;rw[Aa ao]at C;have au:=Ab aq;generalize x.aC[j]=y at aD C;by_cases hy:(t:Int)<=y
   .have r:=Ab (show R=d++[-1]by rw[Aa C,K1 hy]);go_wp2_with (at_builtin;refine J6 _ rfl _ _ 25 rfl B 3 i (T U 0) 1 8 underlying25 hi af ag ah rfl Ob _ _ _ rfl (K7 l _) ⟨jh<|Q wr,0,V⟩ 1 1 [T U<|-1] rfl rfl ?d1 ?d2 Ob ?d3 ?d4 ?d5 _ rfl ?_);first|(case d1=>exact A6 _ _ _ _ Oz)|skip
    case d2=>first|(intro u hu;simp at hu;subst hu;rfl)|rfl
    case d3=>unfold maxLen;omega
    case d4=>omega
    case d5=>first|(simp;omega)|omega
    intro g cap aE W s hat aF;have aa:=En (n:=Y d+1) (c:=cap) s hat;have ab:=(o.alloc S<|.cells #[T U<|-1] 3).grown s Od λq hq=>(l.lt q hq).1;have ac:=EZ W;go_wp2;go_ret;exact⟨_,rfl,by rw[Aa r];exact ac,ab,P.trans aa⟩
   have r:=Ab (show DL F (t:Int) (x.aC.drop<|j+1) (F y d)=R by rw[Aa C,K0 hy]);have a0:=Aa M y d;go_wp2_with (go_at_call 56;refine(ai y d _ wr Oa Oa Oa ap S l).mono ?_;rintro e w2 ⟨a1,rfl,aG,aH,aI⟩);go_roundw;case rel=>exact⟨j+1,F y d,Aa au,O0,r,Oa,aG,o.trans aH,P.trans aI⟩
   have:=Aa au;simp[intOf];omega
  have e:j=h:=Oa;subst e;have r:=Ab (show R=d++[(t:Int)]by rw[<-Aa ao,List.drop_of_length_le<|by rw[Aa ak];exact NLN,DL]);go_wp2_with (at_builtin;refine J6 _ rfl _ _ 25 rfl B 3 i (T U 0) 1 8 underlying25 hi af ag ah rfl Ob _ _ _ rfl (K7 l _) ⟨jh<|Q wr,0,V⟩ 1 1 [T U (t:Int)] rfl rfl ?e1 ?e2 Ob ?e3 ?e4 ?e5 _ rfl ?_);first|(case e1=>exact A6 _ _ _ _ Oz)|skip
  case e2=>first|(intro u hu;simp at hu;subst hu;rfl)|rfl
  case e3=>unfold maxLen;omega
  case e4=>omega
  case e5=>first|(simp;omega)|omega
  intro g cap aE W s hat aF;have aa:=En (n:=Y d+1) (c:=cap) s hat;have ab:=(o.alloc S<|.cells #[T U (t:Int)] 3).grown s Od λq hq=>(l.lt q hq).1;have ac:=EZ W;go_wp2;go_ret;exact⟨_,rfl,by rw[Aa r];exact ac,ab,P.trans aa⟩
set_option maxHeartbeats 1600000
theorem Xh(a:M3)(n c:Nat)(ss:M6)(l:M3)(d m:Nat)(tt:M6)(w:jD)(h:Am w a n c ss)(f:Am w l d m tt)(B:a=V->c=0)(C:l=V->m=0):Calls jZ 164 #[X a n c,X l d m] w λe w'=>Ub w ss tt e w':=by
 cases b:Ax ss
 .have r:=Ab (Aw.dF (ss:=ss) (tt:=tt)<|by rw[b];rfl);go_enter func164,ntmps164;go_wp2_with fail;refine(Ay _ _ _ _ _ h).mono ?_;rintro e g ⟨rfl,rfl⟩;rw[b];go_wp2;go_ret2;exact Ub.nil (Aa r) BRN
 cases k:Ax tt
 .have r:=Ab (Aw.dF (ss:=ss) (tt:=tt)<|by rw[b,k];rfl);go_enter func164,ntmps164;go_wp2_with fail;refine(Ay _ _ _ _ _ h).mono ?_;rintro e g ⟨rfl,rfl⟩;rw[b];go_wp2_with fail;refine(Ay _ _ _ _ _ f).mono ?_;rintro e g ⟨rfl,rfl⟩;rw[k];go_wp2;go_ret2;exact Ub.nil (Aa r) BRN
 have S:=(Mw b).1;have W:=(Mw k).1;have o:=Ab h.len;have p:=Ab f.len;have y:=Ab (show(Ax ss&&Ax tt)=true by rw[b,k];rfl);obtain⟨i,hi,aa,ab,ac⟩:=info_parts Gd;go_enter func164,ntmps164;go_wp2_with fail;refine(Ay _ _ _ _ _ h).mono ?_;rintro e g ⟨rfl,s⟩;rw[b,s];go_wp2_with fail;refine(Ay _ _ _ _ _ f).mono ?_;rintro e g ⟨rfl,s⟩;rw[k,s];have ad:n<=64:=G7<|Aa o;have ae:d<=64:=G7<|Aa p;go_wp2_with (at_builtin;refine Dh rfl _ _ rfl (R<|Q w) _ 0 [] rfl G8 a n c ss rfl h B Oa NLN ?_);intro af g t u;obtain⟨ag,ah,D⟩:=AG t;rw[D]at t|-;go_wp2_with (at_builtin;refine Dh rfl _ _ rfl (R<|Q w) _ n _ rfl t l d m tt rfl (f.below u NLN) C Oa u.size ?_);intro ai w2 q E;have v:=u.trans E;obtain⟨x2,F,G⟩:=AG q;rw[G]at q|-;rw[<-zN]at q;have H:Am w2 x2 (n+d) F<|ss++tt:=Am.bB q (by intro j aj;exact Uc (by rw[<-Aa o];exact h.bE) (by rw[<-Aa p];exact f.bE) j<|by have:=Aa o;have:=Aa p;simp;omega);go_wp2_with fail;refine(IU _ _ _ _ _ H<|by have:=Aa o;have:=Aa p;omega).mono ?_;rintro e ak ⟨x,I,K,rfl,J,L,M⟩;have z:=Ab M;have A:=v.trans<|L.mono v.size;have N:=ER J v.size;by_cases O:64<Y K
 .have P:(64:Int)<(Y K:Int):=Oa;go_wp2;go_ret2;exact Ub.nil (Aw.dS (Aa y) (Aa z) O) A
 have P:(Y K:Int)<=64:=Oa;go_wp2;go_ret2;exact⟨x,I,K,0,rfl,N,A,(Aw.dV (Aa y) (Aa z) Oa)⟩
set_option maxHeartbeats 800000
theorem Xp(a:M3)(n c:Nat)(ss:M6)(g:M3)(i j:Nat)(tt:M6)(w:jD)(h:Am w a n c ss)(d:Am w g i j tt):Calls jZ 170 #[X a n c,X g i j] w λe w'=>e=.returned (.bool<|Cy ss tt)/\Ak w w':=by
 cases f:Ax ss
 .go_enter func170,ntmps170;go_wp2_with fail;refine(Ay _ _ _ _ _ h).mono ?_;rintro e b ⟨rfl,rfl⟩;go_wp2;go_ret;exact⟨Ae<|by simp[Cy,f],BRN⟩
 cases k:Ax tt
 .go_enter func170,ntmps170;go_wp2_with fail;refine(Ay _ _ _ _ _ h).mono ?_;rintro e b ⟨rfl,rfl⟩;go_wp2_with fail;refine(Ay _ _ _ _ _ d).mono ?_;rintro e b ⟨rfl,rfl⟩;go_wp2;go_ret;exact⟨Ae<|by simp[Cy,k],BRN⟩
 have o:=(CF f).1;go_enter func170,ntmps170;go_wp2_with fail;refine(Ay _ _ _ _ _ h).mono ?_;rintro e b ⟨rfl,rfl⟩;go_wp2_with fail;refine(Ay _ _ _ _ _ d).mono ?_;rintro e b ⟨rfl,rfl⟩;go_wp2_with fail;refine(LJ _ _ _ _ _ _ _ _ _ _ h d Q5).mono ?_;rintro e b ⟨x,p,rfl,l,m⟩;clear l;go_wp2;go_ret;refine⟨Ae ?_,m⟩;simp only[Cy,f,k,zx];rw[zM];simp
structure K5 where
 op:Int
 num:Int
 text:M1
 an:M3
 nn:Nat
 cn:Nat
 ka:M3
 kn:Nat
 kc:Nat
theorem Ajs(e:Ex):e.st.aC=e.aC.map Ex.st:=Hg
theorem AgN(e:Ex):e.st.cv=e.cv:=Hg
theorem AaV(e:Ex):e.st.bQ=e.bQ:=by rw[Ex.bQ,Ex.bQ,AgN]
theorem Kq(ts:M4):∀(e:Ex),An ts e.st=An ts e:=by intro e;induction e<;>intros<;>grind[Ex.st,An]
theorem PQ:∀(e:Ex),AD e.st=AD e:=by intro e;induction e<;>intros<;>grind[Ex.st,AD]
theorem AgO(R:Rq)(ls:N6):∀(e:Ex),At R ls e.st=At R ls e:=by intro e;induction e<;>intros<;>grind[At,Ex.st]
theorem Kr:∀(e:Ex),e.st.aL=e.aL:=by intro e;induction e<;>intros<;>grind[Ex.st,Ex.aL]
theorem AmM:∀(e:Ex),e.st.st=e.st:=by intro e;induction e<;>intros<;>grind[Ex.st]
theorem AaW(b:Bool)(e:Ex):isB b e.st=isB b e:=Hg
theorem Alf(n:Int)(e:Ex):SQ n e.st=SQ n e:=Hg
theorem Alg(e:Ex):Km e.st=Km e:=Hg
theorem Ajt(x y:Ex):sameL x.st y.st=sameL x y:=by cases x<;>cases y<;>rfl
theorem Alh(x y:Ex):VY x.st y.st=VY x y:=by rw[VY,VY,AaV,AgN,AgN]
theorem AmN(v:Vv):v.ex.st=v.ex:=by cases v<;>rfl
theorem Aju(b:Bool)(x y:Ex):GL b x.st y.st=(GL b x y).map Ex.st:=by grind[PQ,AaW,GL]
theorem Ajv(op:Int)(x y:Ex):DE op x.st y.st=(DE op x y).map Ex.st:=by
 have d:∀(c:Prop)[Decidable c] (a b:N5),(if c then a else b).map Ex.st=if c then a.map Ex.st else b.map Ex.st:=λc _ a b=>by split<;>rfl
 unfold DE EI Hy Fc Nb DD Hz Dt Fh inE;simp only[Aju,Alg,Alf,Ajt,PQ,d,z0,Option.map_none,Ex.st]
theorem Ajw(e:Ex):AM e.st=AM e:=by
 unfold AM;rw[Ajs,AgO];have h1:(e.aC.map Ex.st).isEmpty=e.aC.isEmpty:=by cases e.aC<;>rfl
 grind[Ex.st,List.all_map,Ex.bQ,AaV,Ex.aC]
theorem Ajx{e c:Ex}(h:AM e=Z c):c.st=c:=by grind[AM,AmN]
theorem Ajy(ls:M8)(e:Ex):AS (ls.map Ex.st) e.st=(AS ls e).map Ex.st:=by cases e with
 |lett i n=>grind[Ex.st,AS,Ex.bQ,AaV]|un i op k=>
   show(if op=9 then LS k.st else V)=Option.map Ex.st (if op=9 then LS k else V);split
   .cases k with|un a o j=>show(if o=9 then Z j.st else V)=Option.map Ex.st (if o=9 then Z j else V);split<;>rfl|_=>rfl
   rfl|bin i op x y=>exact Ajv op x y|ite i c t e=>grind[Ex.st,AS,PQ,Alh,AD,VY,AaW,isB]|_=>rfl
theorem FE(ls:M8)(e:Ex):NN (ls.map Ex.st) e.st=(NN ls e).st:=by unfold NN;rw[Ajw];cases hf:AM e with|some c=>exact(Ajx hf).symm|none=>dsimp only;rw[Ajy];simp_all
theorem LT(ls:M8):∀(e:Ex),Cw (ls.map Ex.st) e.st=(Cw ls e).st|.un i op k=>by rw[Ex.st,Cw,Cw,LT ls k];exact FE ls<|.un i op<|Cw ls k|.bin i op l b=>by rw[Ex.st,Cw,Cw,LT ls l,LT ls b];exact FE ls<|.bin i op (Cw ls l)<|Cw ls b|.ite i c t e=>by rw[Ex.st,Cw,Cw,LT ls c,LT ls t,LT ls e];exact FE ls<|.ite i (Cw ls c) (Cw ls t)<|Cw ls e|.int i n=>FE ls<|.int i n|.text i n=>FE ls<|.text i n|.bool i n=>FE ls<|.bool i n|.set i a n c ss=>FE ls<|.set i a n c ss|.name i n=>FE ls<|.name i n|.attr i n=>FE ls<|.attr i n|.lett i n=>FE ls<|.lett i n
end Go.Proofs.YtlcfoihgfcmfeaaGreatDoor
