import Derived.Test.YteiieikcjcfkkaaGreatDoorMXAO
import Derived.Test.YteiieikcjcfkkaaGreatDoorMXAR
open Go.Proofs.Tryz
open Option renaming none->T,some->X
open Go.Value renaming int->U,slice->Y,string->Q,agg->jG,pointer->jK,tuple->jO,ownBlock->ja
open Go.IntKind renaming i64->V
open Go renaming World->Z,Value->R,Addr->jD,Calls->jE,bodyPost_ret->jN,results->jR,Ending->jT,info_parts->jZ,heap_setCell_other->jc,wpList_append_lies->jj
open Go.Obj renaming cells->jF
open Go.Ending renaming returned->jH
open Go.World.ownsRow renaming alloc->jV
open Go.RowKit.Below renaming heap_alloc->jt
open Go.Proofs.Tryz renaming prog->j4
namespace Go.Proofs.YteiieikcjcfkkaaGreatDoor
set_option maxRecDepth 100000
set_option maxHeartbeats 1600000
open Go.RowKit
set_option linter.unusedVariables false
variable {tmps:Array R}{op n:Int}{k:K5}{ns:List ByteArray}{ts tt d:List Int}{t:List R}{B lb g cap size:Nat}{o:Obj}{H:Option jD}{b lv c a i:R}{w w':Z}
def RwA (z:Ex) (w:Z) (r:jT) (w':Z):Prop:=
 (∃k:K5,r=jH (jG #[U V k.op,U V k.num,Q k.text,Y k.an k.nn k.cn,Y k.ka k.kn k.kc])/\Tq w' z k)/\Ah w w'
def LtQ (w:Z) (la:Option jD) (ls:List Ex):Prop:=∃vs:List K5,vs.length=ls.length/\BT w la vs/\∀j,(h1:j<ls.length)->(h2:j<vs.length)->Tq w ls[j] vs[j]
theorem LtQ.below {w w':Z}{B:Nat}{c:Option jD}{ls:List Ex}(h:LtQ w c ls)(d:Below B w w')(hB:w.heap.size<=B):LtQ w' c ls:=by
 obtain⟨f,h1,h2,h3⟩:=h;exact⟨f,h1,h2.below d hB,fun j a b=>(h3 j a b).below d hB⟩
theorem Fv {fn:Func}{a:Tmp}(h:fn.results= #[.cell a 48]){b:Nat}{c d f g:Value}(j:tmps.getD a undef=jK (X ⟨b,0,T⟩))
  (R:Ag w b #[c,d,f,g,i] 48):(jR fn tmps).run j4 w= .ok (jG #[c,d,f,g,i]) w:=by
 rw[Array.getD_eq_getD_getElem?]at j;have g0:w.cell? ⟨b,0,T⟩=X c:=R.cell 0;have g1:w.cell? ⟨b,1,T⟩=X d:=R.cell 1;have g2:w.cell? ⟨b,2,T⟩=X f:=R.cell 2;have g3:w.cell? ⟨b,3,T⟩=X g:=R.cell 3;have k:w.cell? ⟨b,4,T⟩=X i:=R.cell 4;simp[jR,h,j,go_sem,g0,g1,g2,g3,k]
def AgT (k:K5):Array R:=#[U V k.op,U V k.num,Q k.text,Y k.an k.nn k.cn,Y k.ka k.kn k.kc]
theorem Ie {e:Ex}(c:Option jD)(d f:Nat)(he:Tq w e k)(a:k.kn=0)(h7:k.op≠7):
  jE j4 43 #[jG #[U V k.op,U V k.num,Q k.text,Y k.an k.nn k.cn,Y k.ka k.kn k.kc],Y c d f] w (RwA e w):=by
 have i:(k.op==7)=false:=zA.2 h7;have j:((k.kn:Int)==0)=true:=by rw[a];rfl
 have b:=Ab ((Av w (jF (AgT k) 48)).alloc (by simp) (jF (AgT k) 48));have g:=Ab (he.below (Aa b) NLN);have h:=Ab (Ag.new (w.alloc (jF (AgT k) 48)) (AgT k) 48);clear he a h7;go_enter func43,ntmps43
 go_wp2_with fail
 exact jN (Fv results43 (by simp) (Aa h)) rfl ⟨⟨k,rfl,Aa g⟩,Aa b⟩
theorem AgU {i:Int}{x:Nat}{ls:List Ex}(he:Tq w (.lett i n) k)(W:LtQ w H ls)(aa:x=ls.length)(ab:x<=lb)(ac: 0<=n/\n<ls.length)(J:∀z∈ls,Be z=true):
  jE j4 43 #[jG #[U V k.op,U V k.num,Q k.text,Y k.an k.nn k.cn,Y k.ka k.kn k.kc],Y H x lb] w (RwA (AG ls (.lett i n)) w):=by
 subst aa;obtain⟨m,rfl⟩:∃m:Nat,n=m:=⟨n.toNat,by omega⟩
 have hm:m<ls.length:=by omega
 obtain⟨K,ad,L,hq⟩:=W;have D:m<K.length:=by omega
 have e1:k.op=7:=he.1;have e2:k.num=m:=he.2.1;have e3:k.kn=0:=he.2.2.2.1;obtain⟨ah,ai,o,q,r,s,t,aj,u⟩:=k;dsimp only at e1 e2 e3;subst e1 e2 e3;obtain⟨g,a,rfl,hg,hc⟩:=Bh L (by omega);have M:=hc m D;have v:=hq m hm D;have E:=J _ (zH hm);have f:AG ls (.lett i m)=if ls[m].con then ls[m]else .lett i m:=by
  simp only[AG,FL,Ar,Ex.kids,List.isEmpty_nil,if_true,AR,zV,zG hm];cases ls[m].con<;>rfl
 rw[f];generalize ls[m]=z at v E f|-;generalize K[m]=l at v M;obtain⟨y,a1,a2,a3,a4⟩:=M;have ae:(m:Int)<(ls.length:Int):=by omega
 generalize ls.length=x at ae ab|-;have c:=((Av w (BV 7 m o q r s t 0 u)).alloc (by simp) Gy)
 have b:=Ag.new (w.alloc (BV 7 m o q r s t 0 u)) #[U V 0,U V 0,Q ⟨#[]⟩,Y T 0 0,Y T 0 0] 48;have h:=(Ag.new w #[U V 7,U V m,Q o,Y q r s,Y t 0 u] 48).alloc Gy;replace y:=(c.cell (p:=⟨g,a+m*5,T⟩) hg).trans y;replace a1:=(c.cell (p:=⟨g,a+m*5+1,T⟩) hg).trans a1;replace a2:=(c.cell (p:=⟨g,a+m*5+2,T⟩) hg).trans a2;replace a3:=(c.cell (p:=⟨g,a+m*5+3,T⟩) hg).trans a3;replace a4:=(c.cell (p:=⟨g,a+m*5+4,T⟩) hg).trans a4;have N:=Ab (Dn (v.below c NLN) E);have af:=Ab he;have ag:=Ab v;clear he v hc hq L J f ad hm D ac E;have F:=Ab c;have O:=Ab b;have P:=Ab h;have j:g<((w.alloc (BV 7 m o q r s t 0 u)).alloc Gy).heap.size:=by simp;omega
 clear c b h;generalize f:(if z.con then z else .lett i (m:Int))=S;have A:=Ab f;clear f;go_enter func43,ntmps43
 go_wp2_with fail
 refine(Aa N).mono ?_;rintro ak al ⟨rfl,b2⟩;have B:=(Aa F).trans (b2.mono (Aa F).size);have b:=(Aa O).after b2 NLN;have h:=(Aa P).after b2 NLN;replace y:=(b2.cell (p:=⟨g,a+m*5,T⟩) j).trans y;replace a1:=(b2.cell (p:=⟨g,a+m*5+1,T⟩) j).trans a1;replace a2:=(b2.cell (p:=⟨g,a+m*5+2,T⟩) j).trans a2;replace a3:=(b2.cell (p:=⟨g,a+m*5+3,T⟩) j).trans a3;replace a4:=(b2.cell (p:=⟨g,a+m*5+4,T⟩) j).trans a4;simp only[World.size_alloc]at b;clear N F O P b2 j;dsimp only;obtain⟨ao,ap,x2,x3,aq,-⟩:=Ay h;obtain⟨ar,au,r2,r3,av,-⟩:=Ay b;obtain⟨aw,ax,ay,az,aA⟩:=Eu b;cases C:z.con with
 |false=>
  have d:=Ab (QL ⟨7,m,o,q,r,s,t,0,u⟩ B b (zj _));have G:=Ab (show S= .lett i m by rw[<-Aa A,C];rfl);clear B b h C A;go_wp2_with fail
  exact jN (Fv results43 rfl (Aa d).2) rfl (by rw[Aa G];exact⟨⟨_,rfl,(Aa af).below (Aa d).1 NLN⟩,(Aa d).1⟩)
 |true=>
  have d:=Ab (QL l B b (zj _));have G:=Ab (show S=z by rw[<-Aa A,C];rfl);clear B b h C A;go_wp2_with fail
  exact jN (Fv results43 rfl (Aa d).2) rfl (by rw[Aa G];exact⟨⟨_,rfl,(Aa ag).below (Aa d).1 NLN⟩,(Aa d).1⟩)
set_option maxHeartbeats 3200000
def CQ:List (Option Int)->Option (List Int)
 |[]=>X []
 |none ::_=>T
 |some t ::r=>(CQ r).map (t :: ·)
theorem MI:∀{os:List (Option Int)} {K:List Int},CQ os=X K->K.length=os.length
 |[],K,h=>by cases h;rfl
 |none ::_,K,h=>by cases h
 |some t ::r,K,h=>by
  rw[CQ]at h;obtain⟨a,h1,h2⟩:=Option.map_eq_some_iff.1 h;rw[<-h2,List.length_cons,List.length_cons,MI h1]
theorem NX (o:Option Int):∀(os:List (Option Int)) (K:List Int),CQ os=X K->CQ (os++[o])=o.map (fun t=>K++[t])
 |[],K,h=>by cases h;cases o<;>rfl
 |none ::_,K,h=>by cases h
 |some t ::r,K,h=>by
  rw[CQ]at h;obtain⟨a,h1,h2⟩:=Option.map_eq_some_iff.1 h;rw[List.cons_append,CQ,NX o r a h1,<-h2];cases o<;>rfl
theorem NY:∀(os:List (Option Int)) (k:Nat),CQ (os.take k)=T->CQ os=T
 |[],k,h=>by simpa using h
 |none ::_,k,h=>rfl
 |some t ::r,0,h=>by cases h
 |some t ::r,k+1,h=>by
  rw[List.take_succ_cons,CQ,Option.map_eq_none_iff]at h;rw[CQ,NY r k h];rfl
def MJ (o:Option Int) (w:Z) (r:jT) (w':Z):Prop:=(∃ty code,r=jH (jO #[U V ty,U V code])/\((code=0/\o=X ty)\/(code≠0/\o=T)))/\Ah w w'
def tyN (op:Int) (os:List (Option Int)):Option Int:=match CQ os with
 |none=>T
 |some K=>nz (CT op K)
theorem OF (a:Option jD)(n c:Nat)(N:List Nd)(lb:Nat)(w:Z)(O:GY w a n c N)(i:Nat)(x:Nd)(hx:N[i]? =X x)(l:Jb x.op)(P:(DH x.op).1.length<=x.kids.length)(os:List (Option Int))(S:os.length=x.kids.length)
  (W:∀j,(h:j<x.kids.length)->(h2:j<os.length)->∀F,Ah w F->jE j4 84 #[Y a n c,U V x.kids[j],jK (X ⟨lb,0,T⟩)] F (MJ os[j] F)):
  jE j4 84 #[Y a n c,U V i,jK (X ⟨lb,0,T⟩)] w (MJ (tyN x.op os) w):=by
 obtain⟨aq,ar,au,av,aw⟩:=jZ Kr;have ax:=O.len;have hi:i<N.length:=(zd.1 hx).1;have aa:N[i]=x:=(zd.1 hx).2;have aU:(i:Int)<(n:Int):=by omega
 obtain⟨b,aV,rfl,aW,an,nn,cn,r,d,s,ay,c1,c2,c3,c4,az,z⟩:=O.cells i hi;rw[aa]at ay c1 c2 z;have ab:=Ab z.len;have aX:=z.small;have G:=Ab S;have aA:=Ab W;have aB:=Ab P;have aC:=Ab (fun K h=>(show tyN x.op os=nz (CT x.op K) by rw[tyN,(show CQ os=X K from h)]));have aD:=Ab (show CQ os=T->tyN x.op os=T from fun h=>by rw[tyN,h]);have aY:(x.op==5)=false:=zA.2 (by unfold Jb at l;omega);have aZ:(x.op==6)=false:=zA.2 (by unfold Jb at l;omega);have a0:(x.op==7)=false:=zA.2 (by unfold Jb at l;omega);have aE:=Ab l;clear az;clear ax hx aa hi P S W l;have ac:=Ag.new w #[U V x.op,U V x.num,Q x.text,Y an nn cn,Y r d s] 85;have f:=Av w (Dw x.op x.num x.text an nn cn r d s);have ad:w.heap.size<(w.alloc (Dw x.op x.num x.text an nn cn r d s)).heap.size:=by simp
 go_enter func84,ntmps84
 go_wp2_with fail
 generalize w.alloc (Dw x.op x.num x.text an nn cn r d s)=H at ac f ad|-;go_loopw [11,71] (fun v i wr=>∃ (j:Nat) (K:List Int),j<=d/\i=U V j/\wr.ownsRow H.heap.size 3 1 v K.length (Aq K)/\Hid (CQ (os.take j)=X K)/\Ah H wr) (fun _ i _=>d-(intOf i).toNat)
 case atStart=>exact⟨0,[],by omega,rfl,World.ownsRow_nil _ _ _ _,Ab rfl,BRN⟩
 case round=>
  obtain⟨j,K,a1,rfl,A,I,m⟩:=hrel;have ae:=f.trans (m.mono f.size);have af:=m.size;have a2:K.length<=d:=by have:=MI (Aa I);rw[zr]at this;omega
  by_cases J:j<d
  ·have a3:(j:Int)<(d:Int):=by omega
   have B:j<x.kids.length:=by rw[Aa ab];exact J
   have L:j<os.length:=by rw[Aa G];exact B
   obtain⟨a4,ok,rfl,a5,aF⟩:=(z.below ae NLN).cells j B;have o:=Ab (Aa aA j B L _ ae);have p:=Ab (show CQ (os.take (j+1))=os[j].map (fun t=>K++[t]) by rw[zQ L];exact NX _ _ _ (Aa I));have C:=Ab (show os[j]=T->tyN x.op os=T from fun e=>Aa aD (NY os (j+1) (by rw[Aa p,e];rfl)));have ag:=Ab J;generalize x.kids[j]=y at aF o;generalize os[j]=a6 at o p C;obtain⟨aG,aH,rfl,_⟩:=Ae A;clear B L J;go_wp2_with fail
   refine(Aa o).mono ?_;rintro aI aJ ⟨⟨ty,ah,rfl,aK⟩,ai⟩;have D:=m.trans (ai.mono af);have aj:=An A ai NLN;rcases aK with⟨rfl,rfl⟩|⟨hc,rfl⟩
   ·have aL:=Ab (show CQ (os.take (j+1))=X (K++[ty])from Aa p);have a7:=D.size;clear p C o;dsimp only;go_wp2_with (at_builtin;refine wpList_append_own _ rfl _ _ 24 rfl H.heap.size 3 aq (U V 0) 1 8 underlying24 ar au av aw rfl (by decide) _ _ _ rfl (jV aj _) ⟨aJ.heap.size,0,T⟩ 1 1 [U V ty] rfl rfl ?d1 ?d2 ?d3 ?d4 ?d5 ?_)
    case d1=>exact A5 _ _ _ _ (by simp)
    case d2=>intro u ak;simp at ak;subst ak;rfl
    case d3=>unfold maxLen;omega
    case d4=>omega
    case d5=>simp;omega
    intro a8 a9 aM al _;have aN:=(D.alloc D.size (jF #[U V ty] 3)).grown al (by simp;omega) (fun q hq=>(aj.lt q hq).1);clear al;go_wp2_with fail
    go_roundw
    case rel=>exact⟨j+1,K++[ty],Aa ag,by go_num,ES aM,aL,aN⟩
    case measure=>have:=Aa ag;simp[intOf];omega
   ·have ec:(ah !=0)=true:=zc.2 hc;have g:=Ab (Aa C rfl);have aO:=Ab hc;clear hc p C o;dsimp only;go_wp2_with fail
    exact jN (v:= jO #[U V 0,U V ah]) (by simp[jR,results84,go_sem]) rfl ⟨⟨_,_,rfl,.inr ⟨Aa aO,Aa g⟩⟩,f.trans (D.mono f.size)⟩
  ·have e:j=d:=by omega
   subst e;have ao:=Ab (show CQ os=X K by rw[<-Aa I,zY (by rw[Aa G,Aa ab];exact NLN)]);have g:=Ab (Aa aC K (Aa ao));have aP:=MI (Aa ao);have aQ:=Ab (show(DH x.op).1.length<=K.length by have:=Aa aB;have:=Aa G;omega);obtain⟨aG,aH,rfl,_⟩:=Ae A;have aR:=BS A (by omega);have aS:=ac.below m ad;have ba:wr.cell? ⟨w.heap.size,0,T⟩=X (U V x.op):=aS.cell 0;clear aP;go_wp2_with fail
   refine(Aac x.op (Aa aE) _ _ _ K _ aR (Aa aQ)).mono ?_;rintro aI bb ⟨rfl,aT⟩;have ap:=m.trans (aT.mono af);dsimp only;by_cases k:CT x.op K=0
   ·have M:(CT x.op K==0)=true:=zM.2 k;have E:=Ab (show tyN x.op os=T by rw[Aa g,nz,if_pos k]);clear k g;generalize CT x.op K=tt at M;go_wp2_with fail
    exact jN (v:= jO #[U V 0,U V 9]) (by simp[jR,results84,go_sem]) rfl ⟨⟨_,_,rfl,.inr ⟨by decide,Aa E⟩⟩,f.trans (ap.mono f.size)⟩
   ·have M:(CT x.op K==0)=false:=zA.2 k;have E:=Ab (show tyN x.op os=X (CT x.op K) by rw[Aa g,nz,if_neg k]);clear k g;generalize CT x.op K=tt at M E;go_wp2_with fail
    exact jN (v:= jO #[U V tt,U V 0]) (by simp[jR,results84,go_sem]) rfl ⟨⟨_,_,rfl,.inl ⟨rfl,Aa E⟩⟩,f.trans (ap.mono f.size)⟩
set_option maxHeartbeats 1600000
theorem Yg (a:Option jD)(n c:Nat)(N:List Nd)(lb:Nat)(w:Z)(d:GY w a n c N)(i:Nat)(x:Nd)(hx:N[i]? =X x)(f:x.op=6):
  jE j4 84 #[Y a n c,U V i,jK (X ⟨lb,0,T⟩)] w (MJ (X (Bw x.num)) w):=by
 have l:=d.len;have hi:i<N.length:=(zd.1 hx).1;have g:N[i]=x:=(zd.1 hx).2;have s:(i:Int)<(n:Int):=by omega
 obtain⟨b,t,rfl,u,an,nn,cn,m,o,p,h,c1,c2,c3,c4,q,j⟩:=d.cells i hi;rw[g]at h c1 c2 j;rw[f]at h;clear q j;clear l hx g hi f d;have r:=Av w (Dw 6 x.num x.text an nn cn m o p);generalize x.num=k at*;generalize x.text=y at*;go_enter func84,ntmps84
 go_wp2_with fail
 refine(RI k _).mono ?_;rintro z A ⟨rfl,rfl⟩;dsimp only;go_wp2_with fail
 exact jN (v:= jO #[U V (Bw k),U V 0]) (by simp[jR,results84,go_sem]) rfl ⟨⟨_,_,rfl,.inl ⟨rfl,rfl⟩⟩,r⟩
theorem Yh (a:Option jD)(n c:Nat)(N:List Nd)(lb:Nat)(w:Z)(j:GY w a n c N)(i:Nat)(x:Nd)(hx:N[i]? =X x)(l:x.op=7)(h0: 0<=x.num)(m:Option jD)(f o:Nat)(ts:List Int)
  (B:w.cell? ⟨lb,1,T⟩=X (Y m f o))(C:lb<w.heap.size)(q:AK w m f o ts):
  jE j4 84 #[Y a n c,U V i,jK (X ⟨lb,0,T⟩)] w (MJ ts[x.num.toNat]? w):=by
 have D:=j.len;have hi:i<N.length:=(zd.1 hx).1;have r:N[i]=x:=(zd.1 hx).2;have M:(i:Int)<(n:Int):=by omega
 obtain⟨b,O,rfl,P,an,nn,cn,E,F,G,s,c1,c2,c3,c4,H,u⟩:=j.cells i hi;rw[r]at s c1 c2 u;rw[l]at s;clear H u;clear D hx r hi l j;have y:=q.len;generalize x.text=I at*;obtain⟨d,z⟩:∃d:Nat,x.num=d:=⟨x.num.toNat,by omega⟩
 rw[z]at c1|-;rw[zV];have g:=Av w (Dw 7 d I an nn cn E F G);have S:=(g.cell (p:=⟨lb,1,T⟩) C).trans B;have J:=q.below g NLN;clear z h0;by_cases A:f<=d
 ·have K:(f:Int)<=(d:Int):=by omega
  have h:=Ab (show ts[d]? =T from yA (by omega));clear A y;go_enter func84,ntmps84
  go_wp2_with fail
  go_region
  all_goals
   go_wp2_with fail
   exact jN (v:= jO #[U V 0,U V 7]) (by simp[jR,results84,go_sem]) rfl ⟨⟨_,_,rfl,.inr ⟨by decide,Aa h⟩⟩,g.drew⟩
 ·have K: ¬ ((f:Int)<=(d:Int)):=by omega
  have W:(d:Int)<(f:Int):=by omega
  have k:d<ts.length:=by omega
  obtain⟨aa,ab,rfl,ac,L⟩:=J.cells d k;have h:=Ab (show ts[d]? =X ts[d]from zG k);generalize ts[d]=t at L h;clear A y k;go_enter func84,ntmps84
  go_wp2_with fail
  go_region
  all_goals
   go_wp2_with fail
   go_region
   all_goals
    go_wp2_with fail
    exact jN (v:= jO #[U V t,U V 0]) (by simp[jR,results84,go_sem]) rfl ⟨⟨_,_,rfl,.inl ⟨rfl,Aa h⟩⟩,g.drew.drew⟩
theorem Yi {x:Nd}(h:Jb x.op)(a:(x.kids.length:Int)=CI x.op):(DH x.op).1.length<=x.kids.length:=by
 unfold Jb at h;generalize x.op=op at*;generalize x.kids.length=m at*;by_cases h1: 1<=op/\op<=7
 ·have:op=1\/op=2\/op=3\/op=4:=by omega
  rcases this with rfl|rfl|rfl|rfl<;>simp[DH]
 by_cases h2: 8<=op/\op<=10
 ·rw[CI,if_neg h1,if_pos h2]at a;have:op=8\/op=9\/op=10:=by omega
  rcases this with rfl|rfl|rfl<;>simp[DH]<;>omega
 by_cases h3: 11<=op/\op<=26
 ·rw[CI,if_neg h1,if_neg h2,if_pos h3]at a;have:op=11\/op=12\/op=13\/op=14\/op=15\/op=16\/op=17\/op=18\/op=19\/op=20\/op=21\/op=22\/op=23\/op=24\/op=25\/op=26:=by omega
  rcases this with rfl|rfl|rfl|rfl|rfl|rfl|rfl|rfl|rfl|rfl|rfl|rfl|rfl|rfl|rfl|rfl<;>simp[DH]<;>omega
 ·have h4:op=27:=by omega
  rw[CI,if_neg h1,if_neg h2,if_neg h3,if_pos h4]at a;subst h4;simp[DH];omega
theorem AiV (h: 8<=op/\op<=10)(ts:List Int)(i:Int)(k:Ex):tyN op [Al ts k]=Al ts (.un i op k):=by
 rw[Al];cases Al ts k with
 |none=>rfl
 |some a=>show _=nz (Ba op [a]);rw[<-AfI op a h];rfl
theorem Ahx (h: 11<=op/\op<=26)(c:∀t∈ts,1<=t/\t<=4)(i:Int)(k l:Ex):tyN op [Al ts k,Al ts l]=Al ts (.bin i op k l):=by
 rw[Al];have d:=MV c k;cases f:Al ts k with
 |none=>rfl
 |some a=>
  have:=d a f;cases Al ts l with
  |none=>rfl
  |some b=>show _=nz (Ba op [a,b]);rw[<-AcT op a b h (by omega)];rfl
theorem Ahy (d:∀t∈ts,1<=t/\t<=4)(i:Int)(k l m:Ex):tyN 27 [Al ts k,Al ts l,Al ts m]=Al ts (.ite i k l m):=by
 rw[Al];have f:=MV d l;cases h:Al ts k with
 |none=>rfl
 |some a=>
  cases g:Al ts l with
  |none=>rfl
  |some b=>
   have:=f b g;cases Al ts m with
   |none=>rfl
   |some c=>show _=nz (Ba 27 [a,b,c]);rw[<-AcU a b c (by omega)];rfl
theorem Aad (a:Option jD)(n c:Nat)(N:List Nd)(H:∀x∈N,AY x=true)(lb:Nat)(s:Option jD)(z A:Nat)(ts:List Int)(G:∀t∈ts,1<=t/\t<=4){i:Nat}{e:Ex}(t:Cg N i e):
  ∀w,GY w a n c N->w.cell? ⟨lb,1,T⟩=X (Y s z A)->lb<w.heap.size->AK w s z A ts->
  jE j4 84 #[Y a n c,U .i64 i,jK (X ⟨lb,0,T⟩)] w (MJ (Al ts e) w):=by
 have B:∀{i:Nat} {x:Nd},N[i]? =X x->(x.kids.length:Int)=CI x.op/\x.op≠5/\(x.op=7->0<=x.num):=fun {i x} hx=>by
  have h:=H _ (zp hx);have h2:=((Jj x).1 h).2;rw[AY,zF,zI]at h;refine⟨h.1,fun e=>?_,fun e=>(h2 e).1⟩;have:=h.2;simp[e]at this
 have leaf:∀{i:Nat} {x:Nd},N[i]? =X x->Jb x.op->x.kids=[]->∀w,GY w a n c N->jE j4 84 #[Y a n c,U .i64 i,jK (X ⟨lb,0,T⟩)] w (MJ (tyN x.op []) w):=fun {i x} hx b d w h1=>
  OF a n c N lb w h1 i x hx b (Yi b (B hx).1) [] (by rw[d];rfl) (fun j h=>absurd h (by rw[d];simp))
 have D:∀{i:Nat} {x:Nd} {os:List (Option Int)},N[i]? =X x->Jb x.op->∀w,GY w a n c N->w.cell? ⟨lb,1,T⟩=X (Y s z A)->lb<w.heap.size->AK w s z A ts->os.length=x.kids.length->
   (∀(j:Nat) (y:Int) (o:Option Int),x.kids[j]? =X y->os[j]? =X o->∀q,GY q a n c N->q.cell? ⟨lb,1,T⟩=X (Y s z A)->lb<q.heap.size->AK q s z A ts->jE j4 84 #[Y a n c,U .i64 y,jK (X ⟨lb,0,T⟩)] q (MJ o q))->
   jE j4 84 #[Y a n c,U .i64 i,jK (X ⟨lb,0,T⟩)] w (MJ (tyN x.op os) w):=fun {i x os} hx b w h1 h2 h3 h4 hl V=>
  OF a n c N lb w h1 i x hx b (Yi b (B hx).1) os hl (fun j h I q C=>V j _ _ (zG h) (zG I) q (h1.below C NLN) ((C.cell (p:=⟨lb,1,T⟩) h3).trans h2) (zE h3 C.size) (h4.below C NLN))
 induction t with
 |int h b d=>intro w h1 _ _ _;have:=leaf h (by rw[b];unfold Jb;omega) d w h1;rw[b]at this;exact this
 |text h b d=>intro w h1 _ _ _;have:=leaf h (by rw[b];unfold Jb;omega) d w h1;rw[b]at this;exact this
 |bool h b d=>intro w h1 _ _ _;have:=leaf h (by rw[b];unfold Jb;omega) d w h1;rw[b]at this;exact this
 |set h b d _ _ _=>intro w h1 _ _ _;have:=leaf h (by rw[b];unfold Jb;omega) d w h1;rw[b]at this;exact this
 |name h b d=>exact absurd b (B h).2.1
 |attr h b d=>intro w h1 _ _ _;exact Yg a n c N lb w h1 _ _ h b
 |@lett i x h b d=>
  intro w h1 h2 h3 h4;have h0:=(B h).2.2 b;have:=Yh a n c N lb w h1 _ _ h b h0 s z A ts h2 h3 h4;rw[Al,if_pos h0];exact this
 |@un i k x e h b d hi t J=>
  intro w h1 h2 h3 h4;rw[<-AiV b];refine D h (by unfold Jb;omega) w h1 h2 h3 h4 (by rw[d];rfl) (fun j y o hy r q=>?_);rw[d]at hy
  match j with
  |0=>cases hy;cases r;exact J q
  |j+1=>simp at hy
 |@bin i k l x e f h b d hi t u E F=>
  intro w h1 h2 h3 h4;rw[<-Ahx b G];refine D h (by unfold Jb;omega) w h1 h2 h3 h4 (by rw[d];rfl) (fun j y o hy r q=>?_);rw[d]at hy
  match j with
  |0=>cases hy;cases r;exact E q
  |1=>cases hy;cases r;exact F q
  |j+2=>simp at hy
 |@ite i k l m x e f g h b d hi t u v E F K=>
  intro w h1 h2 h3 h4;rw[<-Ahy G,<-b];refine D h (by unfold Jb;omega) w h1 h2 h3 h4 (by rw[d];rfl) (fun j y o hy r q=>?_);rw[d]at hy
  match j with
  |0=>cases hy;cases r;exact E q
  |1=>cases hy;cases r;exact F q
  |2=>cases hy;cases r;exact K q
  |j+3=>simp at hy
set_option maxHeartbeats 3200000
theorem AK.keep {v g:R}{a:Option jD}{n c:Nat}{L:List Int}(h:AK w a n c L)(k:In w v w' g)(i:∀x,a=X x->X x.block≠v.ownBlock):AK w' a n c L:=
 ⟨h.len,h.small,fun j l=>by
  obtain⟨b,m,d,f,o⟩:=h.cells j l;exact⟨b,m,d,zE f k.2.2,(World.cell?_of_block (w:=w) (k.1 b f (i _ d))).trans o⟩⟩
def ET (Es:List Ex) (ts:List Int) (i:Nat):Option Int:=(Es[i]?).bind (Al ts)
def AhN (B:Nat) (tv:R) (tt:List Int) (o:Option (List Int)) (w:Z) (r:jT) (w':Z):Prop:=
 (∃ys v',o=X ys/\r=jH (jO #[v',jG #[U V 0,U V 0]])/\w'.ownsRow B 3 1 v' (tt++ys).length (Aq (tt++ys))/\In w tv w' v'/\Below B w w')\/
 (o=T/\(∃v' code a,r=jH (jO #[v',jG #[U V code,U V a]])/\(v'=Y T 0 0\/∃x n c,v'=Y x n c)/\code≠0)/\Below B w w')
theorem Aae (a:Option jD)(n c:Nat)(N:List Nd)(ax:∀x∈N,AY x=true)(w0:Z)(ay:GY w0 a n c N)(B:Nat)(hB:w0.heap.size<=B)(lb:Nat)(r:Option jD)(z A:Nat)(ts:List Int)(az:∀t∈ts,1<=t/\t<=4)(Es:List Ex)(aU:Es.length=n)(aA:∀j,(h:j<Es.length)->Cg N j Es[j])
  (f m:Nat)(aV:f+m<=n)(hf: 1<=f+m)(bq:n<=4000)(J:R)(tt:List Int)(br:tt.length<=4000)(w:Z)(aB:Ah w0 w)(s:B<=w.heap.size)(h2:w.cell? ⟨lb,1,T⟩=X (Y r z A))(h3:lb<w.heap.size)(h4:AK w r z A ts)(h5:X lb≠J.ownBlock)(h6:∀x,r=X x->X x.block≠J.ownBlock)(aa:w.ownsRow B 3 1 J tt.length (Aq tt)):
  jE j4 46 #[Y a n c,U V f,U V ((f+m:Nat)-1 :Int),jK (X ⟨lb,0,T⟩),J] w (AhN B J tt (CQ ((List.range' f m).map (ET Es ts))) w):=by
 obtain⟨aW,aX,aY,aZ,a0⟩:=jZ Kr;obtain⟨ab,ac,rfl,_⟩:=Ae aa;have aC:∀k,k<m->∀b,Ah w0 b->b.cell? ⟨lb,1,T⟩=X (Y r z A)->lb<b.heap.size->AK b r z A ts->jE j4 84 #[Y a n c,U V ((f+k:Nat):Int),jK (X ⟨lb,0,T⟩)] b (MJ (ET Es ts (f+k)) b):=fun k bs b aj a1 a2 a3=>by
  have aD:f+k<Es.length:=by omega
  rw[ET,zG aD];exact Aad a n c N ax lb r z A ts az (aA (f+k) aD) b (ay.below aj NLN) a1 a2 a3
 have a4:=Ab aC;have a5:=Ab aB;obtain⟨os,L⟩:∃os,os=(List.range' f m).map (ET Es ts):=⟨_,rfl⟩
 have a6:=Ab (show ∀k,(h:k<m)->∃h2:k<os.length,os[k]=ET Es ts (f+k)from fun k h=>⟨by rw[L];simpa using h,by simp[L]⟩);have a7:=Ab (show os.length=m by rw[L];simp);rw[<-L];have ad:=Ag.new w #[U V 0,U V 0] 58;have C:=Av w (jF #[U V 0,U V 0] 58);have aE:=aa.alloc (jF #[U V 0,U V 0] 58);have ak:(w.alloc (jF #[U V 0,U V 0] 58)).heap.size=w.heap.size+1:=by simp
 have aF:=(C.cell (p:=⟨lb,1,T⟩) h3).trans h2;have aG:=h4.below C NLN;have al:lb<(w.alloc (jF #[U V 0,U V 0] 58)).heap.size:=by omega
 have aH:X w.heap.size≠(Y ab tt.length ac).ownBlock:=fun e=>by have:=(aa.lt _ e.symm).2;omega
 have aI:∀b v,In (w.alloc (jF #[U V 0,U V 0] 58)) (Y ab tt.length ac) b v->In w (Y ab tt.length ac) b v:=fun b v k=>
  ⟨fun j h1 h2=>(k.1 j (by omega) h2).trans (jt w _ j h1),fun q hq=>by rcases k.2.1 q hq with e|e;exact .inl e;right;omega,by have:=k.2.2;omega⟩
 have aJ:=Ab aI;clear L aC aA aU aB ay ax aa h4 h2 az aI;obtain⟨ae,ao⟩:∃ae:Int,ae=(f+m:Nat)-1:=⟨_,rfl⟩
 rw[<-ao];have aK:=Ab ao;have aL:=Ab (show f+m<=4000 by omega);clear ao aV hf;go_enter func46,ntmps46
 go_wp2_with fail
 generalize w.alloc (jF #[U V 0,U V 0] 58)=ap at ad C aE ak aF aG al aJ|-;have a8:=Ab ak;clear ak;go_loopw [4,12] (fun v i wr=>∃ (j d:Nat) (K l:List Int),Hid (j<=m/\d=f+j/\l=tt++K)/\i=U V d/\wr.ownsRow B 3 1 v l.length (Aq l)/\Hid (CQ (os.take j)=X K)/\Below B ap wr/\In ap (Y ab tt.length ac) wr v) (fun _ i _=>f+m-(intOf i).toNat)
 case atStart=>exact⟨0,f,[],tt,Ab ⟨zD _,rfl,by simp⟩,rfl,aE,Ab rfl,BRN,In.refl _ _⟩
 case round=>
  obtain⟨j,d,K,l,o,rfl,af,aq,ag,y⟩:=hrel;have bt:l.length<=8000:=by have h1:=MI (Aa aq);have h2:=Aa o;have h3:=Aa aL;rw[zr]at h1;rw[h2.2.2,zC];omega
  have a9:Ah w0 wr:=((Aa a5).trans (C.mono (zB hB s))).trans (ag.mono hB);have zb:B<=wr.heap.size:=zB (by have:=Aa a8;omega) ag.size;have ah:Ag wr w.heap.size #[U V 0,U V 0] 58:=⟨(y.1 _ ad.lt aH).trans ad.out⟩
  by_cases ai:j<m
  ·have ba:(d:Int)<=ae:=by have:=Aa o;have:=Aa aK;omega
   have aj:wr.cell? ⟨lb,1,T⟩=X (Y r z A):=(World.cell?_of_block (w:=ap) (y.1 lb al h5)).trans aF;have bb:=zE al y.2.2;have aM:=aG.keep y h6;have M:=Ab (Aa a4 j ai wr a9 aj bb aM);obtain⟨aN,ar⟩:=Aa a6 j ai;have D:=Ab (show CQ (os.take (j+1))=os[j].map (fun t=>K++[t]) by rw[zQ aN];exact NX _ _ _ (Aa aq));have O:=Ab (show os[j]=T->CQ os=T from fun e=>NY os (j+1) (by rw[Aa D,e];rfl));rw[ar]at D O;have aO:=Ab ai;have bu:d<=4000:=by have:=Aa o;have:=Aa aL;omega
   generalize ET Es ts (f+j)=bv at M D O ar;rw[<-(Aa o).2.1]at M;obtain⟨E,F,rfl,_⟩:=Ae af;clear aN ai ar aM;go_wp2_with fail
   refine(Aa M).mono ?_;rintro bw G ⟨⟨ty,H,rfl,bc⟩,I⟩;have aP:=ag.trans (I.mono zb);have aQ:=An af I NLN;have KB:In wr (Y E l.length F) G (Y E l.length F):=⟨fun k h _=>I.block k h,fun q h=> .inl h,I.size⟩
   have P:=y.trans KB;have au:=ah.after I NLN;have bd:B<=G.heap.size:=zB zb I.size;rcases bc with⟨rfl,rfl⟩|⟨hc,rfl⟩
   ·have bf:=Ab (show CQ (os.take (j+1))=X (K++[ty])from Aa D);clear D O M;dsimp only;go_wp2_with (at_builtin;refine jj _ rfl _ _ 24 rfl B 3 aW (U V 0) 1 8 underlying24 aX aY aZ a0 rfl (by decide) _ _ _ rfl (jV aQ _) ⟨G.heap.size,0,T⟩ 1 1 [U V ty] rfl rfl ?c1 ?c2 (by decide) ?c3 ?c4 ?c5 (G.heap.size+1) (by simp) ?_)
    case c1=>exact A5 _ _ _ _ (by simp)
    case c2=>intro u aR;simp at aR;subst aR;rfl
    case c3=>unfold maxLen;omega
    case c4=>omega
    case c5=>simp;omega
    intro g cap bx aS av hat bz;have bg:=P.trans (Ec (n:=l.length+1) (c:=cap) av hat);have bh:=(aP.alloc bd (jF #[U V ty] 3)).grown av (by simp;omega) (fun q hq=>(aQ.lt q hq).1);have bi:=ES aS;clear av hat aS;go_wp2_with fail
    go_roundw
    case rel=>exact⟨j+1,d+1,K++[ty],l++[ty],Ab ⟨Aa aO,by have:=Aa o;omega,by rw[(Aa o).2.2,zT]⟩,by go_num,bi,bf,bh,bg⟩
    case measure=>have:=Aa aO;have:=Aa o;simp[intOf];omega
   ·have ec:(H !=0)=true:=zc.2 hc;have bj:=Ab (Aa O rfl);have bk:=Ab hc;clear hc D O M;obtain⟨bl,bm⟩:=CD au;have bn:=fun j=>au.frozen j;have S:=au.set 0 (U V H);have bo:=fun j=>S.frozen j;dsimp only;have W:=S.set 1 (U V d);have aw:((G.setCell ⟨w.heap.size,0,T⟩ (U V H)).setCell ⟨w.heap.size,1,T⟩ (U V d)).cell? ⟨w.heap.size,0,T⟩=X (U V H):=W.cell 0;have s1:((G.setCell ⟨w.heap.size,0,T⟩ (U V H)).setCell ⟨w.heap.size,1,T⟩ (U V d)).cell? ⟨w.heap.size,1,T⟩=X (U V d):=W.cell 1;go_wp2_with fail
    refine jN (v:= jO #[Y E l.length F,jG #[U V H,U V d]]) (by simp[jR,results46,go_sem,aw,s1]) rfl (.inr ⟨Aa bj,⟨_,_,_,rfl,.inr ⟨_,_,_,rfl⟩,Aa bk⟩,?_⟩)
    exact(((C.mono s).trans aP).setCell (p:=⟨w.heap.size,0,T⟩) s _).setCell (p:=⟨w.heap.size,1,T⟩) s _
  ·have e:j=m:=by have:=Aa o;omega
   have ba: ¬ ((d:Int)<=ae):=by have:=Aa o;have:=Aa aK;omega
   subst e;have bp:=Ab (show CQ os=X K by rw[<-Aa aq,zY (by rw[Aa a7];exact NLN)]);obtain⟨E,F,rfl,_⟩:=Ae af;obtain⟨bl,bm⟩:=CD ah;have bn:=fun j=>ah.frozen j;have S:=ah.set 0 (U V 0);have bo:=fun j=>S.frozen j;have W:=S.set 1 (U V 0);have aw:((wr.setCell ⟨w.heap.size,0,T⟩ (U V 0)).setCell ⟨w.heap.size,1,T⟩ (U V 0)).cell? ⟨w.heap.size,0,T⟩=X (U V 0):=W.cell 0;have s1:((wr.setCell ⟨w.heap.size,0,T⟩ (U V 0)).setCell ⟨w.heap.size,1,T⟩ (U V 0)).cell? ⟨w.heap.size,1,T⟩=X (U V 0):=W.cell 1;have P:=Aa aJ _ _ y;have aT:∀q,(Y E l.length F).ownBlock=X q->q≠w.heap.size:=fun q hq e=>by
    subst e;rcases y.2.1 _ hq with e2|e2
    ·exact aH e2.symm
    ·have:=ad.lt;omega
   go_wp2_with fail
   refine jN (v:= jO #[Y E l.length F,jG #[U V 0,U V 0]]) (by simp[jR,results46,go_sem,aw,s1]) rfl (.inl ⟨K,_,Aa bp,rfl,?_,?_,?_⟩)
   ·rw[<-(Aa o).2.2];exact Abe (Abe af _ _ aT) _ _ aT
   ·exact⟨fun k h1 h2=>((jc _ _ _ _ (by show k≠w.heap.size;omega)).trans (jc _ _ _ _ (by show k≠w.heap.size;omega))).trans (P.1 k h1 h2),P.2.1,by have:=P.2.2;simpa using this⟩
   ·exact(((C.mono s).trans ag).setCell (p:=⟨w.heap.size,0,T⟩) s _).setCell (p:=⟨w.heap.size,1,T⟩) s _
set_option maxHeartbeats 1600000
structure Cm (B cb mb:Nat) (ns:List ByteArray) (ts tt:List Int) (lv tv:R) (w:Z):Prop where
 C:Ck B cb ts tt (.map (X mb)) lv tv w
 M:LN w mb ns
 low:B<=mb
theorem Cm.ne {b a:Nat}{lv c:R}(h:Cm B b a ns ts tt lv c w):a≠b/\lv.ownBlock≠X a/\c.ownBlock≠X a:=by
 obtain⟨f,cl,h1,_⟩:=h.M;refine⟨fun e=>?_,fun e=>?_,fun e=>?_⟩
 ·subst e;have:=h.C.row.out.symm.trans h1;simp at this
 ·rcases h.C.lets.2 with⟨hv,_⟩|⟨g,cap,d,hv,_,hg,_⟩
  ·rw[hv]at e;cases e
  ·rw[hv]at e;obtain rfl:g=a:=by simpa[ja]using e
   have:=hg.symm.trans h1;simp at this
 ·rcases h.C.types.2 with⟨hv,_⟩|⟨g,cap,d,hv,_,hg,_⟩
  ·rw[hv]at e;cases e
  ·rw[hv]at e;obtain rfl:g=a:=by simpa[ja]using e
   have:=hg.symm.trans h1;simp at this
structure Kd (B cb mb:Nat) (lv tv:R) (w:Z) (lv' tv':R) (w':Z):Prop where
 low:Below B w w'
 keep:∀k,k<w.heap.size->k≠cb->k≠mb->X k≠lv.ownBlock->X k≠tv.ownBlock->w'.heap[k]? =w.heap[k]?
 newl:∀q,lv'.ownBlock=X q->lv.ownBlock=X q\/w.heap.size<=q
 newt:∀q,tv'.ownBlock=X q->tv.ownBlock=X q\/w.heap.size<=q
theorem Kd.refl (B b c:Nat)(lv a:R)(w:Z):Kd B b c lv a w lv a w:=⟨BRN,fun _ _ _ _ _ _=>rfl,fun q h=> .inl h,fun q h=> .inl h⟩
theorem Kd.trans {B a b:Nat}{lv c d f g i:R}{w j l:Z}(h:Kd B a b lv c w d f j)(k:Kd B a b d f j g i l):Kd B a b lv c w g i l:=by
 refine⟨h.low.trans k.low,fun q h1 h2 h3 h4 h5=>?_,fun q hq=>?_,fun q hq=>?_⟩
 ·refine(k.keep q (zE h1 h.low.size) h2 h3 (fun e=>?_) (fun e=>?_)).trans (h.keep q h1 h2 h3 h4 h5)
  ·rcases h.newl q e.symm with e2|e2
   ·exact h4 e2.symm
   ·omega
  ·rcases h.newt q e.symm with e2|e2
   ·exact h5 e2.symm
   ·omega
 ·rcases k.newl q hq with e|e
  ·exact h.newl q e
  ·exact .inr (zB h.low.size e)
 ·rcases k.newt q hq with e|e
  ·exact h.newt q e
  ·exact .inr (zB h.low.size e)
theorem Kd.of_kt {a d:Nat}{lv b:R}(h:Kt B a b w c w'):Kd B a d lv b w lv c w':=
 ⟨h.low,fun k h1 h2 _ _ h5=>h.keep k h1 h2 h5,fun q hq=> .inl hq,h.new⟩
theorem Kd.of_all {B b c:Nat}{lv a:R}{w w':Z}(h:Ah w w')(hB:B<=w.heap.size):Kd B b c lv a w lv a w':= .of_kt (Kt.of_all h hB)
theorem Cm.of_kt {a b:Nat}{lv f:R}(h:Cm B a b ns ts tt lv f w)(g:Ck B a ts d (.map (X b)) lv c w')(K:Kt B a f w c w'):Cm B a b ns ts d lv c w':=
 ⟨g,h.M.keep (K.keep b h.M.lt h.ne.1 (fun e=>h.ne.2.2 e.symm)),h.low⟩
theorem Cm.below {B b a:Nat}{ns:List ByteArray}{ts tt:List Int}{lv c:R}{w w':Z}(h:Cm B b a ns ts tt lv c w)(d:Ah w w'):Cm B b a ns ts tt lv c w':=
 ⟨h.C.below d,h.M.keep (d.block a h.M.lt),h.low⟩
theorem Ck.pushL {a:Nat}{c d:R}{b:Z}{t:Int}(h:Ck B a ts tt c lv d w)(hB:B<=w.heap.size)
  (j:b.ownsRow B 3 1 (Y (X ⟨g,0,T⟩) (ts.length+1) cap) (ts.length+1) (Aq ts++[U V t]))(f:(w.alloc o).grownBy b lv.ownBlock)(hat:lv.ownBlock=X g\/g=w.heap.size+1):
  Ag b a #[c,lv,d] 102/\Ck B a (ts++[t]) tt c (Y (X ⟨g,0,T⟩) (ts.length+1) cap) d (b.setCell ⟨a,1,T⟩ (Y (X ⟨g,0,T⟩) (ts.length+1) cap))/\Below B w (b.setCell ⟨a,1,T⟩ (Y (X ⟨g,0,T⟩) (ts.length+1) cap))/\
  (∀k,k<w.heap.size->k≠a->X k≠lv.ownBlock->(b.setCell ⟨a,1,T⟩ (Y (X ⟨g,0,T⟩) (ts.length+1) cap)).heap[k]? =w.heap[k]?):=by
 have n1:=Ac h.row h.lets (by decide);have n2:=Ac h.row h.types (by decide);have i:=(h.row.alloc o).grown f (fun e=>n1 e.symm);have n3:=Ac i j (by decide);have n:g≠a:=fun e=>n3 (by rw[e];rfl);have l:(w.alloc o).heap.size=w.heap.size+1:=by simp
 have m:∀k,k<w.heap.size->k≠a->X k≠lv.ownBlock->(b.setCell ⟨a,1,T⟩ (Y (X ⟨g,0,T⟩) (ts.length+1) cap)).heap[k]? =w.heap[k]? :=fun k h1 h2 h3=>
  (jc b ⟨a,1,T⟩ k _ h2).trans ((f.block k (by rw[l];omega) h3).trans (jt w o k h1))
 refine⟨i,⟨i.set 1 (Y (X ⟨g,0,T⟩) (ts.length+1) cap),?_,Ak h.types (fun q hq=>m q (h.types.lt q hq).2 (fun e=>n2 (e ▸ hq)) (fun e=>h.apart q e.symm hq)),h.low,fun q hq e=>?_⟩,?_,m⟩
 ·rw[Aq,zR,zC];refine AW j ⟨a,1,T⟩ _ (fun q hq=>?_);have:g=q:=by simpa[ja]using hq
  subst this;exact n
 ·have:g=q:=by simpa[ja]using hq
  subst this;rcases hat with hat|hat
  ·exact h.apart g hat e
  ·have:=(h.types.lt g e).2;omega
 ·exact(((Below.refl B w).alloc hB o).grown f (by rw[l];omega) (fun q hq=>(h.lets.lt q hq).1)).setCell (p:=⟨a,1,T⟩) h.low _
def Ajj (B cb mb:Nat) (ns:List ByteArray) (ts tt:List Int) (lv tv:R) (nm:ByteArray) (ty:Int) (w:Z) (r:jT) (w':Z):Prop:=
 (nm ∉ ns/\r=jH .nilIface/\∃lv',Cm B cb mb (ns++[nm]) (ts++[ty]) tt lv' tv w'/\Kd B cb mb lv tv w lv' tv w')\/(nm∈ns/\(∃t u,r=jH (.iface t u))/\Ah w w')
theorem VZ (B c f:Nat)(ns:List ByteArray)(ts tt:List Int)(lv s:R)(nm:ByteArray)(ty:Int)(J K:jD)(w:Z)(z:RL w J K)(h:Cm B c f ns ts tt lv s w)(ap:ts.length<=1000):
  jE j4 135 #[jK (X ⟨c,0,T⟩),Q nm,U V ty] w (Ajj B c f ns ts tt lv s nm ty w):=by
 have L:w.cell? ⟨c,0,T⟩=X (.map (X f)):=h.C.row.cell 0;have c1:w.cell? ⟨c,1,T⟩=X lv:=h.C.row.cell 1;have ac:=z.ac;have N:=z.a;have aq:=h.C.row.lt;have O:B<=w.heap.size:=by have:=h.C.low;omega
 obtain⟨P,S,W,aa,ab⟩:=jZ Kr;by_cases hs:nm∈ns
 ·obtain⟨b,n,t,A⟩:=AdF w f ns nm h.M hs;have m:=Ab hs;clear hs;have ad:=Av w (jF #[.bool b,U V n,U V t] 154);go_enter func135,ntmps135
  go_wp2_with fail
  go_ret
  exact .inr ⟨Aa m,⟨_,_,rfl⟩,ad⟩
 ·obtain⟨b,n,t,A⟩:=Agi w f ns nm h.M hs;have m:=Ab hs;clear hs;obtain⟨x,o,rfl,_⟩:=Ae h.C.lets;go_enter func135,ntmps135
  go_wp2_with fail
  have ae:∃d,d=w.alloc (jF #[.bool b,U V n,U V t] 154):=⟨_,rfl⟩
  obtain⟨d,v⟩:=ae;have j:Ah w d:=by rw[v];exact BRN.alloc NLN _
  rw[<-v];clear v L c1 A ac N;have i:=(h.below j).below (Below.drew BRN:Ah d d.drew);have D:=j.trans ((Below.drew BRN:Ah d d.drew).mono j.size);have l:=i.ne;have ar:d.cell? ⟨c,0,T⟩=X (.map (X f)):=(h.below j).C.row.cell 0;have d1:d.cell? ⟨c,1,T⟩=X (Y x ts.length o):=(h.below j).C.row.cell 1;obtain⟨p,au,E,r,af,ag⟩:=Aax d.drew f ns nm true ts.length ty i.M (Aa m);have y:Ck B c ts tt (.map (X f)) (Y x ts.length o) s p:=⟨⟨(r c l.1.symm).trans i.C.row.out⟩,Ak i.C.lets (fun q hq=>r q (fun e=>l.2.1 (e ▸ hq))),Ak i.C.types (fun q hq=>r q (fun e=>l.2.2 (e ▸ hq))),i.C.low,i.C.apart⟩
  have e1:p.cell? ⟨c,1,T⟩=X (Y x ts.length o):=y.row.cell 1;have F:=(D.mono O).trans (ag B h.low);have av:=F.size;clear af;go_region
  all_goals
   go_wp2_with (at_builtin;refine jj _ rfl _ _ 24 rfl B 3 P (U V 0) 1 8 underlying24 S W aa ab rfl (by decide) _ _ _ rfl (jV y.lets _) ⟨p.heap.size,0,T⟩ 1 1 [U V ty] rfl rfl ?c1 ?c2 (by decide) ?c3 ?c4 ?c5 (p.heap.size+1) (by simp) ?_)
   case c1=>exact A5 _ _ _ _ (by simp)
   case c2=>intro u G;simp at G;subst G;rfl
   case c3=>unfold maxLen;omega
   case c4=>omega
   case c5=>simp;omega
   intro g cap ah ai aj hat aw;obtain⟨H,ak,al,I⟩:=y.pushL (by omega) ai aj hat;have ax:ah.cell? ⟨c,1,T⟩=X (Y x ts.length o):=H.cell 1;have ay:=H.frozen 1;have ao:=E.keep (I f E.lt l.1 (fun e=>l.2.1 e.symm));go_wp2_with fail
   go_ret
   refine .inl ⟨Aa m,rfl,_,⟨ak,ao,h.low⟩,⟨F.trans al,fun k h1 h2 h3 h4 h5=>?_,fun q hq=>?_,fun q hq=> .inl hq⟩⟩
   ·exact(I k (by omega) h2 h4).trans ((r k h3).trans (D.block k h1))
   ·have:g=q:=by simpa[ja]using hq
    subst this;rcases hat with hat|hat
    ·exact .inl hat
    ·right;omega
theorem Ka {b n n' c:Nat}{e e':TypeId}{v a:R}{d xs':List R}(h:w.ownsRow B e size v n d)(f:w.ownsRow b e' c a n' xs')(i:e≠e'):∀q,v.ownBlock=X q->a.ownBlock≠X q:=fun q hq=>by
 rcases h.2 with⟨hv,_⟩|⟨g,cap,j,hv,_,hg,_⟩
 ·rw[hv]at hq;cases hq
 ·rw[hv]at hq;obtain rfl:g=q:=by simpa[ja]using hq
  exact Ac ⟨hg⟩ f i
structure Lm (B lb:Nat) (ns:List ByteArray) (ts tt:List Int) (nv lv tv:R) (w:Z):Prop where
 row:Ag w lb #[nv,lv] 87
 names:w.ownsRow B 9 1 nv ns.length (ns.map Q)
 lets:w.ownsRow B 3 1 lv ts.length (Aq ts)
 types:w.ownsRow B 3 1 tv tt.length (Aq tt)
 low:lb<B
 apart:∀q,lv.ownBlock=X q->tv.ownBlock≠X q
theorem Lm.below (h:Lm B lb ns ts tt b lv c w)(a:Ah w w'):Lm B lb ns ts tt b lv c w':=
 ⟨h.row.after a NLN,An h.names a NLN,An h.lets a NLN,An h.types a NLN,h.low,h.apart⟩
theorem Lm.tree {ys:List Int}(h:Lm B lb ns ts tt b lv c w)(O:w'.ownsRow B 3 1 a (tt++ys).length (Aq (tt++ys)))(K:In w c w' a)(d:Below B w w'):Lm B lb ns ts (tt++ys) b lv a w':=by
 refine⟨h.row.below d h.low,Ak h.names (fun q hq=>K.1 q (h.names.lt q hq).2 (fun e=>Ka h.names h.types (by decide) q hq e.symm)),Ak h.lets (fun q hq=>K.1 q (h.lets.lt q hq).2 (fun e=>h.apart q hq e.symm)),O,h.low,fun q hq e=>?_⟩;rcases K.2.1 q e with e2|e2
 ·exact h.apart q hq e2
 ·have:=(h.lets.lt q hq).2;omega
theorem Lm.set {a b:R}(h:Lm B lb ns ts tt a lv b w)(p:jD)(u:R)(h1:p.block<B)(h2:p.block≠lb):Lm B lb ns ts tt a lv b (w.setCell p u):=
 ⟨h.row.setFar (fun e=>h2 e.symm) u,AW h.names p u (fun q hq=>by have:=(h.names.lt q hq).1;omega),AW h.lets p u (fun q hq=>by have:=(h.lets.lt q hq).1;omega),AW h.types p u (fun q hq=>by have:=(h.types.lt q hq).1;omega),h.low,h.apart⟩
theorem Lm.pushN {i:R}{a:Z}{nm:ByteArray}(h:Lm B lb ns ts tt b lv i w)(hB:B<=w.heap.size)
  (j:a.ownsRow B 9 1 (Y (X ⟨g,0,T⟩) (ns.length+1) cap) (ns.length+1) (ns.map Q++[Q nm]))(c:(w.alloc o).grownBy a b.ownBlock)(hat:b.ownBlock=X g\/g=w.heap.size+1):
  Ag a lb #[b,lv] 87/\Lm B lb (ns++[nm]) ts tt (Y (X ⟨g,0,T⟩) (ns.length+1) cap) lv i (a.setCell ⟨lb,0,T⟩ (Y (X ⟨g,0,T⟩) (ns.length+1) cap))/\
  (∀k,k<w.heap.size->k≠lb->X k≠b.ownBlock->(a.setCell ⟨lb,0,T⟩ (Y (X ⟨g,0,T⟩) (ns.length+1) cap)).heap[k]? =w.heap[k]?)/\w.heap.size<=a.heap.size:=by
 have n1:=Ac h.row h.names (by decide);have n2:=Ac h.row h.lets (by decide);have n3:=Ac h.row h.types (by decide);have d:=(h.row.alloc o).grown c (fun e=>n1 e.symm);have l:=Ac d j (by decide);have m:g≠lb:=fun e=>l (by rw[e];rfl);have n:(w.alloc o).heap.size=w.heap.size+1:=by simp
 have f:∀k,k<w.heap.size->k≠lb->X k≠b.ownBlock->(a.setCell ⟨lb,0,T⟩ (Y (X ⟨g,0,T⟩) (ns.length+1) cap)).heap[k]? =w.heap[k]? :=fun k h1 h2 h3=>
  (jc a ⟨lb,0,T⟩ k _ h2).trans ((c.block k (by rw[n];omega) h3).trans (jt w o k h1))
 have p:w.heap.size<=a.heap.size:=by have:=c.size;omega
 refine⟨d,⟨d.set 0 (Y (X ⟨g,0,T⟩) (ns.length+1) cap),?_,Ak h.lets (fun q hq=>f q (h.lets.lt q hq).2 (fun e=>n2 (e ▸ hq)) (fun e=>Ka h.names h.lets (by decide) q e.symm hq)),Ak h.types (fun q hq=>f q (h.types.lt q hq).2 (fun e=>n3 (e ▸ hq)) (fun e=>Ka h.names h.types (by decide) q e.symm hq)),h.low,h.apart⟩,f,p⟩;rw[zR,zC];refine AW j ⟨lb,0,T⟩ _ (fun q hq=>?_);have:g=q:=by simpa[ja]using hq
 subst this;exact m
theorem Lm.pushL {i:R}{a:Z}{t:Int}(h:Lm B lb ns ts tt b lv i w)(hB:B<=w.heap.size)
  (j:a.ownsRow B 3 1 (Y (X ⟨g,0,T⟩) (ts.length+1) cap) (ts.length+1) (Aq ts++[U V t]))(c:(w.alloc o).grownBy a lv.ownBlock)(hat:lv.ownBlock=X g\/g=w.heap.size+1):
  Ag a lb #[b,lv] 87/\Lm B lb ns (ts++[t]) tt b (Y (X ⟨g,0,T⟩) (ts.length+1) cap) i (a.setCell ⟨lb,1,T⟩ (Y (X ⟨g,0,T⟩) (ts.length+1) cap))/\
  (∀k,k<w.heap.size->k≠lb->X k≠lv.ownBlock->(a.setCell ⟨lb,1,T⟩ (Y (X ⟨g,0,T⟩) (ts.length+1) cap)).heap[k]? =w.heap[k]?)/\w.heap.size<=a.heap.size:=by
 have n1:=Ac h.row h.names (by decide);have n2:=Ac h.row h.lets (by decide);have n3:=Ac h.row h.types (by decide);have d:=(h.row.alloc o).grown c (fun e=>n2 e.symm);have l:=Ac d j (by decide);have m:g≠lb:=fun e=>l (by rw[e];rfl);have n:(w.alloc o).heap.size=w.heap.size+1:=by simp
 have f:∀k,k<w.heap.size->k≠lb->X k≠lv.ownBlock->(a.setCell ⟨lb,1,T⟩ (Y (X ⟨g,0,T⟩) (ts.length+1) cap)).heap[k]? =w.heap[k]? :=fun k h1 h2 h3=>
  (jc a ⟨lb,1,T⟩ k _ h2).trans ((c.block k (by rw[n];omega) h3).trans (jt w o k h1))
 have p:w.heap.size<=a.heap.size:=by have:=c.size;omega
 refine⟨d,⟨d.set 1 (Y (X ⟨g,0,T⟩) (ts.length+1) cap),Ak h.names (fun q hq=>f q (h.names.lt q hq).2 (fun e=>n1 (e ▸ hq)) (fun e=>Ka h.names h.lets (by decide) q hq e.symm)),?_,Ak h.types (fun q hq=>f q (h.types.lt q hq).2 (fun e=>n3 (e ▸ hq)) (fun e=>h.apart q e.symm hq)),h.low,fun q hq e=>?_⟩,f,p⟩
 ·rw[Aq,zR,zC];refine AW j ⟨lb,1,T⟩ _ (fun q hq=>?_);have:g=q:=by simpa[ja]using hq
  subst this;exact m
 ·have:g=q:=by simpa[ja]using hq
  subst this;rcases hat with hat|hat
  ·exact h.apart g hat e
  ·have:=(h.types.lt g e).2;omega
structure Ls (B rb lb fb sb:Nat) (ns:List ByteArray) (ts tt:List Int) (nv lv tv:R) (S:Array R) (fc fa:Int) (w0 w:Z):Prop where
 M:Lm B lb ns ts tt nv lv tv w
 F:Ag w fb #[U V fc,U V fa] 58
 Rr:Ag w rb #[U V 0,U V 0] 58
 S:Ag w sb S 53
 low:Below rb w0 w
 ord:rb<lb/\lb<fb/\fb<B/\B<=sb
theorem Ls.below {B b lb c d:Nat}{ns:List ByteArray}{ts tt:List Int}{f lv g:R}{S:Array R}{i j:Int}{w0 w w':Z}(h:Ls B b lb c d ns ts tt f lv g S i j w0 w)(a:Ah w w'):Ls B b lb c d ns ts tt f lv g S i j w0 w':=
 ⟨h.M.below a,h.F.after a NLN,h.Rr.after a NLN,h.S.after a NLN,h.low.trans (a.mono (by have:=h.Rr.lt;omega)),h.ord⟩
theorem Ls.tree {B d lb f b:Nat}{ns:List ByteArray}{ts tt ys:List Int}{g lv i c:R}{S:Array R}{j k:Int}{w0 w w':Z}(h:Ls B d lb f b ns ts tt g lv i S j k w0 w)(O:w'.ownsRow B 3 1 c (tt++ys).length (Aq (tt++ys)))(K:In w i w' c)(a:Below B w w'):Ls B d lb f b ns ts (tt++ys) g lv c S j k w0 w':=
 ⟨h.M.tree O K a,h.F.below a h.ord.2.2.1,h.Rr.below a (by have:=h.ord;omega),⟨(K.1 b h.S.lt (fun e=>Ac h.S h.M.types (by decide) e.symm)).trans h.S.out⟩,h.low.trans (a.mono (by have:=h.ord;omega)),h.ord⟩
theorem Ls.fault {d lb b f:Nat}{g i:R}{S:Array R}{j k:Int}{w0 w:Z}(h:Ls B d lb b f ns ts tt g lv i S j k w0 w)(c a:Int):Ls B d lb b f ns ts tt g lv i S c a w0 ((w.setCell ⟨b,0,T⟩ (U V c)).setCell ⟨b,1,T⟩ (U V a)):=by
 have o:=h.ord;refine⟨(h.M.set ⟨b,0,T⟩ _ o.2.2.1 (by show b≠lb;omega)).set ⟨b,1,T⟩ _ o.2.2.1 (by show b≠lb;omega),(h.F.set 0 _).set 1 _,(h.Rr.setFar (by show d≠b;omega) _).setFar (by show d≠b;omega) _,(h.S.setFar (by show f≠b;omega) _).setFar (by show f≠b;omega) _,?_,o⟩;exact(h.low.setCell (p:=⟨b,0,T⟩) (by show d<=b;omega) _).setCell (p:=⟨b,1,T⟩) (by show d<=b;omega) _
theorem Ls.of_kept {a lb b c:Nat}{g:List ByteArray}{i:List Int}{s d j l:R}{S:Array R}{m p:Int}{w0 w w':Z}{e:TypeId}{size n:Nat}{r:R}(h:Ls B a lb b c ns ts tt s lv d S m p w0 w)(hx:w.ownsRow B e size r n t)(h1: 58≠e)(h2: 53≠e)
  (M:Lm B lb g i tt j l d w')(f:∀k,k<w.heap.size->k≠lb->X k≠r.ownBlock->w'.heap[k]? =w.heap[k]?)(u:Below a w w'):Ls B a lb b c g i tt j l d S m p w0 w':=by
 have o:=h.ord;exact⟨M,⟨(f b h.F.lt (by omega) (fun q=>Ac h.F hx h1 q.symm)).trans h.F.out⟩,⟨(f a h.Rr.lt (by omega) (fun q=>Ac h.Rr hx h1 q.symm)).trans h.Rr.out⟩,⟨(f c h.S.lt (by omega) (fun q=>Ac h.S hx h2 q.symm)).trans h.S.out⟩,h.low.trans u,o⟩
theorem Et {m kc:Nat}{a:List K5}(h:w.ownsRow B 48 5 (Y H m kc) m (a.flatMap K5.cs))(i:a.length=m):BT w H a:=fun j d=>by
 obtain⟨x,c,e,hx⟩:=Ae h;cases e;obtain⟨g,rfl,_,hc⟩:=hx (by omega);refine⟨g,0,rfl,(h.lt g rfl).2,fun b f=>?_⟩;have e1:=Afr a j d b f;have k:(a[j].cs).length=5:=rfl;have e2:(a[j].cs)[b]? =X ((a[j].cs)[b]'(by omega)):=zG _;rw[e2]at e1|-;rw[zU];exact hc _ _ e1
theorem QI:(j4.info? 48).map (fun i=>(i.zero,i.size,i.bytes))=X (X (jG #[U V 0,U V 0,Q ByteArray.empty,Y T 0 0,Y T 0 0]),5,80):=by kernel_rfl
end Go.Proofs.YteiieikcjcfkkaaGreatDoor
