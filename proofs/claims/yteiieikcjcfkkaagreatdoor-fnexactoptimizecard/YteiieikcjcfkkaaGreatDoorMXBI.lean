import Derived.Test.YteiieikcjcfkkaaGreatDoorMXBH
import Derived.Test.YteiieikcjcfkkaaGreatDoorMXAS
import Derived.Deep.DeepCutAuto
import Derived.Deep.CutBlock
import Derived.Test.YteiieikcjcfkkaaGreatDoorMXAN
open Go.Proofs.Tryz
open Option renaming none->T,some->X
open Go.Value renaming int->U,slice->Y,string->Q,agg->jG,ownBlock->ja
open Go.IntKind renaming i64->V
open Go renaming World->Z,Value->R,Addr->jD,maxLen->jM,info_parts->jZ,heap_setCell_other->jc,wpList_append_lies->jj,heap_alloc_new->jm
open Bool renaming true->jA,false->jC
open Go.Obj renaming cells->jF
open And renaming intro->jS
open ByteArray renaming empty->jU
open Go.World.ownsRow renaming alloc->jV
open Go.World renaming size_alloc->jW,ownsRow_nil->jX,news_of_block->jp
open List renaming length_cons->jY,cons_append->js
open Go.Value.slice renaming injEq->jh
open Option.some renaming injEq->jr
open Go.Proofs.Tryz renaming prog->j4
namespace Go.Proofs.YteiieikcjcfkkaaGreatDoor
open Go.RowKit
set_option linter.unusedVariables false
variable {cs:Array R}{a:List (Sx×Int)}{ss:List ByteArray}{ls:List Ex}{ts:List Int}{N M:List Nd}{L:List St}{f i l k:List R}{B b d n:Nat}{x:Sx}{t:TypeId}{v c s x2 u j m:R}{w w' o:Z}
def CG (Es:List Ex) (k:Int):Option Ex:=if k= -1 then T else Es[k.toNat]?
def It (Es:List Ex):Nat->List St->List Sx
 |_,[]=> []
 |i,s ::L=>⟨i,s.kind,s.name,CG Es s.cond,CG Es s.grant⟩ ::It Es (i+1) L
theorem Aat (Es:List Ex)(k:Int):DJ Es k=AH (CG Es k):=by
 unfold DJ CG;split
 ·rfl
 ·cases Es[k.toNat]?<;>rfl
theorem Adt (Es:List Ex):∀(L:List St) (i:Nat),Ut Es i L=GN (It Es i L)
 |[],i=>rfl
 |s ::L,i=>by
  rw[Ut,It,Adt Es L (i+1),GN,GN,zi]
  congr 1
  rw[LH,Gm,Aat,Aat]
theorem LI (Es:List Ex):∀(L:List St) (i:Nat),(It Es i L).length=L.length
 |[],i=>rfl
 |s ::L,i=>by rw[It,jY,LI Es L (i+1),jY]
theorem Aau (Es:List Ex)(k:Int):AF (CG Es k)=Bj Es k:=by
 unfold CG Bj;split
 ·rfl
 ·cases Es[k.toNat]?<;>rfl
theorem Aav (Es:List Ex):∀(L:List St) (i:Nat),Bu (It Es i L)=Dl Es L
 |[],i=>rfl
 |s ::L,i=>by
  rw[It,A4,Aav Es L (i+1),Aau,Aau];simp[Dl]
theorem Uv {Es:List Ex} :∀{L:List St} {i:Nat} {x:Sx},x∈It Es i L->∃s∈L,x.cond=CG Es s.cond/\x.grant=CG Es s.grant/\x.kind=s.kind/\x.name=s.name
 |s ::L,i,x,h=>by
  rw[It,zP]at h;rcases h with rfl|h
  ·exact⟨s,za ..,rfl,rfl,rfl,rfl⟩
  ·obtain⟨a,h1,h2⟩:=Uv h;exact⟨a,zf _ h1,h2⟩
 |[],_,_,h=>by cases h
structure MO (X:List Sx) (j:Nat) (ls:List Ex) (D:List (Sx×Int)) (ts:List Int):Prop where
 eq:D++Kw ls (X.drop j)=Kw [] X
 ty:IE ts (X.drop j)
 lt:Fu ts ls
 len:ls.length=ts.length
 ok:∀c∈ls,Ib c
 ops:∀c∈ls,Be c=jA
 sm:ls.length<=j
 sd:D.length<=j
theorem MO.start (X:List Sx)(h:IE [] X):MO X 0 [] [] []:=
 ⟨rfl,h,fun n c hc=>by simp at hc,rfl,fun c hc=>(by cases hc),fun c hc=>(by cases hc),NLN,NLN⟩
theorem MO.kinds {X:List Sx}{j:Nat}(h:MO X j ls a ts)(hx:X[j]? =some x):
  (x.kind=1/\∃e t,x.cond=some e/\Al ts e=some t/\x.grant=T/\IE (ts++[t]) (X.drop (j+1)))\/(x.kind=2/\(∃e,x.cond=some e/\Al ts e=some 1)/\Yo ts x.grant/\IE ts (X.drop (j+1)))\/(x.kind=3/\x.cond=T/\Yo ts x.grant/\IE ts (X.drop (j+1))):=by
 obtain⟨b,hx⟩:=zd.1 hx;have:=h.ty;rw[z5 b,hx]at this;exact this
theorem MO.drop {X:List Sx}{j:Nat}{x:Sx}(hx:X[j]? =some x):X.drop j=x ::X.drop (j+1):=by
 obtain⟨a,hx⟩:=zd.1 hx;rw[z5 a,hx]
theorem MO.lett {X:List Sx}{j:Nat}(h:MO X j ls a ts)(hx:X[j]? =some x)(b:x.kind=1){e:Ex}{t:Int}(hc:x.cond=some e)(f:Al ts e=some t)(g:IE (ts++[t]) (X.drop (j+1)))(i:Ib e):
  MO X (j+1) (ls++[AG ls e]) (a++[(Ef ls x,(ls.length:Int))]) (ts++[t]):=by
 have d:=BP h.lt e t f;have k:Pg ls (Ef ls x)=ls++[AG ls e]:=by rw[Pg,if_pos (show(Ef ls x).kind=1 from b)];simp[Ef,hc]
 refine⟨?_,g,h.lt.snoc h.len d,by simp[h.len],fun c hm=>?_,fun c hm=>?_,by simp;exact h.sm,by simp;exact h.sd⟩
 ·rw[<-h.eq,MO.drop hx,Kw,if_pos b,k];simp
 ·rcases zN.1 hm with q|q
  ·exact h.ok c q
  ·rw[zS.1 q];exact Ge h.ok e i
 ·rcases zN.1 hm with q|q
  ·exact h.ops c q
  ·rw[zS.1 q];exact Cl _ _ d
theorem MO.skip {X:List Sx}{j:Nat}(h:MO X j ls a ts)(hx:X[j]? =some x)(b:x.kind=2)(c:IE ts (X.drop (j+1)))(d:Ia jC (Ef ls x).cond=jA):MO X (j+1) ls a ts:=by
 refine⟨?_,c,h.lt,h.len,h.ok,h.ops,Nat.le_succ_of_le h.sm,Nat.le_succ_of_le h.sd⟩;rw[<-h.eq,MO.drop hx,Kw,if_neg (by omega),if_pos ⟨b,d⟩]
theorem MO.tru {X:List Sx}{j:Nat}(h:MO X j ls a ts)(hx:X[j]? =some x)(b:x.kind=2)(c:Ia jC (Ef ls x).cond=jC)(d:Ia jA (Ef ls x).cond=jA):a++[(⟨x.at',3,⟨#[]⟩,T,(Ef ls x).grant⟩,0)]=Kw [] X:=by
 rw[<-h.eq,MO.drop hx,Kw,if_neg (by omega),if_neg (fun e=>by rw[c]at e;cases e.2),if_pos ⟨b,d⟩]
theorem MO.when {X:List Sx}{j:Nat}(h:MO X j ls a ts)(hx:X[j]? =some x)(f:x.kind=2)(b:IE ts (X.drop (j+1)))(c:Ia jC (Ef ls x).cond=jC)(d:Ia jA (Ef ls x).cond=jC):MO X (j+1) ls (a++[(Ef ls x,0)]) ts:=by
 refine⟨?_,b,h.lt,h.len,h.ok,h.ops,Nat.le_succ_of_le h.sm,by simp;exact h.sd⟩;rw[<-h.eq,MO.drop hx,Kw,if_neg (by omega),if_neg (fun e=>by rw[c]at e;cases e.2),if_neg (fun e=>by rw[d]at e;cases e.2),if_neg (by omega)];simp
theorem MO.els {X:List Sx}{j:Nat}(h:MO X j ls a ts)(hx:X[j]? =some x)(b:x.kind=3):a++[(Ef ls x,0)]=Kw [] X:=by
 rw[<-h.eq,MO.drop hx,Kw,if_neg (by omega),if_neg (by omega),if_neg (by omega),if_pos b]
theorem MO.fin {X:List Sx}{j:Nat}(h:MO X j ls a ts)(b:X.length<=j):a=Kw [] X:=by
 rw[<-h.eq,List.drop_eq_nil_of_le b,Kw,Z3]
set_option maxRecDepth 100000
set_option maxHeartbeats 6400000
theorem Fl {b:Nat}{a d:Value}(R:Ag w b #[a,c,d] t):w.cell? ⟨b,0,T⟩=X a/\w.cell? ⟨b,1,T⟩=X c/\w.cell? ⟨b,2,T⟩=X d:=⟨R.cell 0,R.cell 1,R.cell 2⟩
def NxP (X:List Sx) (j:Nat) (ls:List Ex) (D:List (Sx×Int)) (q:Sx×Int) (k:Int):Prop:=(k=3/\D++[q]=Kw [] X)\/(k≠3/\∃ts,MO X (j+1) ls (D++[q]) ts)
def TrS (N:List Nd) (k:Int) (o:Option Ex):Prop:=(k= -1/\o=T)\/∃ (i:Nat) (e:Ex),k=i/\o=X e/\Cg N i e/\Ib e
theorem AeC:(j4.info? 45).map (fun i=>(i.zero,i.size,i.bytes))=X (X (jG #[U V 0,Q jU,U V 0,Y T 0 0,Y T 0 0]),5,80):=by kernel_rfl
def StA (X:List (Sx×Int)) (w:Z) (r:Ending) (w':Z):Prop:=(∃ (ov:R) (ss:List S5),r= .returned ov/\w'.ownsRow w.heap.size 45 5 ov ss.length (ss.flatMap S5.cs)/\ss.length=X.length/\∀j,(h1:j<ss.length)->(h2:j<X.length)->∃lo hi,StQ w lo hi w' ss[j] X[j])/\Below w.heap.size w w'
theorem RU.ans {a:Z}{b:R}{d:List K5}{ss:List S5}{c:List (Sx×Int)}(h:RU w B v b d ls ss c a)(hB:w.heap.size<=B)(f:Below w.heap.size w a){X:List (Sx×Int)}(e:c=X):StA X w (.returned b) a:=by
 subst e;refine⟨⟨b,ss,rfl,?_,h.lenD.symm,fun j h1 h2=>?_⟩,f⟩
 ·refine⟨h.out.1,?_⟩;rcases h.out.2 with q|⟨g,cap,i,h1,h2,h3⟩
  ·exact .inl q
  ·exact .inr ⟨g,cap,i,h1,zB hB h2,h3⟩
 ·obtain⟨lo,hi,_,q⟩:=h.eachD j h1 h2;exact⟨lo,hi,q⟩
theorem WZ (a b e:Option jD)(n c m d k f:Nat)(N:List Nd)(L:List St)(w:Z)(h1:GY w a n c N)(dd:NmQ w a N)(de:∀x∈N,AD x=jA)(h2:Jl w b m d L)(X:List Sx)(df:X.length=L.length)(dg:∀j,(h:j<L.length)->∃x,X[j]? =some x/\x.kind=L[j].kind/\x.name=L[j].name/\TrS N L[j].cond x.cond/\TrS N L[j].grant x.grant)(aj:IE [] X)(dh:∀x∈X,x.kind=2->x.name=⟨#[]⟩)(di:RwC w):
  Calls j4 15 #[jG #[Y a n c,Y b m d,Y e k f]] w (StA (Kw [] X) w):=by
 obtain⟨ch,ci,cj,ck,cl⟩:=jZ QI;obtain⟨eb,ec,ed,ee,ef⟩:=jZ AeC;have eQ:=h2.small;have dj:=Ag.new w #[Y a n c,Y b m d,Y e k f] 31;have dk:=Av w (Fo a n c b m d e k f);have eg:(w.alloc (Fo a n c b m d e k f)).heap.size=w.heap.size+1:=by simp
 have dl:=Ab h2.len;have eh:=Ab h2;have dm:=Ab h1;have dn:=Ab dd;have a6:=Ab de;have ei:=Ab dg;have ej:=Ab df;have ek:=Ab dh;have dp:=Ab di;have el:=Ab aj;clear h1 h2 dd de dg df dh di aj;go_enter func15,ntmps15
 go_wp2_with fail
 generalize w.alloc (Fo a n c b m d e k f)=dq at dj dk eg|-;have em:=RU.nil w (w.heap.size+1) dq;go_loopw [3,4,11] (fun lv en i wr=>∃ (j:Nat) (ak:List K5) (ls:List Ex) (ss:List S5) (O:List (Sx×Int)) (ts:List Int),j<=m/\i=U V j/\Hid (MO X j ls O ts)/\RU w (w.heap.size+1) lv en ak ls ss O wr/\Ag wr w.heap.size #[Y a n c,Y b m d,Y e k f] 31/\Below w.heap.size w wr/\w.heap.size+1<=wr.heap.size) (fun _ _ i _=>m-(intOf i).toNat)
 case atStart=>exact⟨0,[],[],[],[],[],zD _,rfl,Ab (MO.start X (Aa el)),em,dj,dk,by omega⟩
 case round=>
  obtain⟨j,ak,ls,ss,O,ts,eR,rfl,G,ac,cm,bY,hB⟩:=hrel;obtain⟨ad,P,dr,_⟩:=Ae ac.lets;obtain⟨S,W,eo,_⟩:=Ae ac.out;rw[<-ac.lenL]at dr;subst dr eo;by_cases co:j<m
  ·have eS:(j:Int)<(m:Int):=by omega
   have a7:j<L.length:=by rw[Aa dl];exact co
   obtain⟨bt,bu,rfl,ep,cp,c1,c2,c3⟩:=((Aa eh).below bY NLN).cells j a7;obtain⟨x,ds,dt,du,dv,dw⟩:=Aa ei j a7;have aQ:=Ab ds;have aR:=Ab (jS dt du);have bZ:=Ab dv;have cq:=Ab dw;generalize L[j]=s at cp c1 c2 c3 aR bZ cq;obtain⟨z,t,aS,aT⟩:=s;dsimp only at cp c1 c2 c3 aR bZ cq;have dx:=Ab (show ls.length<=P by
    rcases ac.lets.2 with⟨q,_⟩|⟨_,_,_,q,_,_,a8,_⟩
    ·simp only[jh]at q;omega
    ·simp only[jh]at q;have:=ac.lenL;omega)
   have dy:=Ab (ac.ltq ac.lenL.symm);have bv:=Ab ac;have bo:=Ab cm;have al:=Ab bY;have b0:=Ab co;have bw:=Ab hB;have dz:∀q,(Y ad ls.length P).ownBlock=some q->q<wr.heap.size:=fun q hq=>(ac.lets.lt q hq).2;have dA:∀q,(Y S ss.length W).ownBlock=some q->q<wr.heap.size:=fun q hq=>(ac.out.lt q hq).2;have aU:=Ab (jS dz dA);obtain⟨eq,er,es⟩:=Fl cm;clear co a7 ds dt du dv dw ac dz dA;go_upto_if 22 with fail
   have F:Below wr.heap.size wr ((wr.alloc (PN z t aS aT)).alloc (jF #[U V z,Q t,U V 0,Y T 0 0,Y T 0 0] 45)):=((Av wr _).alloc (by simp) _)
   have J:=(Ag.new wr #[U V z,Q t,U V aS,U V aT] 53).alloc (jF #[U V z,Q t,U V 0,Y T 0 0,Y T 0 0] 45);have K:=Ag.new (wr.alloc (PN z t aS aT)) #[U V z,Q t,U V 0,Y T 0 0,Y T 0 0] 45;have dB:((wr.alloc (PN z t aS aT)).alloc (jF #[U V z,Q t,U V 0,Y T 0 0,Y T 0 0] 45)).heap.size=wr.heap.size+2:=by simp
   simp only[jW]at K;generalize (wr.alloc (PN z t aS aT)).alloc (jF #[U V z,Q t,U V 0,Y T 0 0,Y T 0 0] 45)=r at F J K dB|-;generalize eT:wr.heap.size=aV at J K|-;generalize eU:aV+1=g at K|-;obtain⟨az,dC⟩:∃az,az=x.cond.map (AG ls):=⟨_,rfl⟩
   obtain⟨go,dD⟩:∃go,go=x.grant.map (AG ls):=⟨_,rfl⟩
   have bx:=Ab dC;have bp:=Ab dD;clear dC dD cp c1 c2 c3 ep eq er es;go_cut [] (fun r=>∃ (ca:Option jD) (cn cc:Nat),Ag r aV #[U V z,Q t,U V aS,U V aT] 53/\Ag r g #[U V z,Q t,U V 0,Y ca cn cc,Y T 0 0] 45/\Le w (wr.heap.size+2) r.heap.size r az ca cn/\Below wr.heap.size wr r/\wr.heap.size+2<=r.heap.size)
   case first=>
    rcases Aa bZ with⟨cr,bz⟩|⟨i,ex,ct,aW,cu,bq⟩
    ·subst cr;have a9:=Ab (show ∃ (ca:Option jD) (cn cc:Nat),Ag r aV #[U V z,Q t,U V (-1),U V aT] 53/\Ag r g #[U V z,Q t,U V 0,Y ca cn cc,Y T 0 0] 45/\Le w (wr.heap.size+2) r.heap.size r az ca cn/\Below wr.heap.size wr r/\wr.heap.size+2<=r.heap.size from⟨T,0,0,J,K,by rw[Aa bx,bz];rfl,F,by omega⟩);obtain⟨ao,s1,s2,ap,-⟩:=A6 J;clear J K F bz;go_wp2_with fail
     go_meet
     exact Aa a9
    ·subst ct;obtain⟨a4,aj⟩:∃a4,Al ts ex=some a4:=by
      rcases(Aa G).kinds (Aa aQ)with⟨_,e1,bA,aO,a8,_⟩|⟨_,⟨e1,aO,a8⟩,_⟩|⟨_,aO,_⟩
      ·rw[aW]at aO;cases aO;exact⟨_,a8⟩
      ·rw[aW]at aO;cases aO;exact⟨_,a8⟩
      ·rw[aW]at aO;cases aO
     have bB:=Ab (Gz (TB w a n c N (Aa dm) (Aa dn) (Aa a6) cu r.drew ((Aa al).trans (F.drew.mono (Aa al).size))) (fun e w' ⟨k,h,_⟩=>⟨_,h⟩));have aA:=(Aa bo).after F NLN;have aX:=(Ji r).drew;have bC:=K.after aX NLN;have bD:=J.after aX NLN;obtain⟨cv,bA,cw⟩:=Fl aA;obtain⟨ao,s1,s2,ap,-⟩:=A6 J;obtain⟨aq,ar,x2,x3,au,av⟩:=AP K;have cx:(Tryz.f44.name== "runtime.NumGoroutine")=jC:=by kernel_rfl
     have cy: Tryz.f44.body.isNone=jC:=by kernel_rfl
     have cz:(Tryz.f43.name== "runtime.NumGoroutine")=jC:=by kernel_rfl
     have cA: Tryz.f43.body.isNone=jC:=by kernel_rfl
     have et:(0 :Int)<=(i:Int):=by omega
     go_wp2_with fail
     go_region_law (first
      |(refine AE rfl 44 _ func44 cx cy _ _ _ rfl (Y a n c) (U V (i:Int)) rfl rfl _ (Aa bB) ?_;rintro eu cB ⟨A,cC,bE,aY⟩;obtain rfl:=Bg cC;have ae:=aX.trans (aY.mono NLN);have bF:=Ab (Gz (Aa dp ls ts (Aa G).lt (Aa G).len (Aa G).ok (Aa G).ops ad P (Aa dx) ex a4 A cB aj bq (by have:=ae.size;omega) (Tl.tq bE) ((Aa dy).below (F.trans (ae.mono F.size)) NLN)) (fun e w' ⟨k,h,_⟩=>⟨_,h⟩));have ba:=bC.after aY NLN;have bG:=bD.after aY NLN;obtain⟨cD,a7,cE,cF,cG,cH⟩:=AP ba;clear bE)
      |(refine AE rfl 43 _ func43 cz cA _ _ _ rfl (jG #[U V A.op,U V A.num,Q A.text,Y A.an A.nn A.cn,Y A.ka A.kn A.kc]) (Y ad ls.length P) rfl rfl _ (Aa bF) ?_;rintro ev af ⟨cI,bH,bb,aB⟩;obtain rfl:=Bg bH;obtain⟨aC,aD,aE,aF,aG,aH,aI,aJ,aK⟩:=cI;dsimp only at bH bb|-;have aZ:=ba.after aB NLN;have bI:=bG.after aB NLN;have bc:=ae.trans (aB.mono ae.size);obtain⟨cJ,l1,cK,cL,cM,cN⟩:=AP aZ;obtain⟨cO,cP,cQ,cR,cS,cT⟩:=AP (aZ.alloc (BV aC aD aE aF aG aH aI aJ aK));have aw:=jp (jm af (BV aC aD aE aF aG aH aI aJ aK)))
      |(refine step_append_lies _ rfl _ _ 43 rfl af.heap.size 48 ch (jG #[U V 0,U V 0,Q jU,Y T 0 0,Y T 0 0]) 5 80 underlying43 ci cj ck cl rfl (by decide) (Y T 0 0) 0 [] rfl (jX _ _ _ _) ⟨af.heap.size,0,T⟩ 1 1 (K5.cs ⟨aC,aD,aE,aF,aG,aH,aI,aJ,aK⟩) rfl rfl aw (by intro u aL;simp[K5.cs]at aL;rcases aL with rfl|rfl|rfl|rfl|rfl<;>rfl) (by decide) (by unfold jM;omega) (by omega) (by simp) _ rfl ?_;intro g7 v l ax H hat bJ;have ag:=(Av af (BV aC aD aE aF aG aH aI aJ aK)).grown H (by simp) (fun q hq=>by cases hq);have aa:=aZ.after ag NLN;have bK:=bI.after ag NLN;have ew:l.cell? ⟨g,3,T⟩=some (Y T 0 0):=aa.cell 3;have ey:=aa.frozen 3))
     all_goals
      have bd:=bc.trans (ag.mono bc.size);have ez:=ae.size;have eA:=aB.size;have eB:=ag.size;have eC:af.heap.size<=g7/\g7<l.heap.size:=⟨(ax.lt g7 rfl).1,(ax.lt g7 rfl).2⟩
      have ay:∀hi,Cf w (wr.heap.size+2) hi l (l.setCell ⟨g,3,T⟩ (Y (some ⟨g7,0,T⟩) 1 v)):=fun hi=>⟨by simp,fun q hq _=>jc l ⟨g,3,T⟩ q _ (by show q≠g;omega),Cw.set aa (by decide) _ _⟩
      have bL:BT l (some ⟨g7,0,T⟩) [(⟨aC,aD,aE,aF,aG,aH,aI,aJ,aK⟩:K5)]:=Et (m:=1) (B:=af.heap.size) (kc:=v) (by simpa using ax) rfl;have cU:Le w (wr.heap.size+2) l.heap.size (l.setCell ⟨g,3,T⟩ (Y (some ⟨g7,0,T⟩) 1 v)) (some (AG ls ex)) (some ⟨g7,0,T⟩) 1:=(show Le w (wr.heap.size+2) l.heap.size l (some (AG ls ex)) (some ⟨g7,0,T⟩) 1 from⟨rfl,fun q o h=>by simp only[jr,Addr.mk.injEq]at h;omega,_,bL,(bb.keep (Cf.of_below ag)).monoI (by omega) (by omega)⟩).keep (ay _);have bM:=aa.set 3 (Y (some ⟨g7,0,T⟩) 1 v);simp only[zn,zh,zk]at bM;have cV:=bK.setFar (p:=⟨g,3,T⟩) (by show aV≠g;omega) (Y (some ⟨g7,0,T⟩) 1 v);have cW:=(F.trans (bd.mono F.size)).setCell (p:=⟨g,3,T⟩) (by show wr.heap.size<=g;omega) (Y (some ⟨g7,0,T⟩) 1 v);have b5:(l.setCell ⟨g,3,T⟩ (Y (some ⟨g7,0,T⟩) 1 v)).heap.size=l.heap.size:=by simp
      have a9:=Ab (show ∃ (ca:Option jD) (cn cc:Nat),Ag (l.setCell ⟨g,3,T⟩ (Y (some ⟨g7,0,T⟩) 1 v)) aV #[U V z,Q t,U V (i:Int),U V aT] 53/\Ag (l.setCell ⟨g,3,T⟩ (Y (some ⟨g7,0,T⟩) 1 v)) g #[U V z,Q t,U V 0,Y ca cn cc,Y T 0 0] 45/\Le w (wr.heap.size+2) (l.setCell ⟨g,3,T⟩ (Y (some ⟨g7,0,T⟩) 1 v)).heap.size (l.setCell ⟨g,3,T⟩ (Y (some ⟨g7,0,T⟩) 1 v)) az ca cn/\Below wr.heap.size wr (l.setCell ⟨g,3,T⟩ (Y (some ⟨g7,0,T⟩) 1 v))/\wr.heap.size+2<=(l.setCell ⟨g,3,T⟩ (Y (some ⟨g7,0,T⟩) 1 v)).heap.size from⟨_,_,_,cV,bM,by rw[Aa bx,aW,b5];exact cU,cW,by omega⟩);clear bB aA bC bD aX cv bA cw ao s1 s2 ap aq ar x2 x3 au av ba bG aZ bI aa bK aY aB ag ae bc bd H hat bJ ax aw bL bb bF cD a7 cE cF cG cH cO cP cQ cR cS cT cJ l1 cK cL cM cN ay;go_wp2_with fail
      go_meet
      exact Aa a9
   case rest=>
    obtain⟨ca,cn,cc,aM,ah,bN,ai,cX⟩:=hcut;clear J K F dB;obtain⟨ao,s1,s2,ap,-⟩:=A6 aM;go_upto_if 37 with fail
    clear ao s1 s2 ap;generalize wc=r at aM ah bN ai cX|-;have J:=aM;have K:=ah;have F:=ai;clear aM ah ai;go_cut [] (fun r=>∃ (ga:Option jD) (gn gc:Nat),Ag r aV #[U V z,Q t,U V aS,U V aT] 53/\Ag r g #[U V z,Q t,U V 0,Y ca cn cc,Y ga gn gc] 45/\Le w (wr.heap.size+2) r.heap.size r az ca cn/\Le w (wr.heap.size+2) r.heap.size r go ga gn/\Below wr.heap.size wr r/\wr.heap.size+2<=r.heap.size)
    case first=>
     rcases Aa cq with⟨cr,bz⟩|⟨i,ex,ct,aW,cu,bq⟩
     ·subst cr;have a9:=Ab (show ∃ (ga:Option jD) (gn gc:Nat),Ag r aV #[U V z,Q t,U V aS,U V (-1)] 53/\Ag r g #[U V z,Q t,U V 0,Y ca cn cc,Y ga gn gc] 45/\Le w (wr.heap.size+2) r.heap.size r az ca cn/\Le w (wr.heap.size+2) r.heap.size r go ga gn/\Below wr.heap.size wr r/\wr.heap.size+2<=r.heap.size from⟨T,0,0,J,K,bN,by rw[Aa bp,bz];rfl,F,cX⟩);obtain⟨ao,s1,s2,ap,-⟩:=A6 J;clear J K F bz bN;go_wp2_with fail
      go_meet
      exact Aa a9
     ·subst ct;obtain⟨a4,aj⟩:∃a4,Al ts ex=some a4:=by
       rcases(Aa G).kinds (Aa aQ)with⟨_,e1,bA,aO,a8,a0,_⟩|⟨_,_,a0,_⟩|⟨_,aO,a0,_⟩
       ·rw[aW]at a0;cases a0
       ·rw[aW]at a0;exact⟨_,a0⟩
       ·rw[aW]at a0;exact⟨_,a0⟩
      have bB:=Ab (Gz (TB w a n c N (Aa dm) (Aa dn) (Aa a6) cu r.drew ((Aa al).trans (F.drew.mono (Aa al).size))) (fun e w' ⟨k,h,_⟩=>⟨_,h⟩));have aA:=(Aa bo).after F NLN;have aX:=(Ji r).drew;have bC:=K.after aX NLN;have bD:=J.after aX NLN;obtain⟨cv,bA,cw⟩:=Fl aA;obtain⟨ao,s1,s2,ap,-⟩:=A6 J;obtain⟨aq,ar,x2,x3,au,av⟩:=AP K;have cx:(Tryz.f44.name== "runtime.NumGoroutine")=jC:=by kernel_rfl
      have cy: Tryz.f44.body.isNone=jC:=by kernel_rfl
      have cz:(Tryz.f43.name== "runtime.NumGoroutine")=jC:=by kernel_rfl
      have cA: Tryz.f43.body.isNone=jC:=by kernel_rfl
      have et:(0 :Int)<=(i:Int):=by omega
      go_wp2_with fail
      go_region_law (first
       |(refine AE rfl 44 _ func44 cx cy _ _ _ rfl (Y a n c) (U V (i:Int)) rfl rfl _ (Aa bB) ?_;rintro eu cB ⟨A,cC,bE,aY⟩;obtain rfl:=Bg cC;have ae:=aX.trans (aY.mono NLN);have bF:=Ab (Gz (Aa dp ls ts (Aa G).lt (Aa G).len (Aa G).ok (Aa G).ops ad P (Aa dx) ex a4 A cB aj bq (by have:=ae.size;omega) (Tl.tq bE) ((Aa dy).below (F.trans (ae.mono F.size)) NLN)) (fun e w' ⟨k,h,_⟩=>⟨_,h⟩));have ba:=bC.after aY NLN;have bG:=bD.after aY NLN;obtain⟨cD,a7,cE,cF,cG,cH⟩:=AP ba;clear bE)
       |(refine AE rfl 43 _ func43 cz cA _ _ _ rfl (jG #[U V A.op,U V A.num,Q A.text,Y A.an A.nn A.cn,Y A.ka A.kn A.kc]) (Y ad ls.length P) rfl rfl _ (Aa bF) ?_;rintro ev af ⟨cI,bH,bb,aB⟩;obtain rfl:=Bg bH;obtain⟨aC,aD,aE,aF,aG,aH,aI,aJ,aK⟩:=cI;dsimp only at bH bb|-;have aZ:=ba.after aB NLN;have bI:=bG.after aB NLN;have bc:=ae.trans (aB.mono ae.size);obtain⟨cJ,l1,cK,cL,cM,cN⟩:=AP aZ;obtain⟨cO,cP,cQ,cR,cS,cT⟩:=AP (aZ.alloc (BV aC aD aE aF aG aH aI aJ aK));have aw:=jp (jm af (BV aC aD aE aF aG aH aI aJ aK)))
       |(refine step_append_lies _ rfl _ _ 43 rfl af.heap.size 48 ch (jG #[U V 0,U V 0,Q jU,Y T 0 0,Y T 0 0]) 5 80 underlying43 ci cj ck cl rfl (by decide) (Y T 0 0) 0 [] rfl (jX _ _ _ _) ⟨af.heap.size,0,T⟩ 1 1 (K5.cs ⟨aC,aD,aE,aF,aG,aH,aI,aJ,aK⟩) rfl rfl aw (by intro u aL;simp[K5.cs]at aL;rcases aL with rfl|rfl|rfl|rfl|rfl<;>rfl) (by decide) (by unfold jM;omega) (by omega) (by simp) _ rfl ?_;intro g7 v l ax H hat bJ;have ag:=(Av af (BV aC aD aE aF aG aH aI aJ aK)).grown H (by simp) (fun q hq=>by cases hq);have aa:=aZ.after ag NLN;have bK:=bI.after ag NLN;have ew:l.cell? ⟨g,4,T⟩=some (Y T 0 0):=aa.cell 4;have ey:=aa.frozen 4))
      all_goals
       have bd:=bc.trans (ag.mono bc.size);have ez:=ae.size;have eA:=aB.size;have eB:=ag.size;have eC:af.heap.size<=g7/\g7<l.heap.size:=⟨(ax.lt g7 rfl).1,(ax.lt g7 rfl).2⟩
       have ay:∀hi,Cf w (wr.heap.size+2) hi l (l.setCell ⟨g,4,T⟩ (Y (some ⟨g7,0,T⟩) 1 v)):=fun hi=>⟨by simp,fun q hq _=>jc l ⟨g,4,T⟩ q _ (by show q≠g;omega),Cw.set aa (by decide) _ _⟩
       have bL:BT l (some ⟨g7,0,T⟩) [(⟨aC,aD,aE,aF,aG,aH,aI,aJ,aK⟩:K5)]:=Et (m:=1) (B:=af.heap.size) (kc:=v) (by simpa using ax) rfl;have cU:Le w (wr.heap.size+2) l.heap.size (l.setCell ⟨g,4,T⟩ (Y (some ⟨g7,0,T⟩) 1 v)) (some (AG ls ex)) (some ⟨g7,0,T⟩) 1:=(show Le w (wr.heap.size+2) l.heap.size l (some (AG ls ex)) (some ⟨g7,0,T⟩) 1 from⟨rfl,fun q o h=>by simp only[jr,Addr.mk.injEq]at h;omega,_,bL,(bb.keep (Cf.of_below ag)).monoI (by omega) (by omega)⟩).keep (ay _);have bM:=aa.set 4 (Y (some ⟨g7,0,T⟩) 1 v);simp only[zn,zh,zk]at bM;have cV:=bK.setFar (p:=⟨g,4,T⟩) (by show aV≠g;omega) (Y (some ⟨g7,0,T⟩) 1 v);have cW:=(F.trans (bd.mono F.size)).setCell (p:=⟨g,4,T⟩) (by show wr.heap.size<=g;omega) (Y (some ⟨g7,0,T⟩) 1 v);have b5:(l.setCell ⟨g,4,T⟩ (Y (some ⟨g7,0,T⟩) 1 v)).heap.size=l.heap.size:=by simp
       have dE:=((bN.keep (Cf.of_below bd)).keep (ay _)).mono (lo':=wr.heap.size+2) (hi':=l.heap.size) NLN bd.size;have a9:=Ab (show ∃ (ga:Option jD) (gn gc:Nat),Ag (l.setCell ⟨g,4,T⟩ (Y (some ⟨g7,0,T⟩) 1 v)) aV #[U V z,Q t,U V aS,U V (i:Int)] 53/\Ag (l.setCell ⟨g,4,T⟩ (Y (some ⟨g7,0,T⟩) 1 v)) g #[U V z,Q t,U V 0,Y ca cn cc,Y ga gn gc] 45/\Le w (wr.heap.size+2) (l.setCell ⟨g,4,T⟩ (Y (some ⟨g7,0,T⟩) 1 v)).heap.size (l.setCell ⟨g,4,T⟩ (Y (some ⟨g7,0,T⟩) 1 v)) az ca cn/\Le w (wr.heap.size+2) (l.setCell ⟨g,4,T⟩ (Y (some ⟨g7,0,T⟩) 1 v)).heap.size (l.setCell ⟨g,4,T⟩ (Y (some ⟨g7,0,T⟩) 1 v)) go ga gn/\Below wr.heap.size wr (l.setCell ⟨g,4,T⟩ (Y (some ⟨g7,0,T⟩) 1 v))/\wr.heap.size+2<=(l.setCell ⟨g,4,T⟩ (Y (some ⟨g7,0,T⟩) 1 v)).heap.size from⟨_,_,_,cV,bM,by rw[b5];exact dE,by rw[Aa bp,aW,b5];exact cU,cW,by omega⟩);clear bB aA bC bD aX cv bA cw ao s1 s2 ap aq ar x2 x3 au av ba bG aZ bI aa bK aY aB ag ae bc bd H hat bJ ax aw bL bb bF cD a7 cE cF cG cH cO cP cQ cR cS cT cJ l1 cK cL cM cN ay;clear dE;go_wp2_with fail
       go_meet
       exact Aa a9
    case rest=>
     obtain⟨ga,gn,gc,aM,ah,br,bf,ai,eV⟩:=hcut;clear J K F cX bN;go_upto_block 2 with fail
     go_cut [3] (fun lv r=>∃ (y nq:Int) (C:Option jD) (D E:Nat) (aP:List K5) (M:List Ex) (q:Sx×Int),Ag r g #[U V y,Q t,U V nq,Y C D E,Y ga gn gc] 45/\RU w (w.heap.size+1) lv (Y S ss.length W) aP M ss O r/\Ag r w.heap.size #[Y a n c,Y (some ⟨bt,bu,T⟩) m d,Y e k f] 31/\Below w.heap.size w r/\∃hi,Iv (w.heap.size+1) lv (Y S ss.length W) r (wr.heap.size+2) hi/\StQ w (wr.heap.size+2) hi r ⟨y,t,nq,C,D,E,ga,gn,gc⟩ q/\Hid (NxP X j M O q y))
     case first=>
      have bO:=(Aa al).trans (ai.mono (Aa al).size);have aA:=(Aa bo).after ai NLN;have bP:=(Aa bv).below ai;obtain⟨aq,ar,x2,x3,au,av⟩:=AP ah;obtain⟨ao,s1,s2,ap,-⟩:=A6 aM;rcases(Aa G).kinds (Aa aQ)with⟨ab,ex,a4,hc,aj,hg,bg⟩|⟨ab,⟨ex,hc,aj⟩,hg,bg⟩|⟨ab,hc,hg,bg⟩
      ·obtain rfl:z=1:=by rw[<-(Aa aR).1];exact ab
       obtain rfl:az=some (AG ls ex):=by rw[Aa bx,hc];rfl
       obtain⟨rfl,bQ,a5,bR,bS⟩:=br;have bq:Ib ex:=by
        rcases Aa bZ with⟨_,q⟩|⟨_,e1,_,q,_,a8⟩
        ·rw[hc]at q;cases q
        ·rw[hc]at q;cases q;exact a8
       have ay:Cf w (wr.heap.size+2) wc.heap.size wc (wc.setCell ⟨g,2,T⟩ (U V ls.length)):=⟨by simp,fun q hq _=>jc wc ⟨g,2,T⟩ q _ (by show q≠g;omega),Cw.set ah (by decide) _ _⟩
       have cY:=g5 ay.1 bR (fun b o e eD=>ay.2.1 b (bQ b o e) eD);have cZ:=bS.keep ay;have dF:Le w (wr.heap.size+2) wc.heap.size (wc.setCell ⟨g,2,T⟩ (U V ls.length)) (some (AG ls ex)) ca 1:=⟨rfl,bQ,a5,cY,cZ⟩
       have dG:=bf.keep ay;have aN:=ah.set 2 (U V ls.length);simp only[zn,zh,zk]at aN;have b6:=ai.setCell (p:=⟨g,2,T⟩) (by show wr.heap.size<=g;omega) (U V ls.length);have dH:(wc.setCell ⟨g,2,T⟩ (U V ls.length)).heap.size=wc.heap.size:=by simp
       have bh:=Ab ((Aa bv).below b6);have b7:=Ab ((Aa bo).after b6 NLN);have bT:=Ab ((Aa al).trans (b6.mono (Aa al).size));obtain⟨gk,ok,rfl,bs,bU⟩:=Bh cY (by simp);obtain⟨bi,b1,b2,b3,b4⟩:=bU 0 (by simp);simp only[zt,z0,zX]at bi b1 b2 b3 b4;obtain⟨dI,dJ,dK,dL,dM,-⟩:=AP aN;obtain⟨b8,dN⟩:∃b8,b8=wc.setCell ⟨g,2,T⟩ (U V ls.length):=⟨_,rfl⟩
       have dO:=Ab dN;have bV:=jV (Aa bh).lets (CE a5);have aw:=jp (jm (wc.setCell ⟨g,2,T⟩ (U V ls.length)) (CE a5));rw[dH]at aw;have eW:ak.length<=1048576:=by have:=(Aa G).sm;have:=(Aa bv).lenL;omega
       have bj:=Ab (⟨dF,dG,cZ,aN,trivial⟩:_/\_/\_/\_/\True);have bW:=Ab (jS hc (jS aj (jS bg bq)));clear dN dF dG cZ aN bU ay bR cY bS bQ bO aA bP bf b6 hc aj hg bg bq ah aM ai;go_wp2_with (at_builtin;refine jj _ rfl _ _ 43 rfl (w.heap.size+1) 48 ch (jG #[U V 0,U V 0,Q jU,Y T 0 0,Y T 0 0]) 5 80 underlying43 ci cj ck cl rfl (by decide) (Y ad ls.length P) ak.length (ak.flatMap K5.cs) rfl bV ⟨wc.heap.size,0,T⟩ 1 1 (K5.cs a5) rfl rfl aw (by intro u aL;simp[K5.cs]at aL;rcases aL with rfl|rfl|rfl|rfl|rfl<;>rfl) (by decide) (by unfold jM;omega) (by omega) (by simp;omega) _ rfl ?_)
       intro g7 c7 l ax H hat bJ;rw[<-Aa dO]at H bh b7 bT bj;have eE:b8.heap.size=wc.heap.size:=by rw[Aa dO];exact dH
       have bk:Iv (w.heap.size+1) (Y ad ls.length P) (Y S ss.length W) b8 (wr.heap.size+2) wc.heap.size:=⟨by have:=Aa bw;omega,by omega,fun q hq=> .inl (by have:=(Aa aU).1 q hq;omega),fun q hq=> .inl (by have:=(Aa aU).2 q hq;omega)⟩
       obtain⟨dP,c0⟩:=(Aa bh).pushL (zj _) bk (Aa bj).2.2.1 ax H (hat.imp id (fun h=>by rw[h];simp[eE]));have aa:=((Aa bj).2.2.2.1.alloc (CE a5)).grown H (fun e=>Ac (Aa bj).2.2.2.1 (Aa bh).lets (by decide) e.symm);have dQ:=((Aa b7).alloc (CE a5)).grown H (fun e=>Ac (Aa b7) (Aa bh).lets (by decide) e.symm);have dR:=((Aa bT).alloc (Aa bT).size (CE a5)).grown H (by simp;have:=(Aa bT).size;omega) (fun q hq=>by have:=((Aa bh).lets.lt q hq).1;omega);have dS:Iv (w.heap.size+1) (Y (some ⟨g7,0,T⟩) (ak.length+1) c7) (Y S ss.length W) l (wr.heap.size+2) wc.heap.size:=⟨bk.1,by have:=H.size;simp at this;omega,fun q hq=>by
        have e:g7=q:=by simpa[ja]using hq
        subst e;rcases hat with h|h
        ·exact bk.2.2.1 g7 h
        ·right;rw[h];simp,bk.2.2.2⟩
       have bl:=Ab (show ∃ (y nq:Int) (C:Option jD) (D E:Nat) (aP:List K5) (M:List Ex) (q:Sx×Int),Ag l g #[U V y,Q t,U V nq,Y C D E,Y ga gn gc] 45/\RU w (w.heap.size+1) (Y (some ⟨g7,0,T⟩) (ak.length+1) c7) (Y S ss.length W) aP M ss O l/\Ag l w.heap.size #[Y a n c,Y (some ⟨bt,bu,T⟩) m d,Y e k f] 31/\Below w.heap.size w l/\∃hi,Iv (w.heap.size+1) (Y (some ⟨g7,0,T⟩) (ak.length+1) c7) (Y S ss.length W) l (wr.heap.size+2) hi/\StQ w (wr.heap.size+2) hi l ⟨y,t,nq,C,D,E,ga,gn,gc⟩ q/\Hid (NxP X j M O q y)from⟨1,ls.length,_,1,cc,_,_,(Ef ls x,(ls.length:Int)),aa,dP,dQ,dR,wc.heap.size,dS,⟨ab.symm,(Aa aR).2.symm,rfl,by show Le _ _ _ _ (x.cond.map (AG ls)) _ _;rw[(Aa bW).1];exact(Aa bj).1.keep (c0 _ _ bk),by show Le _ _ _ _ (x.grant.map (AG ls)) _ _;rw[<-Aa bp];exact(Aa bj).2.1.keep (c0 _ _ bk)⟩,Ab (.inr ⟨by decide,_,(Aa G).lett (Aa aQ) ab (Aa bW).1 (Aa bW).2.1 (Aa bW).2.2.1 (Aa bW).2.2.2⟩)⟩);clear dP c0 aa dQ dR dS bk H hat bJ ax bV aw bh b7 bT bj bi b1 b2 b3 b4 dI dJ dK dL dM aq ar x2 x3 au av ao s1 s2 ap;go_wp2_with fail
       go_meet
       exact Aa bl
      ·obtain rfl:z=2:=by rw[<-(Aa aR).1];exact ab
       obtain rfl:az=some (AG ls ex):=by rw[Aa bx,hc];rfl
       have eF:=Ab br;obtain⟨rfl,bQ,a5,bR,bS⟩:=br;have dT:Be (AG ls ex)=jA:=Cl _ _ (BP (Aa G).lt ex 1 aj);obtain⟨gk,ok,rfl,bs,bU⟩:=Bh bR (by simp);obtain⟨bi,b1,b2,b3,b4⟩:=bU 0 (by simp);simp only[zt,z0,zX]at bi b1 b2 b3 b4;have dU:=Ab (Tl.tq bS);have bm:=Ab (jS hc bg);have b9:=Ab ah;have dV:=Ab bf;have dW:=Ab bO;have eG:=Ab aA;have eH:=Ab bP;have a6:=Ab ai;have eI:=Ab aM;clear bQ bR bS bU hc bg aj hg bf bO aA bP ah aM ai;go_wp2_with fail
       refine(Fj (Aa dU) dT jC 0 rfl).mono ?_;rintro eJ dq ⟨rfl,a1⟩;dsimp only;clear aq ar x2 x3 au av ao s1 s2 ap;obtain⟨aq,ar,x2,x3,au,av⟩:=AP ((Aa b9).after a1 NLN);obtain⟨ao,s1,s2,ap,-⟩:=A6 ((Aa eI).after a1 NLN);replace bi:=(a1.cell (p:=⟨gk,ok,T⟩) bs).trans bi;replace b1:=(a1.cell (p:=⟨gk,ok+1,T⟩) bs).trans b1;replace b2:=(a1.cell (p:=⟨gk,ok+2,T⟩) bs).trans b2;replace b3:=(a1.cell (p:=⟨gk,ok+3,T⟩) bs).trans b3;replace b4:=(a1.cell (p:=⟨gk,ok+4,T⟩) bs).trans b4;have bn:=Ab a1;clear a1;cases cb:isB jC (AG ls ex)with
       |true=>
        have eK:=Ab ((Aa G).skip (Aa aQ) ab (Aa bm).2 (by show Ia jC (x.cond.map (AG ls))=jA;rw[(Aa bm).1];exact cb));clear cb;go_wp2_with fail
        go_roundw
        case rel=>exact⟨j+1,ak,ls,ss,O,ts,Aa b0,by go_num,eK,(Aa eH).below (Aa bn),(Aa eG).after (Aa bn) NLN,(Aa dW).trans ((Aa bn).mono (Aa dW).size),by have:=(Aa bn).size;have:=Aa bw;omega⟩
        case measure=>have:=Aa b0;simp[intOf];omega
       |false=>
        have dX:=Ab (show Ia jC (Ef ls x).cond=jC by show Ia jC (x.cond.map (AG ls))=jC;rw[(Aa bm).1];exact cb);clear cb;go_wp2_with fail
        refine(Fj ((Aa dU).below (Aa bn) NLN) dT jA 1 rfl).mono ?_;rintro eJ I ⟨rfl,dY⟩;have a2:=(Aa bn).trans (dY.mono (Aa bn).size);dsimp only;clear aq ar x2 x3 au av ao s1 s2 ap bi b1 b2 b3 b4 dY;have aN:=(Aa b9).after a2 NLN;obtain⟨aq,ar,x2,x3,au,av⟩:=AP aN;have dZ:=a2.size;cases cd:isB jA (AG ls ex)with
        |true=>
         have bX:=aN.set 0 (U V 3);simp only[zn,zh]at bX;have c4:=bX.set 3 (Y T 0 0);simp only[zn,zh,zk]at c4;have d0:Cf w (wr.heap.size+2) wc.heap.size I (I.setCell ⟨g,0,T⟩ (U V 3)):=⟨by simp,fun q hq _=>jc I ⟨g,0,T⟩ q _ (by show q≠g;omega),Cw.set aN (by decide) _ _⟩
         have d1:Cf w (wr.heap.size+2) wc.heap.size (I.setCell ⟨g,0,T⟩ (U V 3)) ((I.setCell ⟨g,0,T⟩ (U V 3)).setCell ⟨g,3,T⟩ (Y T 0 0)):=⟨by simp,fun q hq _=>jc _ ⟨g,3,T⟩ q _ (by show q≠g;omega),Cw.set bX (by decide) _ _⟩
         have a3:=(((Aa a6).trans (a2.mono (Aa a6).size)).setCell (p:=⟨g,0,T⟩) (by show wr.heap.size<=g;omega) (U V 3)).setCell (p:=⟨g,3,T⟩) (by show wr.heap.size<=g;omega) (Y T 0 0);have eL:((I.setCell ⟨g,0,T⟩ (U V 3)).setCell ⟨g,3,T⟩ (Y T 0 0)).heap.size=I.heap.size:=by simp
         obtain⟨dI,dJ,dK,dL,dM,eX⟩:=AP bX;have bl:=Ab (show ∃ (y nq:Int) (C:Option jD) (D E:Nat) (aP:List K5) (M:List Ex) (q:Sx×Int),Ag ((I.setCell ⟨g,0,T⟩ (U V 3)).setCell ⟨g,3,T⟩ (Y T 0 0)) g #[U V y,Q t,U V nq,Y C D E,Y ga gn gc] 45/\RU w (w.heap.size+1) (Y ad ls.length P) (Y S ss.length W) aP M ss O ((I.setCell ⟨g,0,T⟩ (U V 3)).setCell ⟨g,3,T⟩ (Y T 0 0))/\Ag ((I.setCell ⟨g,0,T⟩ (U V 3)).setCell ⟨g,3,T⟩ (Y T 0 0)) w.heap.size #[Y a n c,Y (some ⟨bt,bu,T⟩) m d,Y e k f] 31/\Below w.heap.size w ((I.setCell ⟨g,0,T⟩ (U V 3)).setCell ⟨g,3,T⟩ (Y T 0 0))/\∃hi,Iv (w.heap.size+1) (Y ad ls.length P) (Y S ss.length W) ((I.setCell ⟨g,0,T⟩ (U V 3)).setCell ⟨g,3,T⟩ (Y T 0 0)) (wr.heap.size+2) hi/\StQ w (wr.heap.size+2) hi ((I.setCell ⟨g,0,T⟩ (U V 3)).setCell ⟨g,3,T⟩ (Y T 0 0)) ⟨y,t,nq,C,D,E,ga,gn,gc⟩ q/\Hid (NxP X j M O q y)from⟨3,0,T,0,0,ak,ls,(⟨x.at',3,⟨#[]⟩,T,(Ef ls x).grant⟩,0),c4,(Aa bv).below a3,(Aa bo).after a3 NLN,(Aa al).trans (a3.mono (Aa al).size),wc.heap.size,⟨by have:=Aa bw;omega,by rw[eL];exact dZ,fun q hq=> .inl (by have:=(Aa aU).1 q hq;omega),fun q hq=> .inl (by have:=(Aa aU).2 q hq;omega)⟩,⟨rfl,by show t=⟨#[]⟩;rw[<-(Aa aR).2];exact Aa ek x (zp (Aa aQ)) ab,rfl,rfl,by show Le _ _ _ _ (x.grant.map (AG ls)) _ _;rw[<-Aa bp];exact(((Aa dV).keep (Cf.of_below a2)).keep d0).keep d1⟩,Ab (.inl ⟨rfl,(Aa G).tru (Aa aQ) ab (Aa dX) (by show Ia jA (x.cond.map (AG ls))=jA;rw[(Aa bm).1];exact cd)⟩)⟩);clear cd aN bX c4 d0 d1 a3 a2;go_wp2_with fail
         go_meet
         exact Aa bl
        |false=>
         have a3:=(Aa a6).trans (a2.mono (Aa a6).size);have bl:=Ab (show ∃ (y nq:Int) (C:Option jD) (D E:Nat) (aP:List K5) (M:List Ex) (q:Sx×Int),Ag I g #[U V y,Q t,U V nq,Y C D E,Y ga gn gc] 45/\RU w (w.heap.size+1) (Y ad ls.length P) (Y S ss.length W) aP M ss O I/\Ag I w.heap.size #[Y a n c,Y (some ⟨bt,bu,T⟩) m d,Y e k f] 31/\Below w.heap.size w I/\∃hi,Iv (w.heap.size+1) (Y ad ls.length P) (Y S ss.length W) I (wr.heap.size+2) hi/\StQ w (wr.heap.size+2) hi I ⟨y,t,nq,C,D,E,ga,gn,gc⟩ q/\Hid (NxP X j M O q y)from⟨2,0,some ⟨gk,ok,T⟩,1,cc,ak,ls,(Ef ls x,0),aN,(Aa bv).below a3,(Aa bo).after a3 NLN,(Aa al).trans (a3.mono (Aa al).size),wc.heap.size,⟨by have:=Aa bw;omega,dZ,fun q hq=> .inl (by have:=(Aa aU).1 q hq;omega),fun q hq=> .inl (by have:=(Aa aU).2 q hq;omega)⟩,⟨ab.symm,(Aa aR).2.symm,rfl,by show Le _ _ _ _ (x.cond.map (AG ls)) _ _;rw[(Aa bm).1];exact(Aa eF).keep (Cf.of_below a2),by show Le _ _ _ _ (x.grant.map (AG ls)) _ _;rw[<-Aa bp];exact(Aa dV).keep (Cf.of_below a2)⟩,Ab (.inr ⟨by decide,ts,(Aa G).when (Aa aQ) ab (Aa bm).2 (Aa dX) (by show Ia jA (x.cond.map (AG ls))=jC;rw[(Aa bm).1];exact cd)⟩)⟩);clear cd aN a3 a2;go_wp2_with fail
         go_meet
         exact Aa bl
      ·obtain rfl:z=3:=by rw[<-(Aa aR).1];exact ab
       obtain rfl:az=T:=by rw[Aa bx,hc];rfl
       have bl:=Ab (show ∃ (y nq:Int) (C:Option jD) (D E:Nat) (aP:List K5) (M:List Ex) (q:Sx×Int),Ag wc g #[U V y,Q t,U V nq,Y C D E,Y ga gn gc] 45/\RU w (w.heap.size+1) (Y ad ls.length P) (Y S ss.length W) aP M ss O wc/\Ag wc w.heap.size #[Y a n c,Y (some ⟨bt,bu,T⟩) m d,Y e k f] 31/\Below w.heap.size w wc/\∃hi,Iv (w.heap.size+1) (Y ad ls.length P) (Y S ss.length W) wc (wr.heap.size+2) hi/\StQ w (wr.heap.size+2) hi wc ⟨y,t,nq,C,D,E,ga,gn,gc⟩ q/\Hid (NxP X j M O q y)from⟨3,0,ca,cn,cc,ak,ls,(Ef ls x,0),ah,bP,aA,bO,wc.heap.size,⟨by have:=Aa bw;omega,NLN,fun q hq=> .inl (by have:=(Aa aU).1 q hq;omega),fun q hq=> .inl (by have:=(Aa aU).2 q hq;omega)⟩,⟨ab.symm,(Aa aR).2.symm,rfl,by show Le _ _ _ _ (x.cond.map (AG ls)) _ _;rw[hc];exact br,by show Le _ _ _ _ (x.grant.map (AG ls)) _ _;rw[<-Aa bp];exact bf⟩,Ab (.inl ⟨rfl,(Aa G).els (Aa aQ) ab⟩)⟩);clear ah bP aA bO br bf aM ai hc hg bg;go_wp2_with fail
       go_meet
       exact Aa bl
     case rest=>
      obtain⟨y,nq,C,D,E,aP,M,q,c5,ce,c6,d2,hi,d3,d4,eM⟩:=hcut;obtain⟨aq,ar,x2,x3,au,av⟩:=AP c5;have bV:=jV ce.out (jF #[U V y,Q t,U V nq,Y C D E,Y ga gn gc] 45);have aw:=jp (jm wc (jF #[U V y,Q t,U V nq,Y C D E,Y ga gn gc] 45));have eY:ss.length<=1048576:=by have:=(Aa G).sd;have:=ce.lenD;omega
      have b9:=Ab c5;have c8:=Ab ce;have d5:=Ab c6;have c9:=Ab d2;have d6:=Ab (jS d3 d4);have eZ:w.heap.size+1<=wc.heap.size:=by have:=c6.lt;omega
      clear c5 ce c6 d2 d3 d4 aM ah br bf ai;go_wp2_with (at_builtin;refine jj _ rfl _ _ 41 rfl (w.heap.size+1) 45 eb (jG #[U V 0,Q jU,U V 0,Y T 0 0,Y T 0 0]) 5 80 underlying41 ec ed ee ef rfl (by decide) (Y S ss.length W) ss.length (ss.flatMap S5.cs) rfl bV ⟨wc.heap.size,0,T⟩ 1 1 (S5.cs ⟨y,t,nq,C,D,E,ga,gn,gc⟩) rfl rfl aw (by intro u aL;simp[S5.cs]at aL;rcases aL with rfl|rfl|rfl|rfl|rfl<;>rfl) (by decide) (by unfold jM;omega) (by omega) (by simp;omega) _ rfl ?_)
      intro e0 e2 d7 d8 H hat eN;have cf:=(Aa c8).pushD (zj _) (Aa d6).1 (Aa d6).2 d8 H (hat.imp id (fun h=>h.trans (by simp)));have da:=((Aa b9).alloc (jF #[U V y,Q t,U V nq,Y C D E,Y ga gn gc] 45)).grown H (fun e=>by have:=(Aa aU).2 _ e.symm;omega);have db:=((Aa d5).alloc (jF #[U V y,Q t,U V nq,Y C D E,Y ga gn gc] 45)).grown H (fun e=>Ac (Aa d5) (Aa c8).out (by decide) e.symm);have cg:=((Aa c9).alloc (Aa c9).size (jF #[U V y,Q t,U V nq,Y C D E,Y ga gn gc] 45)).grown H (by have:=(Aa c9).size;rw[jW];omega) (fun q hq=>by have:=((Aa c8).out.lt q hq).1;omega);have e3:wc.heap.size<=d7.heap.size:=by have:=H.size;simp at this;omega
      clear aq ar x2 x3 au av bV aw d8 H hat eN;obtain⟨aq,ar,x2,x3,au,av⟩:=AP da;rcases Aa eM with⟨rfl,d9⟩|⟨ea,eO,hS⟩
      ·have dc:=Ab (cf.ans (zj _) cg d9);clear cf cg da db d9;go_wp2_with fail
       go_ret
       exact Aa dc
      ·have a0:(y==3)=jC:=zA.2 ea;have eP:=Ab (⟨Ab hS,cf,db,cg,by omega⟩:Hid _/\_/\_/\_/\w.heap.size+1<=d7.heap.size);clear cf cg da db hS ea;go_wp2_with fail
       go_roundw
       case rel=>exact⟨j+1,_,_,_,_,eO,Aa b0,by go_num,Aa eP⟩
       case measure=>have:=Aa b0;simp[intOf];omega
  ·have dc:=Ab (ac.ans (zj _) bY ((Aa G).fin (by rw[Aa ej,Aa dl];omega)));have e4: ¬ ((j:Int)<(m:Int)):=by omega
   clear ac cm bY;go_wp2_with fail
   go_ret
   exact Aa dc
theorem Nw {a:Nat}{e:TypeId}{size:Nat}{b:List R}(h:w.ownsRow B e size v n b)(hB:a<=B):w.ownsRow a e size v n b:=by
 refine⟨h.1,?_⟩;rcases h.2 with q|⟨g,cap,c,h1,h2,h3⟩
 ·exact .inl q
 ·exact .inr ⟨g,cap,c,h1,zB hB h2,h3⟩
theorem Kf {ops:Array Oper}{rest:List Oper}{o:Oper}{d:Act}{l:Exit->Act->Z->Prop}(m:o.guard=T)(s x:Operand)(p:o.op= .call { callee:= .builtin .append,args:=#[s,x],argTypes:=#[46,46] })(b:Nat)(v:R)(k:Nat)(f:List R)(hs:d.eval s=v)(g:w.ownsRow b 9 1 v k f)(a:Option jD)(n c c2:Nat)(ss:List ByteArray)(hx:d.eval x=Y a n c)(h:Ap w a n c2 ss)(G:k+n<=1048576)(r:b<=w.heap.size)
  (t:∀j w',w'.ownsRow b 9 1 j (k+n) (f++ss.map Q)->Below b w w'->wpList j4 ops l rest (d.put o.dst j) w'):wpList j4 ops l (o ::rest) d w:=by
 obtain⟨i,hi,y,z,A⟩:=jZ Jc;cases a with
 |none=>
  have h0:n=0:=by
   rcases Nat.eq_zero_or_pos n with q|q
   ·exact q
   ·obtain⟨H,I,B,_⟩:=h.cells 0 q;cases B
  subst h0;obtain rfl:ss=[]:=z9 h.len.symm;exact DX m s x 46 p b 9 i 1 c underlying46 hi v k f hs g hx (t v w (by simpa using g) BRN)
 |some C=>
  refine wpList_append_own w m s x 46 p b 9 i (Q jU) 1 16 underlying46 hi y z A rfl (by decide) v k f hs g C n c (ss.map Q) hx ?_ (Ap.newsG h) ?_ ?_ ?_ r ?_
  ·rw[ze,h.len];omega
  ·intro u D;obtain⟨s,_,rfl⟩:=zg.1 D;rfl
  ·unfold jM;omega
  ·omega
  ·intro j w' E F _;exact t j w' E (BRN.grown F r (fun q hq=>(g.lt q hq).1))
def CM:List (Nat->List Nd)->Nat->List Nd×List Int
 |[],_=>([],[])
 |f ::fs,b=>(f b++(CM fs (b+(f b).length)).1,(((b+(f b).length:Nat):Int)-1) ::(CM fs (b+(f b).length)).2)
theorem TE (f:Nat->List Nd):∀(a:List (Nat->List Nd)) (b:Nat),CM (a++[f]) b=((CM a b).1++f (b+(CM a b).1.length),(CM a b).2++[((b+(CM a b).1.length+(f (b+(CM a b).1.length)).length:Nat):Int)-1])
 |[],b=>by simp[CM]
 |g ::a,b=>by
  rw[js,CM,TE f a,CM];simp only[zT,zC,js,Z4]
theorem WY:∀(a:List (Nat->List Nd)) (b:Nat),(CM a b).2.length=a.length
 |[],b=>rfl
 |g ::a,b=>by rw[CM];simp[WY a]
theorem TF:∀(a:List (Nat->List Nd)) (b j:Nat),(CM (a.take j) b).1.length<=(CM a b).1.length
 |[],b,j=>by simp[CM]
 |g ::a,b,0=>by simp[CM]
 |g ::a,b,j+1=>by
  rw[List.take_succ_cons,CM,CM];simp only[zC];have:=TF a (b+(g b).length) j;omega
structure Pk (B:Nat) (v:R) (w:Z) (v':R) (w':Z):Prop where
 low:Below B w w'
 block:∀k,k<w.heap.size->v.ownBlock≠X k->w'.heap[k]? =w.heap[k]?
 new:∀q,v'.ownBlock=X q->v.ownBlock=X q\/w.heap.size<=q
theorem Pk.trans {B:Nat}{v a b:R}{w c d:Z}(h:Pk B v w a c)(k:Pk B a c b d):Pk B v w b d:=by
 have f:=h.low.size;refine⟨h.low.trans k.low,fun q h1 h2=>?_,fun q hq=>?_⟩
 ·refine(k.block q (zE h1 f) (fun e=>?_)).trans (h.block q h1 h2);rcases h.new q e with e|e
  ·exact h2 e
  ·omega
 ·rcases k.new q hq with e|e
  ·exact h.new q e
  ·exact .inr (by omega)
theorem Pk.of_all (h:Below w.heap.size w w')(hB:B<=w.heap.size):Pk B v w v w':=
 ⟨h.mono hB,fun k h1 _=>h.block k h1,fun q hq=> .inl hq⟩
theorem Pk.row {a:Value}{b c:List Value}(h:Pk B v w a w')(C:Ci w B v N b c){g:Nat}(R:Ag w g cs t)(h2:t≠85):Ag w' g cs t:=
 ⟨(h.block g R.lt (Ac R C.own h2)).trans R.out⟩
def PuO (B:Nat) (N:List Nd) (v:R) (nv kv:List R) (M:List Nd) (w:Z) (r:Ending) (w':Z):Prop:=
 ∃v' nv' kv',r= .returned v'/\Ci w' B v' (N++M) (nv++nv') (kv++kv')/\Pk B v w v' w'/\(∀j,(hj:j<nv'.length)->∀q,nv'[j].ownBlock=X q->w.heap.size<=q)/\∀j,(hj:j<kv'.length)->∀q,kv'[j].ownBlock=X q->w.heap.size<=q
theorem Pk.kepQ {wz:Z}{lo hi B:Nat}{a:R}{w w':Z}{c d:List R}(h:Pk B v w a w')(C:Ci w B v N c d)(g:wz.heap.size<=B)(hv:∀q,v.ownBlock=X q->q<lo\/hi<=q):Cf wz lo hi w w':=
 ⟨h.low.size,fun b i hs=>h.block b hs (fun e=>by have:=(C.lts.1 b e).1;have:=hv b e;omega),fun b cs f=>h.row C f (by decide)⟩
def PuV (wz:Z) (lo hi B:Nat) (w0:Z) (k:K5) (f:Nat->List Nd):Prop:=
 ∀(N:List Nd) (v:R) (nv kv:List R) (w:Z),Cf wz lo hi w0 w->hi<=w.heap.size->(∀q,v.ownBlock=X q->q<lo\/hi<=q)->Ci w B v N nv kv->B<=w.heap.size->N.length+(f N.length).length<=65535->Calls j4 19 #[jG #[U V k.op,U V k.num,Q k.text,Y k.an k.nn k.cn,Y k.ka k.kn k.kc],v] w (PuO B N v nv kv (f N.length) w)
structure Kq (B tb nb:Nat) (w:Z) (v:R) (tc:Array R) (x0 x1 x2 u:R) (ss:List ByteArray) (N:List Nd) (v1:R) (nv kv:List R) (kw:R) (ks:List Int) (w2:Z):Prop where
 C:Ci w2 B v1 N nv kv
 K:Pk B v w v1 w2
 Tt:Ag w2 tb tc 48
 Rr:Ag w2 nb #[x0,x1,x2,u,kw] 85
 Uu:w2.ownsRow w.heap.size 9 1 u ss.length (ss.map Q)
 O:w2.ownsRow w.heap.size 3 1 kw ks.length (Aq ks)
 apu:∀q,u.ownBlock=X q->∀j,(hj:j<nv.length)->nv[j].ownBlock≠X q
 apk:∀q,kw.ownBlock=X q->∀j,(hj:j<kv.length)->kv[j].ownBlock≠X q
 hv:∀q,v1.ownBlock=X q->q≠nb
theorem Kq.below {c:Nat}{f:Array R}{g i:R}{l m:List R}{n:R}{ks:List Int}{b:Z}(h:Kq B c d w v f g i x2 u ss N j l m n ks b)(a:Below b.heap.size b o)(hB:B<=b.heap.size):Kq B c d w v f g i x2 u ss N j l m n ks o:=
 ⟨h.C.blocks (fun k _ p=>a.block k p),h.K.trans (Pk.of_all a hB),h.Tt.after a NLN,h.Rr.after a NLN,Af h.Uu (fun q hq=>a.block q (h.Uu.lt q hq).2),Af h.O (fun q hq=>a.block q (h.O.lt q hq).2),h.apu,h.apk,h.hv⟩
theorem Kq.call {o:Nat}{p:Array R}{r:R}{t:R}{g i:List R}{x:R}{ks:List Int}{l n:Z}(h:Kq B o d w v p r s x2 u ss N t f g x ks l)
  (y:Ci n B m (N++M) (f++i) (g++k))(a:Pk B t l m n)(z:∀j,(b:j<i.length)->∀q,i[j].ownBlock=X q->l.heap.size<=q)(A:∀j,(b:j<k.length)->∀q,k[j].ownBlock=X q->l.heap.size<=q):
  Kq B o d w v p r s x2 u ss (N++M) m (f++i) (g++k) x ks n:=by
 refine⟨y,h.K.trans a,a.row h.C h.Tt (by decide),⟨(a.block d h.Rr.lt (fun e=>h.hv d e rfl)).trans h.Rr.out⟩,Af h.Uu (fun q hq=>a.block q (h.Uu.lt q hq).2 (fun e=>Ai h.Uu h.C.own (by decide) q hq e)),Af h.O (fun q hq=>a.block q (h.O.lt q hq).2 (fun e=>Ai h.O h.C.own (by decide) q hq e)),fun q hq j b e=>?_,fun q hq j b e=>?_,fun q hq=>?_⟩
 ·by_cases c:j<f.length
  ·rw[zo c]at e;exact h.apu q hq j c e
  ·rw[yH (by omega)]at e;have:=z _ (by simp at b;omega) q e;have:=(h.Uu.lt q hq).2;omega
 ·by_cases c:j<g.length
  ·rw[zo c]at e;exact h.apk q hq j c e
  ·rw[yH (by omega)]at e;have:=A _ (by simp at b;omega) q e;have:=(h.O.lt q hq).2;omega
 ·rcases a.new q hq with e|e
  ·exact h.hv q e
  ·have:=h.Rr.lt;omega
theorem Kq.app {l b:Nat}{s:Array R}{n r:R}{t:R}{x y:List R}{i:R}{ks:List Int}{f d:Z}{o:Obj}{a:Int}{gk cap:Nat}(h:Kq B l b w v s n r x2 u ss N t x y i ks f)(hB:B<=w.heap.size)(I:w.heap.size<=b)
  (z:d.ownsRow w.heap.size 3 1 (Y (X ⟨gk,0,T⟩) (ks.length+1) cap) (ks.length+1) (Aq ks++[U V a]))(hg:(f.alloc o).grownBy d i.ownBlock)(hat:i.ownBlock=X gk\/gk=f.heap.size+1):
  Ag d b #[n,r,x2,u,i] 85/\Kq B l b w v s n r x2 u ss N t x y (Y (X ⟨gk,0,T⟩) (ks.length+1) cap) (ks++[a]) (d.setCell ⟨b,4,T⟩ (Y (X ⟨gk,0,T⟩) (ks.length+1) cap)):=by
 have F:=h.K.low.size;have A:(f.alloc o).heap.size=f.heap.size+1:=by simp
 have g:∀q,q<f.heap.size->i.ownBlock≠X q->d.heap[q]? =f.heap[q]? :=fun q h1 h2=>(hg.block q (by rw[A];omega) (fun e=>h2 e.symm)).trans (Below.heap_alloc f o q h1);have k:Ag d b #[n,r,x2,u,i] 85:=⟨(g b h.Rr.lt (Ac h.Rr h.O (by decide))).trans h.Rr.out⟩
 have sc:∀q,q≠b->(d.setCell ⟨b,4,T⟩ (Y (X ⟨gk,0,T⟩) (ks.length+1) cap)).heap[q]? =d.heap[q]? :=fun q hq=>jc d ⟨b,4,T⟩ q _ hq;have C:=h.C;have G:Ag d l s 48:=⟨(g l h.Tt.lt (Ac h.Tt h.O (by decide))).trans h.Tt.out⟩
 have H:l≠b:=fun e=>by
  have D:=h.Tt.out;have r2:=h.Rr.out;rw[e]at D;rw[D]at r2;simp only[jr,Obj.cells.injEq]at r2;exact absurd r2.2.1 (by decide)
 have m:Ci d B t N x y:=C.upto (fun q hq=>g q (C.lts.1 q hq).2 (fun e=>Ai h.O C.own (by decide) q e hq)) (fun j c q hq=>g q (C.lts.2.1 j c q hq).2 (fun e=>Ai h.O (C.names j (by rw[<-C.len];exact c) c) (by decide) q e hq)) (fun j c q hq=>g q (C.lts.2.2 j c q hq).2 (fun e=>h.apk q e j c hq));have E:=Af (w':=d) h.Uu (fun q hq=>g q (h.Uu.lt q hq).2 (fun e=>Ai h.O h.Uu (by decide) q e hq));refine⟨k,m.upto (fun q hq=>sc q (h.hv q hq)) (fun j c q hq=>sc q (fun e=>Ac k (m.names j (by rw[<-m.len];exact c) c) (by decide) (by rw[hq,e]))) (fun j c q hq=>sc q (fun e=>Ac k (m.kids j (by rw[<-m.lenk];exact c) c) (by decide) (by rw[hq,e]))),⟨?_,fun q h1 h2=>?_,h.K.new⟩,G.setFar (p:=⟨b,4,T⟩) H _,k.set 4 _,Af E (fun q hq=>sc q (fun e=>Ac k E (by decide) (by rw[hq,e]))),?_,h.apu,fun q hq=>?_,h.hv⟩
 ·exact((h.K.low.alloc (zB hB F) o).grown hg (by rw[A];omega) (fun q hq=>by have:=(h.O.lt q hq).1;omega)).setCell (p:=⟨b,4,T⟩) (by show B<=b;omega) _
 ·exact(sc q (by omega)).trans ((g q (by omega) (fun e=>by have:=(h.O.lt q e).1;omega)).trans (h.K.block q h1 h2))
 ·have:=Af (w':=d.setCell ⟨b,4,T⟩ (Y (X ⟨gk,0,T⟩) (ks.length+1) cap)) z (fun q hq=>sc q (fun e=>Ac k z (by decide) (by rw[hq,e])));rw[zC];simpa[Aq]using this
 ·have e:gk=q:=by simpa[ja]using hq
  subst e;rcases hat with e|e
  ·exact h.apk gk e
  ·exact fun j c e'=>by have:=(C.lts.2.2 j c gk e').2;omega
set_option maxHeartbeats 3200000
theorem Mi (wz:Z)(lo hi B:Nat)(bD:wz.heap.size<=B)(w0:Z)(op num:Int)(text:ByteArray)(an:Option jD)(nn cn:Nat)(ka:Option jD)(m kc:Nat)(ks:List K5)(aS:BT w0 ka ks)(aT: 0<m->∀b o,ka=some ⟨b,o,T⟩->b<wz.heap.size\/(lo<=b/\b<hi))(aU:ks.length=m)(h3:m<=3)(aV:Nat)(ss:List ByteArray)(hS:∀aW,Cf wz lo hi w0 aW->Ap aW an nn aV ss)(aX:nn=ss.length)(hs:nn<=1048576)(a:List (Nat->List Nd))(aY:a.length=m)
  (aZ:∀j,(h:j<ks.length)->(h2:j<a.length)->PuV wz lo hi B w0 ks[j] a[j]):
  PuV wz lo hi B w0 ⟨op,num,text,an,nn,cn,ka,m,kc⟩ (fun b=>(CM a b).1++[⟨op,num,text,ss,(CM a b).2⟩]):=by
 intro N v t y w aq co a0 S W ar;simp only[zC,yF]at ar;obtain⟨bE,bF,bG,bH,bI⟩:=jZ AdT;obtain⟨bJ,bK,bL,bM,bN⟩:=jZ AdU;have au:=Av w (BV op num text an nn cn ka m kc);have aa:=au.alloc au.size (Dw op num text T 0 0 T 0 0);have av:=(Ag.new w #[U V op,U V num,Q text,Y an nn cn,Y ka m kc] 48).alloc (Dw op num text T 0 0 T 0 0);have ad:=Ag.new (w.alloc (BV op num text an nn cn ka m kc)) #[U V op,U V num,Q text,Y T 0 0,Y T 0 0] 85;simp only[jW]at ad;have a1:=(hS w aq).below aa NLN;have a2:=Ab a0;have bO:=Ab S;have bP:=Ab aT;have bQ:∃ae,ae=(w.alloc (BV op num text an nn cn ka m kc)).alloc (Dw op num text T 0 0 T 0 0):=⟨_,rfl⟩
 have bR:=Ab aS;have bS:=Ab aU;have aw:=Ab aY;have bT:=Ab aZ;have bU:=Ab aq;have a3:=Ab ar;have bV:=Ab aX;clear aS aU aY aZ aq hS ar aX au a0 aT;go_enter func19,ntmps19
 go_wp2_with (at_builtin;refine Kf rfl _ _ rfl _ _ 0 [] rfl (jX _ (w.heap.size+1+1) _ _) an nn cn aV ss rfl a1 (by omega) (by simp) ?_)
 intro cp z I J;obtain⟨ae,ax⟩:=bQ;have a4:ae.heap.size=w.heap.size+1+1:=by rw[ax];simp
 rw[<-ax]at av ad aa J;clear ax a1;rw[<-a4]at J I;obtain⟨d,l,rfl,_⟩:=Ae I;have af:=ad.after J NLN;have ay:=aa.trans (J.mono aa.size);have az:Kq B w.heap.size (w.heap.size+1) w v #[U V op,U V num,Q text,Y an nn cn,Y ka m kc] (U V op) (U V num) (Q text) (Y d nn l) ss N v t y (Y T 0 0) [] (z.setCell ⟨w.heap.size+1,3,T⟩ (Y d nn l)):=by
  have bW:=av.after J NLN;have sc:∀q,q≠w.heap.size+1->(z.setCell ⟨w.heap.size+1,3,T⟩ (Y d nn l)).heap[q]? =z.heap[q]? :=fun q hq=>jc z ⟨w.heap.size+1,3,T⟩ q _ hq;have a5:∀q,q<w.heap.size->(z.setCell ⟨w.heap.size+1,3,T⟩ (Y d nn l)).heap[q]? =w.heap[q]? :=fun q hq=>(sc q (by omega)).trans (ay.block q hq);refine⟨S.blocks (fun k _ aA=>a5 k aA),⟨(ay.mono W).setCell (p:=⟨w.heap.size+1,3,T⟩) (by show B<=w.heap.size+1;omega) _,fun k h1 _=>a5 k h1,fun q hq=> .inl hq⟩,bW.setFar (p:=⟨w.heap.size+1,3,T⟩) (by show w.heap.size≠w.heap.size+1;omega) _,af.set 3 _,?_,jX _ _ _ _,fun q hq j n e=>?_,fun q hq=>(by cases hq),fun q hq=>?_⟩
  ·have q:=Nw I (show w.heap.size<=ae.heap.size by omega);have bX:=Af (w':=z.setCell ⟨w.heap.size+1,3,T⟩ (Y d nn l)) q (fun q hq=>sc q (by have:=(I.lt q hq).1;omega));rw[<-Aa bV];simpa using bX
  ·have h1:=(S.lts.2.1 j n q e).2;have h2:=(I.lt q hq).1;omega
  ·have:=(S.lts.1 q hq).2;omega
 obtain⟨m0,ag,ah,ai,aj⟩:=LZ af;have bY:=fun k=>af.frozen k;obtain⟨bZ,b0,b1,b2,b3⟩:=LZ az.Tt;clear av ad aa J I af ay S;go_wp2_with fail
 generalize z.setCell ⟨w.heap.size+1,3,T⟩ (Y d nn l)=cq at az bZ b0 b1 b2 b3|-;clear m0 ag ah ai aj bY a4;go_loopw [1,24] (fun nd i wr=>∃ (j:Nat) (a6:R) (M:List Nd) (c:List Int) (A D:List R),j<=m/\i=U V j/\Hid (CM (a.take j) N.length=(M,c))/\Kq B w.heap.size (w.heap.size+1) w v #[U V op,U V num,Q text,Y an nn cn,Y ka m kc] (U V op) (U V num) (Q text) (Y d nn l) ss (N++M) nd (t++A) (y++D) a6 c wr/\(∀j,(n:j<A.length)->∀q,A[j].ownBlock=some q->w.heap.size<=q)/\∀j,(n:j<D.length)->∀q,D[j].ownBlock=some q->w.heap.size<=q) (fun _ i _=>m-(intOf i).toNat)
 case atStart=>exact⟨0,_,[],[],[],[],zD _,rfl,Ab rfl,by simpa using az,fun j n=>absurd n (by simp),fun j n=>absurd n (by simp)⟩
 case round=>
  obtain⟨j,a6,M,c,A,D,n,rfl,aB,X,aC,aD⟩:=hrel;obtain⟨E,F,rfl,_⟩:=Ae X.O;have zW:=X.K.low.size;have aE:B<=wr.heap.size:=zB W zW;by_cases ak:j<m
  ·have cr:(j:Int)<(m:Int):=by omega
   have aF:j<ks.length:=by rw[Aa bS];exact ak
   have aG:j<a.length:=by rw[Aa aw];exact ak
   have al:Cf wz lo hi w0 wr:=(Aa bU).trans (X.K.kepQ (Aa bO) bD (Aa a2));have a7:∀q,u1.ownBlock=some q->q<lo\/hi<=q:=fun q hq=>(X.K.new q hq).elim (Aa a2 q) (fun h=> .inr (by omega));obtain⟨g,cs,rfl,hg,a8⟩:=Bh (g5 al.1 (Aa bR) (fun b o e b4=>al.2.1 b (Aa bP (by omega) b o e) b4)) (by omega);obtain⟨aH,c1,c2,c3,c4⟩:=a8 j aF;have aI:=Ab (Aa bT j aF aG);have aJ:CM (a.take (j+1)) N.length=(M++a[j] (N.length+M.length),c++[((N.length+M.length+(a[j] (N.length+M.length)).length:Nat):Int)-1]):=by rw[zQ aG,TE,Aa aB]
   have a9:(N++M).length+(a[j] (N++M).length).length<=65535:=by
    have q:=TF a N.length (j+1);rw[aJ]at q;simp only[zC]at q|-;have:=Aa a3;omega
   have ba:=Ab aJ;have aK:=Ab a9;have bb:=Ab ak;have bc:=Ab (show c.length<=3 by have:=WY (a.take j) N.length;rw[Aa aB]at this;simp at this;have:=Aa aw;omega);generalize ks[j]=k at aH c1 c2 c3 c4 aI;generalize a[j]=f at aI ba aK;obtain⟨bd,bf,bg,bh,bi,bj,bk,bl,bm⟩:=k;dsimp only at aH c1 c2 c3 c4;have r:=Av wr (BV bd bf bg bh bi bj bk bl bm);have bn:=Ab (X.below r aE);have b5:=Ab (al.trans (Cf.of_below r));have b6:=Ab a7;have b7:hi<=(wr.alloc (BV bd bf bg bh bi bj bk bl bm)).heap.size:=by have:=r.size;omega
   have b8:=zB aE r.size;clear ak aF aG a8 al aJ a9 X r a7;go_wp2_with fail
   refine(Aa aI (N++M) _ (t++A) (y++D) _ (Aa b5) b7 (Aa b6) (Aa bn).C b8 (Aa aK)).mono ?_;rintro ct aL ⟨cu,b9,ca,rfl,bo,bp,aM,aN⟩;have G:=(Aa bn).call bo bp aM aN;obtain⟨L,s⟩:∃L,L=(N++M++f (N++M).length).length:=⟨_,rfl⟩
   obtain⟨x2,cv,ab,_⟩:=Ae G.C.own;rw[<-s]at ab;subst ab;have cb:L<=65535:=by rw[s,zC];exact Aa aK
   have aO:=Ab s;have cw:w.heap.size<=aL.heap.size:=G.K.low.size;have bq:=Ab G;have P:=jV G.O (jF #[U V ((L:Int)-1)] 3);obtain⟨m0,ag,ah,ai,aj⟩:=LZ G.Rr;obtain⟨n0,n1,n2,n3,cc⟩:=LZ (G.Rr.alloc (jF #[U V ((L:Int)-1)] 3));have cx:=Aa bc;clear bo bp s G aH c1 c2 c3 c4 bc;dsimp only;go_wp2_with (at_builtin;refine jj _ rfl _ _ 24 rfl w.heap.size 3 bJ (U V 0) 1 8 underlying24 bK bL bM bN rfl (by decide) _ _ _ rfl P ⟨aL.heap.size,0,T⟩ 1 1 [U V ((L:Int)-1)] rfl rfl ?c1 ?c2 (by decide) ?c3 ?c4 ?c5 (aL.heap.size+1) (by simp) ?_)
   case c1=>exact A5 _ _ _ _ (by simp)
   case c2=>intro u ac;simp at ac;subst ac;rfl
   case c3=>unfold jM;simp;omega
   case c4=>first|omega|(simp;omega)
   case c5=>simp;omega
   intro gk cap cy br H hat cd;obtain⟨aP,aQ⟩:=(Aa bq).app W (zj _) br H hat;obtain⟨cz,cA,r2,r3,cB⟩:=LZ aP;have cC:=fun k=>aP.frozen k;rw[zT N,zT t,zT y]at aQ;have ce:=Ab aQ;have cf:=Ab (show CM (a.take (j+1)) N.length=(M++f (N++M).length,c++[(L:Int)-1]) by rw[Aa aO,Aa ba];simp only[zC]);have ao:=Ab (H8 aC (Nb aM (show w.heap.size<=_ from by simp;omega)));have ap:=Ab (H8 aD (Nb aN (show w.heap.size<=_ from by simp;omega)));clear br H hat cd aP aQ P bq m0 ag ah ai aj n0 n1 n2 n3 cc aM aN;go_wp2_with fail
   go_roundw
   case rel=>exact⟨j+1,_,_,_,A++b9,D++ca,Aa bb,by go_num,cf,Aa ce,Aa ao,Aa ap⟩
   case measure=>have:=Aa bb;simp[intOf];omega
  ·have cg:j=m:=by omega
   subst cg;have bs:=Ab (show CM a N.length=(M,c) by rw[<-Aa aB,zY (by rw[Aa aw];exact NLN)]);obtain⟨L,s⟩:∃L,L=(N++M).length:=⟨_,rfl⟩
   have cb:L<=65535:=by have:=Aa a3;rw[Aa bs]at this;rw[s,zC];simp at this;omega
   obtain⟨ch,ci,ab,_⟩:=Ae X.C.own;rw[<-s]at ab;subst ab;have bt:=X.Rr;obtain⟨m0,ag,ah,ai,aj⟩:=LZ bt;have P:=jV X.C.own (Dw op num text d nn l E c.length F);have bu:=jp (jm wr (Dw op num text d nn l E c.length F));rw[<-s]at P;have aO:=Ab s;have bv:=Ab X;have cj:=Ab aC;have ck:=Ab aD;clear s X bt aC aD;go_wp2_with (at_builtin;refine jj _ rfl _ _ 28 rfl B 85 bE (jG #[U V 0,U V 0,Q jU,Y T 0 0,Y T 0 0]) 5 80 underlying28 bF bG bH bI rfl (by decide) (Y ch L ci) L (Og (N++M) (t++A) (y++D)) rfl P ⟨wr.heap.size,0,T⟩ 1 1 [U V op,U V num,Q text,Y d nn l,Y E c.length F] rfl rfl bu (by intro u ac;simp at ac;rcases ac with rfl|rfl|rfl|rfl|rfl<;>rfl) (by decide) (by unfold jM;omega) (by omega) (by simp;omega) _ rfl ?_)
   intro g7 c7 bw bx H hat cl;have X:=Aa bv;have r:=Av wr (Dw op num text d nn l E c.length F);have bz:=X.C.blocks (w':=wr.alloc (Dw op num text d nn l E c.length F)) (fun k _ aA=>r.block k aA);have bA:=Nw (Af (w':=wr.alloc (Dw op num text d nn l E c.length F)) X.Uu (fun q hq=>r.block q (X.Uu.lt q hq).2)) W;have bB:=Nw (Af (w':=wr.alloc (Dw op num text d nn l E c.length F)) X.O (fun q hq=>r.block q (X.O.lt q hq).2)) W;have aR:=bz.snoc (x:=⟨op,num,text,ss,c⟩) bA bB (fun j n q hq e=>X.apu q e j n hq) (fun j n q hq e=>X.apk q e j n hq) (by rw[<-Aa aO];exact bx) H;rw[zT N,zT t,zT y]at aR;have bC:Pk B v w (Y (some ⟨g7,0,T⟩) (L+1) c7) bw:=X.K.trans ⟨(r.mono aE).grown H (by simp;omega) (fun q hq=>(X.C.lts.1 q hq).1),fun k h1 h2=>Cv H k h1 h2,fun q hq=>by
    have e:g7=q:=by simpa[ja]using hq
    subst e;exact hat.imp id (fun e=>by rw[e];exact zj _)⟩
   have ao:=H8 (Aa cj) (Qg (fun q hq=>(X.Uu.lt q hq).1));have ap:=H8 (Aa ck) (Qg (fun q hq=>(X.O.lt q hq).1));have cm:=Ab (show PuO B N v t y ((fun b=>(CM a b).1++[⟨op,num,text,ss,(CM a b).2⟩]) N.length) w (.returned (Y (some ⟨g7,0,T⟩) (L+1) c7)) bw from⟨_,_,_,rfl,by dsimp only;rw[Aa bs];exact aR,bC,ao,ap⟩);clear bx H hat cl X r bz bA bB aR bC ao ap P bu bv;go_wp2_with fail
   go_ret
   exact Aa cm
theorem GB (e:Ex): 1<=e.cnt:=by cases e<;>simp[Ex.cnt]<;>omega
theorem Gg {wz:Z}{lo hi B:Nat}{w0:Z}(c:wz.heap.size<=B){e:Ex}{k:K5}(d:e.kids=[])(h:Tq w0 e k)(hf:DC e=fun _=> [CV e]):PuV wz lo hi B w0 k (DC e):=by
 have hq:k.op=(CV e).op/\k.num=(CV e).num/\k.text=(CV e).text/\k.kn=0/\SQ w0 k.an k.nn k.cn (CV e).names/\(CV e).kids=[]:=by
  cases e<;>first|exact⟨h.1,h.2.1,h.2.2.1,h.2.2.2.1,h.2.2.2.2,rfl⟩|cases d
 obtain⟨h1,h2,h3,h4,h5,h7⟩:=hq;have q:=Mi wz lo hi B c w0 k.op k.num k.text k.an k.nn k.cn k.ka 0 k.kc [] (CW w0 _) (fun h=>absurd h (by decide)) rfl (by decide) k.cn (CV e).names (fun g a=>(Ns a.1 a.2.2 h5.1 h5.2.2).1) h5.1.len (by rw[h5.1.len];exact h5.2.1) [] rfl (fun j f=>absurd f (by simp));have e0:(fun b=>(CM [] b).1++[(⟨k.op,k.num,k.text,(CV e).names,(CM [] b).2⟩:Nd)])=DC e:=by
  rw[hf]
  funext b
  simp only[CM,List.nil_append];rw[h1,h2,h3,<-h7]
 rw[e0]at q;obtain⟨i,a1,a2,a3,a4,a5,l,m,n⟩:=k;dsimp only at h4;subst h4;exact q
theorem Nx (w:Z)(a:Option jD):Ap w a 0 0 []:=⟨rfl,zD _,zD _,fun j h=>absurd h (by simp),fun j h=>absurd h (by simp)⟩
theorem Oo {wz:Z}{lo hi B:Nat}{w0:Z}(a:wz.heap.size<=B):∀(e:Ex) (k:K5),Ph wz lo hi w0 k e->PuV wz lo hi B w0 k (DC e)
 |.un i op c,k,h=>by
  obtain⟨h1,h2,h3,h4,h5,hp,d,h6,h7⟩:=h;obtain⟨f,a1,a2,a3,a4,a5,g,s,m⟩:=k;dsimp only at h1 h2 h3 h4 h5 h6 hp;subst h1 h2 h3 h4 h5;have q:=Mi wz lo hi B a w0 f 0 ⟨#[]⟩ a3 0 a5 g 1 m [d] h6 (fun _=>hp) rfl (by decide) 0 [] (fun n _=>Nx n _) rfl (by decide) [DC c] rfl (fun j o u=>by
   match j,o with
   |0,_=>exact Oo a c d h7)
  have e0:(fun b=>(CM [DC c] b).1++[(⟨f,0,⟨#[]⟩,[],(CM [DC c] b).2⟩:Nd)])=DC (.un i f c):=by
   funext b
   have:=GB c;simp only[CM,DC,Ax,Z3];rw[show((b+c.cnt:Nat):Int)-1=((b+c.cnt-1 :Nat):Int) by omega]
  rw[e0]at q;exact q
 |.bin i op l r,k,h=>by
  obtain⟨h1,h2,h3,h4,h5,hp,d,p,h6,h7,h8⟩:=h;obtain⟨f,a1,a2,a3,a4,a5,g,s,m⟩:=k;dsimp only at h1 h2 h3 h4 h5 h6 hp;subst h1 h2 h3 h4 h5;have q:=Mi wz lo hi B a w0 f 0 ⟨#[]⟩ a3 0 a5 g 2 m [d,p] h6 (fun _=>hp) rfl (by decide) 0 [] (fun n _=>Nx n _) rfl (by decide) [DC l,DC r] rfl (fun j o u=>by
   match j,o with
   |0,_=>exact Oo a l d h7
   |1,_=>exact Oo a r p h8)
  have e0:(fun b=>(CM [DC l,DC r] b).1++[(⟨f,0,⟨#[]⟩,[],(CM [DC l,DC r] b).2⟩:Nd)])=DC (.bin i f l r):=by
   funext b
   have:=GB l;have:=GB r;simp only[CM,DC,Ax,Z3];rw[show((b+l.cnt:Nat):Int)-1=((b+l.cnt-1 :Nat):Int) by omega,show((b+l.cnt+r.cnt:Nat):Int)-1=((b+l.cnt+r.cnt-1 :Nat):Int) by omega]
  rw[e0]at q;exact q
 |.ite i c t e,k,h=>by
  obtain⟨h1,h2,h3,h4,h5,hp,d,p,v,h6,h7,h8,h9⟩:=h;obtain⟨f,a1,a2,a3,a4,a5,g,s,m⟩:=k;dsimp only at h1 h2 h3 h4 h5 h6 hp;subst h1 h2 h3 h4 h5;have q:=Mi wz lo hi B a w0 27 0 ⟨#[]⟩ a3 0 a5 g 3 m [d,p,v] h6 (fun _=>hp) rfl (by decide) 0 [] (fun n _=>Nx n _) rfl (by decide) [DC c,DC t,DC e] rfl (fun j o u=>by
   match j,o with
   |0,_=>exact Oo a c d h7
   |1,_=>exact Oo a t p h8
   |2,_=>exact Oo a e v h9)
  have e0:(fun b=>(CM [DC c,DC t,DC e] b).1++[(⟨27,0,⟨#[]⟩,[],(CM [DC c,DC t,DC e] b).2⟩:Nd)])=DC (.ite i c t e):=by
   funext b
   have:=GB c;have:=GB t;have:=GB e;simp only[CM,DC,Ax,Z3,zT];rw[show((b+c.cnt:Nat):Int)-1=((b+c.cnt-1 :Nat):Int) by omega,show((b+c.cnt+t.cnt:Nat):Int)-1=((b+c.cnt+t.cnt-1 :Nat):Int) by omega,show((b+c.cnt+t.cnt+e.cnt:Nat):Int)-1=((b+c.cnt+t.cnt+e.cnt-1 :Nat):Int) by omega]
  rw[e0]at q;exact q
 |.int ..,k,h=>Gg a rfl (Tl.tq h) rfl
 |.text ..,k,h=>Gg a rfl (Tl.tq h) rfl
 |.bool ..,k,h=>Gg a rfl (Tl.tq h) rfl
 |.set ..,k,h=>Gg a rfl (Tl.tq h) rfl
 |.name ..,k,h=>Gg a rfl (Tl.tq h) rfl
 |.attr ..,k,h=>Gg a rfl (Tl.tq h) rfl
 |.lett ..,k,h=>Gg a rfl (Tl.tq h) rfl
structure RY (B ob:Nat) (w5:Z) (nd sv:R) (N:List Nd) (L:List St) (nv kv:List R) (w:Z):Prop where
 C:Ci w B nd N nv kv
 S:w.ownsRow B 53 4 sv L.length (Dk L)
 Rr:Ag w ob #[nd,sv,Y T 0 0] 31
 F:Below B w5 w
 low:B<=ob
theorem RY.below {c:Z}{d:R}{g:List R}{w w':Z}(h:RY B b c v d N L f g w)(a:Below w.heap.size w w'):RY B b c v d N L f g w':=
 ⟨h.C.blocks (fun k _ i=>a.block k i),Af h.S (fun q hq=>a.block q (h.S.lt q hq).2),h.Rr.after a NLN,h.F.trans (a.mono (by have:=h.Rr.lt;have:=h.low;omega)),h.low⟩
theorem RY.set {d:Z}{w:Z}(h:RY B b d v c N L f i w){g j:Nat}{u:Value}(R:Ag w g cs t)(h1:t≠85)(h2:t≠9)(h3:t≠3)(h4:t≠31)(h5:c.ownBlock≠X g)(hg:B<=g):RY B b d v c N L f i (w.setCell ⟨g,j,T⟩ u):=by
 have sc:∀q,q≠g->(w.setCell ⟨g,j,T⟩ u).heap[q]? =w.heap[q]? :=fun q hq=>jc w ⟨g,j,T⟩ q u hq;have l:b≠g:=fun e=>by
  have k:=h.Rr.out;have r2:=R.out;rw[e]at k;rw[k]at r2;simp only[jr,Obj.cells.injEq]at r2;exact h4 r2.2.1.symm
 exact⟨h.C.upto (fun q hq=>sc q (fun e=>Ac R h.C.own h1 (by rw[hq,e]))) (fun j a q hq=>sc q (fun e=>Ac R (h.C.names j (by rw[<-h.C.len];exact a) a) h2 (by rw[hq,e]))) (fun j a q hq=>sc q (fun e=>Ac R (h.C.kids j (by rw[<-h.C.lenk];exact a) a) h3 (by rw[hq,e]))),Af h.S (fun q hq=>sc q (fun e=>h5 (by rw[hq,e]))),h.Rr.setFar (p:=⟨g,j,T⟩) l u,h.F.setCell (p:=⟨g,j,T⟩) hg u,h.low⟩
theorem RY.put {a:Nat}{k:Z}{b f:R}{g m:List R}{w w':Z}(h:RY B a k v f N L g i w)(c:Ci w' B b (N++M) (g++l) (i++m))(K:Pk B v w b w'):
  Ag w' a #[v,f,Y T 0 0] 31/\RY B a k b f (N++M) L (g++l) (i++m) (w'.setCell ⟨a,0,T⟩ b):=by
 have R':=K.row h.C h.Rr (by decide);have sc:∀q,q≠a->(w'.setCell ⟨a,0,T⟩ b).heap[q]? =w'.heap[q]? :=fun q hq=>jc w' ⟨a,0,T⟩ q _ hq;have n:w'.ownsRow B 53 4 f L.length (Dk L):=Af h.S (fun q hq=>K.block q (h.S.lt q hq).2 (fun e=>Ai h.S h.C.own (by decide) q hq e));refine⟨R',c.upto (fun q hq=>sc q (fun e=>Ac R' c.own (by decide) (by rw[hq,e]))) (fun j d q hq=>sc q (fun e=>Ac R' (c.names j (by rw[<-c.len];exact d) d) (by decide) (by rw[hq,e]))) (fun j d q hq=>sc q (fun e=>Ac R' (c.kids j (by rw[<-c.lenk];exact d) d) (by decide) (by rw[hq,e]))),Af n (fun q hq=>sc q (fun e=>Ac R' n (by decide) (by rw[hq,e]))),R'.set 0 b,(h.F.trans K.low).setCell (p:=⟨a,0,T⟩) h.low b,h.low⟩
theorem RY.stm {n:Z}{i d:R}{l m:List R}{w c:Z}{o:Obj}{s:St}(h:RY B b n v i N L l m w)(r:c.ownsRow B 53 4 d (L.length+1) (Dk L++[U V s.kind,Q s.name,U V s.cond,U V s.grant]))(hg:(w.alloc o).grownBy c i.ownBlock):
  Ag c b #[v,i,Y T 0 0] 31/\RY B b n v d N (L++[s]) l m (c.setCell ⟨b,1,T⟩ d):=by
 have k:=Cv hg;have f:Ag c b #[v,i,Y T 0 0] 31:=⟨(k b h.Rr.lt (Ac h.Rr h.S (by decide))).trans h.Rr.out⟩
 have sc:∀q,q≠b->(c.setCell ⟨b,1,T⟩ d).heap[q]? =c.heap[q]? :=fun q hq=>jc c ⟨b,1,T⟩ q _ hq;have g:Ci c B v N l m:=h.C.upto (fun q hq=>k q (h.C.lts.1 q hq).2 (fun e=>Ai h.S h.C.own (by decide) q e hq)) (fun j a q hq=>k q (h.C.lts.2.1 j a q hq).2 (fun e=>Ai h.S (h.C.names j (by rw[<-h.C.len];exact a) a) (by decide) q e hq)) (fun j a q hq=>k q (h.C.lts.2.2 j a q hq).2 (fun e=>Ai h.S (h.C.kids j (by rw[<-h.C.lenk];exact a) a) (by decide) q e hq));have t:B<=w.heap.size:=by have:=h.Rr.lt;have:=h.low;omega
 refine⟨f,g.upto (fun q hq=>sc q (fun e=>Ac f g.own (by decide) (by rw[hq,e]))) (fun j a q hq=>sc q (fun e=>Ac f (g.names j (by rw[<-g.len];exact a) a) (by decide) (by rw[hq,e]))) (fun j a q hq=>sc q (fun e=>Ac f (g.kids j (by rw[<-g.lenk];exact a) a) (by decide) (by rw[hq,e]))),?_,f.set 1 d,((h.F.alloc t o).grown hg (by simp;omega) (fun q hq=>(h.S.lt q hq).1)).setCell (p:=⟨b,1,T⟩) h.low d,h.low⟩;rw[zC,Ts];exact Af r (fun q hq=>sc q (fun e=>Ac f r (by decide) (by rw[hq,e])))
theorem W8 {n c:Nat}{e:TypeId}{a:Option jD}{L:List Int}(h:w.ownsRow B e 1 (Y a n c) n (Aq L))(b:L.length=n)(hs:n<=1048576):AK w a n c L:=by
 refine⟨b,hs,fun j d=>?_⟩;obtain⟨x,c',e',hx⟩:=Ae h;simp only[jh]at e';obtain⟨rfl,_,_⟩:=e';obtain⟨g,rfl,_,hc⟩:=hx (by omega);refine⟨g,0,rfl,(h.lt g rfl).2,?_⟩;rw[zU];refine hc j _ ?_;simp[Aq,d]
theorem AgY {K:List (Sx×Int)}{t:Nat}(h:t<K.length):CC (K.take (t+1))=CC (K.take t)++(if K[t].1.kind=1 then [K[t].2]else []):=by
 unfold CC;rw[zQ h,List.filter_append,zR]
 congr 1
 by_cases a:K[t].1.kind=1<;>simp[a]
theorem Ais (K:List (Sx×Int)):(CC K).length<=K.length:=by
 unfold CC;rw[ze];exact List.length_filter_le _ _
theorem AeE (X:List Sx)(t:Nat):Bu (X.take t)<=Bu X:=by
 have:Bu X=Bu (X.take t)+Bu (X.drop t):=by rw[<-L7,yN]
 omega
structure TyM (B Bt:Nat) (nd sv tv:R) (N:List Nd) (L:List St) (T:List Int) (nv kv:List R) (w:Z):Prop where
 C:Ci w B nd N nv kv
 S:w.ownsRow B 53 4 sv L.length (Dk L)
 Tt:w.ownsRow Bt 3 1 tv T.length (Aq T)
theorem TyM.set {d:Value}{T:List Int}(h:TyM B b v c d N L T f i w){g:Nat}(R:Ag w g cs 31)(j:Nat)(u:Value):TyM B b v c d N L T f i (w.setCell ⟨g,j,none⟩ u):=by
 have sc:∀q,q≠g->(w.setCell ⟨g,j,none⟩ u).heap[q]? =w.heap[q]? :=fun q hq=>jc w ⟨g,j,none⟩ q u hq;exact⟨h.C.upto (fun q hq=>sc q (fun e=>Ac R h.C.own (by decide) (by rw[hq,e]))) (fun j a q hq=>sc q (fun e=>Ac R (h.C.names j (by rw[<-h.C.len];exact a) a) (by decide) (by rw[hq,e]))) (fun j a q hq=>sc q (fun e=>Ac R (h.C.kids j (by rw[<-h.C.lenk];exact a) a) (by decide) (by rw[hq,e]))),Af h.S (fun q hq=>sc q (fun e=>Ac R h.S (by decide) (by rw[hq,e]))),Af h.Tt (fun q hq=>sc q (fun e=>Ac R h.Tt (by decide) (by rw[hq,e])))⟩
def CkT (T:List Int) (w:Z) (r:Ending) (w':Z):Prop:=(∃ (Bt:Nat) (tv p:R) (f0 f1:Int),r= .returned (.tuple #[tv,p,jG #[U V f0,U V f1]])/\w'.ownsRow Bt 3 1 tv T.length (Aq T))/\Below w.heap.size w w'
end Go.Proofs.YteiieikcjcfkkaaGreatDoor
