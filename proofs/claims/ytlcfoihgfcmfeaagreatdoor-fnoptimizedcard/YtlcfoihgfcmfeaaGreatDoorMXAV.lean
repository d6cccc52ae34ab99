import Derived.Test.YtlcfoihgfcmfeaaGreatDoorMXAP
import Derived.Test.YtlcfoihgfcmfeaaGreatDoorMXAG
import Derived.Test.YtlcfoihgfcmfeaaGreatDoorVPS
import Derived.Test.YtlcfoihgfcmfeaaGreatDoorMXBB
open Option renaming none->V,none->jc,some->Z
open List renaming length->Y
open Array renaming size->R,size->jh
open Go renaming World->jD,Value->jF,Addr->jH,TypeId->jR
open Bool renaming true->jG,false->jI
open ByteArray renaming empty->jX
namespace Go.Proofs.YtlcfoihgfcmfeaaGreatDoor
open Proofs.Tryz
open Value renaming int->T,int->ja,slice->X,string->jA,iface->jJ,agg->jL,ownBlock->jO,pointer->jQ,tuple->jS,nilIface->jT
open IntKind renaming i64->U
open World renaming heap->Q,cell?->jE,alloc->jK,setCell->jM,drew->jV
open Addr renaming mk->jB,block->jW
open Obj renaming cells->jC
open Ending renaming returned->jN
open Proofs.Tryz renaming prog->jZ
open Go.RowKit
set_option linter.unusedVariables false
set_option maxRecDepth 100000
set_option maxHeartbeats 6400000
variable{d:Array jF}{nm:M1}{st:Cs}{x y:Ex}{F:FuncId}{t i:Int}{f:Int×Int}{S:List (Nat×Nat)}{ns:M6}{Es:M8}{ts tt:M4}{N:M7}{L:Nz}{ls:N6}{a lb k c:Nat}{an:M3}{o:N5}{s:St}{b lv:jF}{w w':jD}
abbrev CkR:=Except (Int×Int)<|M7×Nz×M4
theorem JS{o:N8}{g:Int×Int}(h:ofO f o=.error g):g=f:=by cases o with|none=>cases h;rfl|some t=>cases h
theorem AfE:Wst (IS,[],[]):=λd hd=>by simp only[IS,zS,Z9,or_false]at hd;obtain rfl|rfl|rfl|rfl|rfl|rfl:=hd<;>decide
def FL(D:N7)(e:Ex):Except (Int×Int) M4:=match BH D e with|.ok _=>.ok (Du D e)|.error f=>.error f
theorem Be.dE{i:Nat}{e:Ex}(t:Be N i e):∀{f:Ex},Be N i f->∀ts:N7,BH ts e=BH ts f/\Du ts e=Du ts f:=by induction t with
 |int h g d=>grind[Be.cI]|text h g d=>grind[Be.cI]|bool h g d=>grind[Be.cI]|name h g d=>grind[Be.cI]|attr h g d=>grind[Be.cI]|lett h g d=>grind[Be.cI]|set h g d a n c=>intro f u ts;obtain⟨o,b⟩|⟨o,b⟩|⟨o,b⟩|⟨o,b⟩|⟨o,b⟩|⟨o,b⟩|⟨o,b⟩|⟨o,b⟩|⟨o,b⟩|⟨o,b⟩:=u.cI h<;>first|omega|(obtain⟨_,_,_,b⟩:=b;subst b;exact⟨rfl,rfl⟩)
 |un h g d hi t x=>grind[BH,Du,Be.cI]|bin h g d hi t u k l=>
   intro f v ts;obtain⟨o,b⟩|⟨o,b⟩|⟨o,b⟩|⟨o,b⟩|⟨o,b⟩|⟨o,b⟩|⟨o,b⟩|⟨o,b⟩|⟨o,m,p,q,r,j,s,w,b⟩|⟨o,b⟩:=v.cI h<;>first|omega|skip
   subst b;rw[d]at j;simp only[List.cons.injEq,and_true,Int.natCast_inj]at j;grind[BH,Du]|ite h g d hi t u v k l y=>
   intro f z ts;obtain⟨o,b⟩|⟨o,b⟩|⟨o,b⟩|⟨o,b⟩|⟨o,b⟩|⟨o,b⟩|⟨o,b⟩|⟨o,b⟩|⟨o,b⟩|⟨o,m,p,A,q,r,B,j,s,w,v',b⟩:=z.cI h<;>first|omega|skip
   subst b;rw[d]at j;simp only[List.cons.injEq,and_true,Int.natCast_inj]at j;grind[BH,Du]
def Dm(D:N7):M8->Except (Int×Int) M4|[]=>.ok []|e::r=>(FL D e).bind λk=>(Dm D r).map λl=>k++l
def AfL(N:M7):List Nat->M8->Prop|[],[]=>True|q::qs,e::es=>Be N q e/\AfL N qs es|_,_=>False
theorem Be.kidsX{i:Nat}{e:Ex}(t:Be N i e){x:Nd}(hx:N[i]?=Z x):∃f:List Nat,x.aC=f.map (λ(q:Nat)=>(q:Int))/\AfL N f e.aC:=by have same:∀{y:Nd},N[i]?=Z y->y=x:=λk=>Mk<|k.symm.trans hx;cases t with|int h d b=>obtain rfl:=same h;exact⟨[],b,trivial⟩|text h d b=>obtain rfl:=same h;exact⟨[],b,trivial⟩|bool h d b=>obtain rfl:=same h;exact⟨[],b,trivial⟩|set h d b a n c=>obtain rfl:=same h;exact⟨[],b,trivial⟩|name h d b=>obtain rfl:=same h;exact⟨[],b,trivial⟩|attr h d b=>obtain rfl:=same h;exact⟨[],b,trivial⟩|lett h d b=>obtain rfl:=same h;exact⟨[],b,trivial⟩|@un _ k _ _ h d b hi t=>obtain rfl:=same h;exact⟨[k],b,t,trivial⟩|@bin _ k l _ _ _ h d b hi t u=>obtain rfl:=same h;exact⟨[k,l],b,t,u,trivial⟩|@ite _ k l m _ _ _ _ h d b hi t u v=>obtain rfl:=same h;exact⟨[k,l,m],b,t,u,v,trivial⟩
theorem AfM(g:N7):∀(e:Ex),FL g e=(Dm g e.aC).bind λl=>match BH g e with|.ok t=>.ok (l++[t])|.error f=>.error f
 |.int ..|.text ..|.bool ..|.set ..|.attr ..=>rfl|.lett i s=>by simp only[Ex.aC,Dm,FL,Du];cases h:BH g (.lett i s)<;>rfl|.name i s=>by simp only[Ex.aC,Dm,FL,Du];cases h:BH g (.name i s)<;>rfl|.un i op k=>by cases h:BH g k with|error f=>simp[Ex.aC,Dm,FL,BH,h,Except.bind]|ok a=>simp only[Ex.aC,Dm,FL,Du,h];cases h2:BH g (.un i op k)<;>simp[Except.bind,Except.map,gX]
 |.bin i op l j=>by cases h:BH g l with|error f=>simp[Ex.aC,Dm,FL,BH,h,Except.bind]|ok a=>cases h1:BH g j with|error f=>simp[Ex.aC,Dm,FL,BH,h,h1,Except.bind,Except.map]|ok b=>simp only[Ex.aC,Dm,FL,Du,h,h1];cases h2:BH g (.bin i op l j)<;>simp[Except.bind,Except.map,gX]
 |.ite i c t e=>by cases h:BH g c with|error f=>simp[Ex.aC,Dm,FL,BH,h,Except.bind]|ok a=>cases h1:BH g t with|error f=>simp[Ex.aC,Dm,FL,BH,h,h1,Except.bind,Except.map]|ok b=>cases h3:BH g e with|error f=>simp[Ex.aC,Dm,FL,BH,h,h1,h3,Except.bind,Except.map]|ok d=>simp only[Ex.aC,Dm,FL,Du,h,h1,h3];cases h2:BH g (.ite i c t e)<;>simp[Except.bind,Except.map,gX]
theorem Be.pos{N:M7}{i:Nat}{e:Ex}(t:Be N i e):e.pos=i:=by cases t<;>rfl
theorem AdB(c:N7):∀(e:Ex){l:M4}{f:Int×Int},Dm c e.aC=.ok l->BH c e=.error f->f.2=e.pos
 |.int ..,_,_,_,h=>O6|.text ..,_,_,_,h=>O6|.bool ..,_,_,_,h=>O6|.set ..,_,_,_,h=>O6|.name i s,_,_,_,h=>by rw[JS h];rfl|.attr ..,_,_,_,h=>O6|.lett i s,_,_,_,h=>by rw[JS h];rfl|.un i op k,l,f,hk,h=>by simp only[Ex.aC,Dm,FL]at hk;rw[BH]at h;cases h1:BH c k with|error g=>rw[h1]at hk;cases hk|ok a=>rw[h1]at h;rw[JS h];rfl
 |.bin i op k m,l,f,hk,h=>by simp only[Ex.aC,Dm,FL]at hk;rw[BH]at h;cases h1:BH c k with|error g=>rw[h1]at hk;cases hk|ok a=>rw[h1]at h hk;cases h2:BH c m with|error g=>rw[h2]at hk;cases hk|ok b=>rw[h2]at h;rw[JS h];rfl
 |.ite i k m n,l,f,hk,h=>by simp only[Ex.aC,Dm,FL]at hk;rw[BH]at h;cases h1:BH c k with|error g=>rw[h1]at hk;cases hk|ok a=>rw[h1]at h hk;cases h2:BH c m with|error g=>rw[h2]at hk;cases hk|ok b=>rw[h2]at h hk;cases h3:BH c n with|error g=>rw[h3]at hk;cases hk|ok d=>rw[h3]at h;rw[JS h];rfl
theorem Aar(m:Y Es=Y N)(C:∀j,(h:j<Y Es)->Be N j Es[j])(ts:N7){b:Nat}{d:List (Nat×Nat)}(h:As (N.map Nd.aC) a d b):∀(c:M8),AfL N (d.map λp=>p.1) c->DS a ((List.range' a<|b-a).map<|FF Es ts)=Dm ts c:=by induction h with
 |nil a=>intro c g;match c,g with|[],_=>simp[DS,Dm]
 |@cons a t b ks d n ht hf q i2=>intro c g;match c,g with
   |e::c,⟨he,hr⟩=>
     obtain⟨x,hx,r⟩:∃x,N[t]?=Z x/\x.aC=Al ks:=by grind
     obtain⟨s,hq,u⟩:=he.kidsX hx;have e1:ks.map (λp=>p.1)=s:=by have:=r.symm.trans hq;rw[Al]at this;have h2:=congrArg (List.map Int.toNat) this;simpa[List.map_map,Function.comp_def]using h2
     have v:=q e.aC (by rw[e1];exact u);have w:=i2 c hr;have D:=n.le;have lb:=hf.le;have y:List.range' a (b-a)=List.range' a (t-a)++t::List.range' (t+1) (b-(t+1)):=by have e2:b-a=(t-a)+(1+(b-(t+1))):=Oa;rw[e2,<-List.range'_append_1,<-List.range'_append_1];grind
     have E:t<Y Es:=by rw[m];exact he.lt
     have en:FF Es ts t=cR (BH ts e):=by grind[FF,Be.dE,cR]
     have K:=AfM ts e;have z:a+Y (List.map (FF Es ts)<|List.range' a<|t-a)=t:=Od;rw[y,zN,List.map_cons,Qy,v,en,z];simp only[Dm];rw[K];cases A:Dm ts e.aC with|error f=>rfl|ok l=>cases B:BH ts e with|error f=>have i:=AdB ts e A B;rw[he.pos]at i;show(Except.error (f.1,(t:Int)):Except (Int×Int) M4)=.error f;rw[<-i]|ok o=>show(Except.map (l++·) ((DS (t+1)<|(List.range' (t+1)<|b-(t+1)).map<|FF Es ts).map (o::·)))=(Dm ts c).map λk=>(l++[o])++k;rw[w];cases Dm ts c<;>simp[Except.map]
theorem JU(k:Y Es=Y N)(f:∀j,(h:j<Y Es)->Be N j Es[j]){b:Nat}(d:As (N.map Nd.aC) a S b)(l:b<=Y N):a+((Al S).map<|BK Es).sum=b:=by
 have c:∀q∈S,q.1<Y Es:=λq hq=>G7<|(d.lt q hq).2;have g:=IW d (S.attach.map λq=>Es[q.1.1]'(c q.1 q.2)) Oz (λj h1 h2=>by have:=f (S[j]).1<|c _<|zI h1;simpa using this);have e2:(Al S).map (BK Es)=(S.attach.map λq=>Es[q.1.1]'(c q.1 q.2)).map Ex.aL:=by
  apply List.ext_getElem
  .simp[Al]
  intro j h1 h2;have i:j<Y S:=by simpa[Al]using h1
  have hq:=c S[j]<|zI i;simp only[Al,List.getElem_map,List.getElem_attach];exact FM rfl (zE hq)
 rw[e2];exact g
def AfN(Es:M8)(f:Nat)(e:Ex):Prop:=∀D,DS f ((List.range' f e.aL).map<|FF Es D)=FL D e
def GT(Es:M8)(c:Nat)(k:Int):Prop:=k=-1\/∃ (mm:Nat) (e:Ex),k=mm/\Es[mm]?=Z e/\c+e.aL=mm+1/\AfN Es c e
theorem Qz(b:Y Es=Y N)(a:∀j,(h:j<Y Es)->Be N j Es[j])(l:As (N.map Nd.aC) 0 S<|Y N){d m:M4}{x:Int}(h:Al S=d++x::m):GT Es ((d.map<|BK Es).sum) x:=by
 rw[Al]at h;obtain⟨r,s,rfl,h1,h2⟩:=List.map_eq_append_iff.1 h;obtain⟨p,t,rfl,h3,h4⟩:=List.map_eq_cons_iff.1 h2;obtain⟨c,n,f⟩:=l.split;have hc:=JU b a n<|G7 f.le;have u:=(f.lt p (zR ..)).2;have e1:c=(d.map<|BK Es).sum:=by rw[<-h1];rw[Al]at hc;omega
 have g:p.1<Y Es:=Oa;have i:As (N.map Nd.aC) c [p]<|p.1+1:=by cases f with|cons o ht hf=>exact .cons o ht<|.nil _
 have v:=JU b a i Oa;have w:BK Es (p.1:Nat)=Es[p.1].aL:=FM rfl (zE g);have q:c+Es[p.1].aL=p.1+1:=by grind[Al]
 rw[<-e1];refine .inr ⟨p.1,Es[p.1],h3.symm,zE g,q,λts=>?_⟩;have k:=Aar b a ts i [Es[p.1]] ⟨a p.1 g,trivial⟩;rw[(Oa:p.1+1-c=Es[p.1].aL)]at k;rw[k,Dm,Dm];cases FL ts Es[p.1]<;>simp[Except.bind,Except.map]
theorem MG(h:Gn N L=jG):∃S,As (N.map Nd.aC) 0 S (Y N)/\Al S=L.flatMap Aj:=by
 simp only[Gn,zF,zO]at h;obtain⟨⟨⟨h1,⟨h2,h3⟩,h4⟩,h5⟩,h6⟩:=h;obtain⟨S,a,ht⟩:∃S,CD (N.map Nd.aC) (Y N) [] 0=Z S/\Al S=L.flatMap Aj:=by rw[Dy]at h6;grind
 obtain⟨c,_⟩:=De (Y N) (.nil 0) (λp b=>(by cases b)) a;grind
def noC(L:Nz):Prop:=∀s∈L,s.cond=-1\/s.aF≠3
theorem AfO.noC(a:AfO N L):noC L:=λs hs=>by
 obtain q|q|q:=a.stm s hs
 .right;omega
 .right;omega
 exact .inl q.2
theorem QA(b:noC L)(Es:M8):∀s∈L,BK Es s.cond+BK Es s.aD=((Aj s).map<|BK Es).sum:=λs hs=>by
 have c:BK Es s.aD=((if s.aD≠-1 then[s.aD]else[]).map<|BK Es).sum:=by
  by_cases g:s.aD=-1
  .rw[K0 λk=>k g,g];rfl
  rw[K1 g];simp
 rw[Aj,zN,List.sum_append,<-c];congr 1;by_cases a:s.aF=3
 .rw[K0 λk=>k a];obtain q|q:=b s hs
  .rw[q];rfl
  exact K4 a q
 rw[K1 a];simp
theorem XI(a:noC L)(b:As (N.map Nd.aC) 0 S<|Y N)(ht:Al S=L.flatMap Aj)(c:Y Es=Y N)(d:∀j,(h:j<Y Es)->Be N j Es[j]):Dv Es L=Y N:=by grind[JU,JR,QA]
theorem NY(h:Gn N L=jG)(a:Y Es=Y N)(b:∀j,(h:j<Y Es)->Be N j Es[j]):Dv Es L=Y N:=by obtain⟨S,c,ht⟩:=MG h;exact XI (QB h).noC c ht a b
def Lw(Es:M8)(L:Nz):Prop:=∀k,(h:k<Y L)->GT Es (Dv Es<|L.take k) L[k].cond/\GT Es (Dv Es (L.take k)+BK Es L[k].cond) L[k].aD
theorem QD(b:noC L)(c:As (N.map Nd.aC) 0 S<|Y N)(ht:Al S=L.flatMap Aj)(d:Y Es=Y N)(f:∀j,(h:j<Y Es)->Be N j Es[j]):Lw Es L:=λk l=>by
 have m:L=L.take k++L[k]::L.drop (k+1):=by rw[List.getElem_cons_drop,Z3]
 have e1:Dv Es (L.take k)=(((L.take k).flatMap Aj).map<|BK Es).sum:=JR Es _<|QA (λs hs=>b s<|List.mem_of_mem_take hs) Es;have e2:Al S=(L.take k).flatMap Aj++(Aj L[k]++(L.drop<|k+1).flatMap Aj):=by
  rw[ht];conv=>lhs;rw[m]
  rw[List.flatMap_append,zu]
 have hs:=zI l;generalize L[k]=s at e2 hs|-;have kc:=b s hs;rw[e1];refine⟨?_,?_⟩
 .obtain q|q:=kc
  .exact .inl q
  rw[Aj,K1 q]at e2;exact Qz d f c e2
 by_cases g:s.aD=-1
 .exact .inl g
 have n:Aj s=(if s.aF≠3 then[s.cond]else[])++[s.aD]:=by rw[Aj,K1 g]
 have e3:Al S=((L.take k).flatMap Aj++(if s.aF≠3 then[s.cond]else[]))++s.aD::(L.drop<|k+1).flatMap Aj:=by rw[e2,n];simp
 have i:=Qz d f c e3;have e4:(((L.take k).flatMap Aj++(if s.aF≠3 then[s.cond]else[])).map<|BK Es).sum=(((L.take k).flatMap Aj).map<|BK Es).sum+BK Es s.cond:=by
  rw[zN,List.sum_append];congr 1;by_cases a:s.aF=3
  .rw[K0 λk=>k a];obtain q|q:=kc
   .rw[q];rfl
   exact K4 a q
  rw[K1 a];simp
 rw[e4]at i;exact i
theorem Ug(h:Gn N L=jG)(a:Y Es=Y N)(b:∀j,(h:j<Y Es)->Be N j Es[j]):Lw Es L:=by obtain⟨S,c,ht⟩:=MG h;exact QD (QB h).noC c ht a b
theorem AdC(a:N7):∀(e:Ex),∃l,Du a e=l++[gX<|BH a e]|.int ..|.text ..|.bool ..|.set ..|.name ..|.attr ..|.lett ..=>⟨[],rfl⟩|.un _ _ _=>⟨_,rfl⟩|.bin _ _ _ _=>⟨_,rfl⟩|.ite _ _ _ _=>⟨_,rfl⟩
theorem Ab8{a:N7}{tt:M4}{e:Ex}{b:Nat}(h:Y tt+e.aL=b+1)(ht:BH a e=.ok t):(tt++Du a e)[b]?=Z t:=by obtain⟨l,c⟩:=AdC a e;have h2:=Mz a e;rw[c]at h2|-;rw[zC,yF]at h2;rw[<-zd,yB<|by rw[zC];omega,zC,(Oa:b-(Y tt+Y l)=0),ht];rfl
theorem Ab9{a:N7}{e:Ex}{ys:M4}(h:FL a e=.ok ys):∃t,BH a e=.ok t/\ys=Du a e:=by grind[BH,FL]
theorem XJ{a:N7}{e:Ex}(h:FL a e=.error f):BH a e=.error f:=by grind[BH,FL]
theorem Aca{i t:Int}{ys:M4}(h:JE st.1 nm=V):Ft 1 nm st i (.ok t) ys=.ok (st.1++[⟨nm,jG,Y st.2.1,t⟩],st.2.1++[t],st.2.2++ys):=by simp[Ft,AfC,h]
theorem NZ{i t:Int}{ys:M4}(h:(JE st.1 nm).isSome):Ft 1 nm st i (.ok t) ys=.error (8,i):=by simp[Ft,AfC,h]
theorem XK{a:Int}{ys:M4}(b:a≠1):Ft a nm st i (.ok 1) ys=.ok (st.1,st.2.1,st.2.2++ys):=by simp[Ft,Jp,b]
theorem Uh{a:Int}{t:Int}{ys:M4}(b:a≠1)(ht:t≠1):Ft a nm st i (.ok t) ys=.error (9,i):=by simp[Ft,Jp,b,ht]
theorem Acb{a:Int}{ys:M4}:Ft a nm st i (.error f) ys=.error f:=by unfold Ft;split<;>rfl
theorem Ui{c:Int}{a:N7}{ys:M4}:Jp c a ts tt i (.ok c) ys=.ok (a,ts,tt++ys):=by simp[Jp]
def GU(Es:M8)(st:Cs)(s:St):Except (Int×Int) Cs:=OR st ⟨0,s.aF,s.name,BS Es s.cond,BS Es s.aD⟩
def DA(Es:M8)(st:Cs)(s:St):Except (Int×Int) Cs:=If st ⟨0,s.aF,s.name,BS Es s.cond,BS Es s.aD⟩
def Ez(Es:M8)(st:Cs)(s:St):Except (Int×Int) Cs:=(GU Es st s).bind λs1=>DA Es s1 s
def Et(Es:M8):Cs->Nz->Except (Int×Int) Cs|st,[]=>.ok st|st,s::L=>(Ez Es st s).bind λs1=>Et Es s1 L
theorem Acc(Es:M8):∀(L:Nz)(i:Nat)(st:Cs),Aam st (GQ Es i L)=Et Es st L|[],i,st=>rfl|s::L,i,st=>by rw[GQ,Aam,Et];show(Ez Es st s).bind _=_;congr 1;funext s1;exact Acc Es L (i+1) s1
theorem QE(Es:M8):∀(L M:Nz)(st:Cs),Et Es st (L++M)=(Et Es st L).bind λa=>Et Es a M|[],M,st=>rfl|x::L,M,st=>by rw[List.cons_append,Et,Et];cases Ez Es st x with|error f=>rfl|ok a=>exact QE Es L M a
theorem Oc(Es:M8)(s:St)(L:Nz)(st:Cs):Et Es st (L++[s])=(Et Es st L).bind λa=>Ez Es a s:=by rw[QE];congr 1;funext a;rw[Et];cases Ez Es a s<;>rfl
theorem Aas(Es:M8)(L:Nz)(st:Cs)(k:Nat)(h:Et Es st (L.take k)=.error f):Et Es st L=.error f:=by have e:=QE Es (L.take k) (L.drop k) st;rw[Z3,h]at e;exact e
theorem JV{a:Cs}(h:Et Es st L=.ok a):Y a.2.2=Y st.2.2+Dv Es L/\Y a.2.1<=Y st.2.1+Y L/\(Wst st->Wst a):=by rw[<-Acc Es L 0]at h;grind[Xw,MA,PJ]
theorem QF{b:Int}{c:Int}{e:Ex}(he:Es[a]?=Z e):GU Es st ⟨b,nm,a,c⟩=Ft b nm st e.pos (BH st.1 e) (Du st.1 e):=by
 have:BS Es (a:Int)=Z e:=by rw[BS,K0 Oa,zP,he]
 simp only[GU,OR,this]
theorem OV{a:Int}:DA Es st ⟨a,nm,i,-1⟩=.ok st:=by have:BS Es (-1)=V:=rfl;simp only[DA,If,this]
theorem ID{b:Int}{e:Ex}(he:Es[a]?=Z e):DA Es st ⟨b,nm,i,a⟩=Jp 4 st.1 st.2.1 st.2.2 e.pos (BH st.1 e) (Du st.1 e):=by
 have:BS Es (a:Int)=Z e:=by rw[BS,K0 Oa,zP,he]
 simp only[DA,If,this]
theorem Acd(h:nm∈(AE:M6)):(JE (CM ns ts) nm).isSome:=by have h0:=(Eo nm AE 0<|zr 0).2 h;grind[PK,KI,CM]
theorem Ace(a:Y ns=Y ts)(h:nm∈ns):(JE (CM ns ts) nm).isSome:=by have h0:=(Eo nm ns 0<|zr 0).2 h;rw[CM,KI];cases hf:JE IS nm with|some d=>rfl|none=>obtain⟨h1,_⟩|⟨j,t,_,_,h2⟩:=Qx nm ns ts 0 a;all_goals grind
theorem Acf(a:Y ns=Y ts)(h1:nm ∉(AE:M6))(h2:nm ∉ ns):JE (CM ns ts) nm=V:=by
 rw[CM,KI];obtain⟨_,e1⟩|⟨j,_,e1,_⟩:=PK nm
 .rw[e1];obtain⟨_,e2⟩|⟨j,t,e2,_,_⟩:=Qx nm ns ts 0 a
  .exact e2
  exact K4 ((Eo nm ns 0<|zr 0).1 (by have b:AH nm ns 0=((0+j:Nat):Int):=e2;rw[b];omega)) h2
 exact K4 ((Eo nm AE 0<|zr 0).1<|by rw[e1];omega) h1
theorem XL(nm:M1)(t:Int):∀(ns:M6)(ts:M4)(k:Nat),Y ns=Y ts->Ww k (ns++[nm]) (ts++[t])=Ww k ns ts++[⟨nm,jG,((k+Y ts:Nat):Int),t⟩]|[],[],k,_=>rfl|n::ns,x::ts,k,h=>by rw[List.cons_append,List.cons_append,Ww,Ww,XL nm t ns ts (k+1) P4,List.cons_append,List.length_cons];congr 4;omega|[],_::_,_,h=>O6|_::_,[],_,h=>O6
theorem QG(a:Y ns=Y ts):CM ns ts++[⟨nm,jG,Y ts,t⟩]=CM (ns++[nm]) (ts++[t]):=by grind[XL,CM]
theorem Acg:CM [] []=IS:=by simp[CM,Ww]
theorem Lm.readX{B:Nat}{a:M3}{d:Nat}(h:Lm B lb ns ts tt b lv (X a k d) w){i:Nat}(ht:tt[i]?=Z t):∃g,a=Z (jB g 0 V)/\jE w (jB g i V)=Z (T U t)/\(i:Int)<k:=by have hi:=(zL.1 ht).1;obtain⟨x,c,e,hx⟩:=Af h.types;grind[Ap]
theorem Lm.dG{B:Nat}{x:M3}{n:Nat}{lv a:jF}(h:Lm B lb ns ts tt (X x n c) lv a w):Nms w x ns/\jE w (jB lb 0 V)=Z (X x n c):=by obtain⟨y,b,e,hx⟩:=Af h.aE;cases e;refine⟨λj d=>?_,h.row.cell 0⟩;obtain⟨g,hg,_,hc⟩:=hx Oa;have f:=(h.aE.lt g<|by rw[hg];rfl).2;grind
theorem Lm.nmsX{B:Nat}{a b:jF}(h:Lm B lb ns ts tt a lv b w):∃x c,a=X x (Y ns) c/\Nms w x ns:=by obtain⟨x,c,e,hx⟩:=Af h.aE;refine⟨x,c,e,λj d=>?_⟩;obtain⟨g,hg,_,hc⟩:=hx Oa;have f:=(h.aE.lt g<|by rw[e,hg];rfl).2;grind
theorem Ls.cM{B a lb b c:Nat}{d f:jF}{S:Array jF}{g:Int}{j w:jD}(h:Ls B a lb b c ns ts tt d lv f S g i j w):B<=R (Q w):=by have:=h.S.lt;have:=h.dC;omega
def CkM(o:Except (Int×Int) Cs)(w:jD)(r:Ending)(w':jD):Prop:=(∃ (B lb:Nat) (ns:M6) (ts tt:M4) (nv lv tv:jF),o=.ok (CM ns ts,ts,tt)/\Y ns=Y ts/\r=jN (jS #[tv,jQ<|Z<|jB lb 0 V,jL #[T U 0,T U 0]])/\Lm B lb ns ts tt nv lv tv w'/\R (Q w)<=lb/\Ak w w')\/(∃f:Int×Int,o=.error f/\r=jN (jS #[X V 0 0,jQ V,jL #[T U f.1,T U f.2]])/\f.1≠0/\Ak w w')
theorem AdD(a:M3)(n c:Nat)(N:M7)(o:∀x∈N,FdX x)(k:jD)(p:GN k a n c N)(B:Nat)(hB:R (Q k)<=B)(Es:M8)(q:Y Es=n)(r:∀j,(h:j<Y Es)->Be N j Es[j])(s:n<=4000)(lb:Nat)(ns:M6)(ts tt:M4)(t lv l:jF)(u:∀d∈CM ns ts,1<=d.dA/\d.dA<=4)(v:Y ns=Y ts)(G:Y ts<=1000)(w:Y tt<=4000)(i:Nat)(e:Ex)(he:Es[i]?=Z e)(h1:Y tt+e.aL=i+1)(hs:AfN Es (Y tt) e)(f:jD)(y:Ak k f)(b:Lm B lb ns ts tt t lv l f)(z:B<=R (Q f)):Calls jZ 58 #[X a n c,T U<|Y tt,T U i,jQ<|Z<|jB lb 0 V,l] f (TrX B l tt (FL (CM ns ts) e) f):=by
 obtain⟨A,C,rfl,D⟩:=Af b.aQ;obtain⟨E,cn,rfl,F⟩:=b.nmsX;have H:i<Y Es:=(zL.1 he).1;have e1:(i:Int)=((Y tt+e.aL:Nat):Int)-1:=Oa;rw[<-hs<|CM ns ts,e1];refine XH a n c N o k p B hB lb E (Y ns) cn ns A (Y ts) C ts u Es q r (Y tt) e.aL Oa Oa s l tt w f y z ⟨b.row.cell 0,b.row.cell 1,b.row.lt,F,rfl,Oa,Dd b.aQ Oa,v⟩ (λe=>Ad b.row b.types Ob e.symm) (λx hx e=>?_) (λx hx e=>Ao b.aE b.types Ob (jW x) (by rw[hx];rfl) e.symm) b.types;by_cases h0:Y ts=0
 .have h2:lb<R (Q f):=b.row.lt;obtain⟨m,_⟩|⟨g,cap,I,m,_⟩:=b.aQ.2
  .grind
  rw[hx]at m;cases m;exact b.bH g (by rw[hx];rfl) e.symm
 obtain⟨g,hg,_⟩:=D Oa;rw[hg]at hx;cases hx;exact b.bH g (by rw[hg];rfl) e.symm
set_option maxRecDepth 100000
set_option maxHeartbeats 6400000
structure CdR(Es:M8)(ns:M6)(ts tt:M4)(s:St)(ns7:M6)(ts7 tt7:M4):Prop where
 cd:GU Es (CM ns ts,ts,tt) s=.ok (CM ns7 ts7,ts7,tt7)len:Y ns7=Y ts7
 dA:∀d∈CM ns7 ts7,1<=d.dA/\d.dA<=4
 dZ:Y ts7<=601
 room:Y tt7+BK Es s.aD<=4000
 sp:GT Es (Y tt7) s.aD
theorem Ach{b:jD}{c a:Nat}{j k d f:jF}{t:jR}(F:Ah b a #[j,k] t)(R:Ah b c #[d,f] t)(h:c≠a)(x y:jF):Ah (jM (jM b (jB a 0 V) x) (jB a 1 V) y) a #[x,y] t/\Ah (jM (jM b (jB a 0 V) x) (jB a 1 V) y) c #[d,f] t/\Ah (jV<|jM (jM b (jB a 0 V) x) (jB a 1 V) y) a #[x,y] t/\Ah (jV<|jM (jM b (jB a 0 V) x) (jB a 1 V) y) c #[d,f] t:=by have g:=(F.set 0 x).set 1 y;have i:=(R.aJ (p:=(jB a 0 V)) h x).aJ (p:=(jB a 1 V)) h y;exact⟨g,i,⟨g.out⟩,⟨i.out⟩⟩
theorem AdE{fn:Func}{g:Array jF}{h:Except (Int×Int) Cs}{c d b:jD}{i j:jF}(R:Ah d a #[i,j] 51)(k:jh (Q c)=a)(l:Below a c d)(hq:h=.error f)(hf:f.1≠0)(m:b=jM (jM d (jB a 0 jc)<|T U f.1) (jB a 1 jc) (T U f.2)\/b=jV (jM (jM d (jB a 0 jc)<|T U f.1) (jB a 1 jc)<|T U f.2))(n:∀V:jD,jE V (jB a 0 jc)=Z (T U f.1)->jE V (jB a 1 jc)=Z (T U f.2)->(results fn g).run jZ V=.ok (jS #[X jc 0 0,jQ jc,jL #[T U f.1,T U f.2]]) V):bodyPost jZ fn (CkM h c) Exit.ret {tmps:=g,defers:=[]} b:=by
 have o:=(R.set 0<|T U f.1).set 1<|T U f.2;have q:=(l.setCell (p:=(jB a 0 jc)) (Nat.le_refl a)<|T U f.1).setCell (p:=(jB a 1 jc)) (Nat.le_refl a)<|T U f.2;have e:Ah b a #[T U f.1,T U f.2] 51/\Below a c b:=by
  obtain rfl|rfl:=m
  .grind
  exact⟨⟨o.out⟩,q.drew⟩
 exact K8 (n b (e.1.cell 0)<|e.1.cell 1) rfl (.inr ⟨f,hq,rfl,hf,by show Below _ _ _;rw[k];exact e.2⟩)
theorem MH(a b:M3)(n c m d:Nat)(N:M7)(L:Nz)(b8:∀x∈N,FdX x)(o:jD)(b9:GN o a n c N)(bl:Lr o b m d L)(Es:M8)(ca:Y Es=n)(bm:∀j,(h:j<Y Es)->Be N j Es[j])(dg:n<=4000)(hm:m<=600)(cb:Lw Es L)(cc:Dv Es L<=4000):Calls jZ 21 #[X a n c,X b m d] o (CkM (Et Es (IS,[],[]) L) o):=by
 obtain⟨dh,di,dj,dk,dl⟩:=info_parts GS;obtain⟨dm,dn,dp,dq,dr⟩:=info_parts Gd;have bn:=Ab λ(lb:Nat) (ns:M6) (ts tt:M4) (ag lv ds:jF)=>AdD a n c N b8 o b9 (R (Q o)+3) Oa Es ca bm dg lb ns ts tt ag lv ds;have dt:=Ab cb;have ce:=Ab (show ∀(w:Nat) (e:Ex),Es[w]?=Z e->e.pos=w from λw e h=>by obtain⟨du,dv⟩:=zL.1 h;rw[<-dv];exact(bm w du).pos);have dw:=Ab cc;have cf:=Ab bl.len;have bo:=((Ah.new o #[T U 0,T U 0] 51).alloc<|jC #[X jc 0 0,X jc 0 0] 118).alloc<|jC #[T U 0,T U 0] 51;have a2:=(Ah.new (jK o<|jC #[T U 0,T U 0] 51) #[X jc 0 0,X jc 0 0] 118).alloc<|jC #[T U 0,T U 0] 51;have aF:=Ah.new (jK (jK o<|jC #[T U 0,T U 0] 51)<|jC #[X jc 0 0,X jc 0 0] 118) #[T U 0,T U 0] 51;have bp:=(((Ar o<|jC #[T U 0,T U 0] 51).alloc Oz<|jC #[X jc 0 0,X jc 0 0] 118).alloc Od<|jC #[T U 0,T U 0] 51);have a3:R (Q<|jK (jK (jK o<|jC #[T U 0,T U 0] 51)<|jC #[X jc 0 0,X jc 0 0] 118)<|jC #[T U 0,T U 0] 51)=R (Q o)+3:=Oz;simp only[K6]at a2 aF;clear b8 b9 bm ca cb cc;go_enter func21,ntmps21;go_wp2_with fail;generalize (jK (jK (jK o (jC #[T U 0,T U 0] 51)) (jC #[X jc 0 0,X jc 0 0] 118)) (jC #[T U 0,T U 0] 51))=dx at bo a2 aF bp a3|-;have al:R (Q o)<R (Q o)+1/\R (Q o)+1<R (Q o)+1+1/\R (Q o)+1+1<R (Q o)+3:=Oa;have bq:Lm (R (Q o)+3) (R (Q o)+1) [] [] [] (X jc 0 0) (X jc 0 0) (X jc 0 0) dx:=⟨a2,G8,G8,G8,Oa,λq h=>O6⟩;clear a2;generalize dy:R (Q o)+1=lb at al bq aF|-;generalize dz:lb+1=H at al aF|-;generalize dB:R (Q o)+3=B at al bq bn a3|-;generalize a4:R (Q o)=g at al bo bp|-;have K:=Ab a4;have dD:=Ab (Oa:g<=lb/\R (Q o)<=B);clear dy dz dB a4;go_loopw[8,17] (λv i wr=>∃ (k:Nat) (ns:M6) (ts tt:M4) (ag lv:jF) (br bs:Int),k<=m/\i=T U k/\Hid (Et Es (IS,[],[]) (L.take k)=.ok (CM ns ts,ts,tt)/\Y ns=Y ts)/\Lm B lb ns ts tt ag lv v wr/\Ah wr H #[T U br,T U bs] 51/\Ah wr g #[T U 0,T U 0] 51/\Below g o wr/\B<=R (Q wr)) (λ_ i _=>m-(intOf i).toNat);case atStart=>exact⟨0,[],[],[],_,_,0,0,zH _,rfl,Ab ⟨by rw[Acg];rfl,rfl⟩,bq,aF,bo,bp,Oa⟩
 obtain⟨k,ns,ts,tt,ag,lv,br,bs,ez,rfl,ao,a5,cg,aG,ap,ch⟩:=hrel;obtain⟨bt,bu,rfl,_⟩:=Af a5.types;by_cases bv:k<m
 .have eA:(k:Int)<(m:Int):=Oa;have aq:k<Y L:=by rw[Aa cf];exact bv
  have a4:=Aa K;obtain⟨ah,os,rfl,dE,ci,cj,ck,cm⟩:=bl.cells k aq;have c0:=(ap.cell (p:=⟨ah,os+k*4,jc⟩) (Oa:ah<g)).trans ci;have c1:=(ap.cell (p:=⟨ah,os+k*4+1,jc⟩) (Oa:ah<g)).trans cj;have c2:=(ap.cell (p:=⟨ah,os+k*4+2,jc⟩) (Oa:ah<g)).trans ck;have c3:=(ap.cell (p:=⟨ah,os+k*4+3,jc⟩) (Oa:ah<g)).trans cm;have co:=bl.bE _<|zI aq;clear ci cj ck cm dE;obtain⟨l1,l2,cp⟩:=JV (Aa ao).1;have room:=Uj Es L k aq;have cq:∀d∈CM ns ts,1<=d.dA/\d.dA<=4:=cp AfE;have cr:Y tt=Dv Es (L.take k):=by simpa using l1
  have dF:Y ts<=k:=by rw[zv]at l2;simp at l2;omega
  obtain⟨aH,W⟩:=Aa dt k aq;rw[<-cr]at aH W room;have bw:=Ab (show ∀bx,Ez Es (CM ns ts,ts,tt) L[k]=.ok bx->Et Es (IS,[],[]) (L.take<|k+1)=.ok bx from λbx e=>by rw[zY aq,Oc,(Aa ao).1];exact e);have ar:=Ab (show ∀f,Ez Es (CM ns ts,ts,tt) L[k]=.error f->Et Es (IS,[],[]) L=.error f from λf e=>Aas Es L _ (k+1)<|by rw[zY aq,Oc,(Aa ao).1];exact e);have a6:=Ab bv;have a7:=Ab (Aa ao).2;have dH:=Aa dw;have aI:=Ab (Oa:Y tt+(BK Es L[k].cond+BK Es L[k].aD)<=4000);have ai:=Ab (Oa:Y ts<=600);have aJ:=Ab cq;clear l1 l2 cp cr dF room cq dH ao bv a4;generalize L[k]=s at c0 c1 c2 c3 co aH W bw ar aI;clear aq;obtain⟨G,nm,cd,J⟩:=s;dsimp only at c0 c1 c2 c3 co aH W aI;have A:Ls B g lb H (R<|Q wr) ns ts tt ag lv (X bt (Y tt) bu) #[T U G,jA nm,T U cd,T U J] br bs o<|jK wr<|EO G nm cd J:=⟨a5.below<|BRN.alloc NLN _,cg.alloc _,aG.alloc _,Ah.new wr _ _,ap.alloc Oa _,⟨al.1,al.2.1,al.2.2,ch⟩⟩;have dI:B<=R (Q wr):=ch;clear a5 cg aG ap;go_upto_if 23 with fail;generalize jK wr (EO G nm cd J)=eB at A|-;generalize R (Q wr)=dJ at A dI|-;have dK:=Ab (show Y tt+BK Es cd+BK Es J<=4000 by have:=Aa aI;omega);have cs:=Ab A;clear A;go_cut[8] (λv dL=>∃ (C:M6) (y O:M4) (aK aM:jF) (ct cu:Int),Hid (CdR Es ns ts tt ⟨G,nm,cd,J⟩ C y O)/\Ls B g lb H dJ C y O aK aM v #[T U G,jA nm,T U cd,T U J] ct cu o dL);case first=>
   have A:=Aa cs;obtain⟨a3,z1,z2,dM,dO⟩:=Cb A.S;obtain hc|⟨w,e,hc,he,cv,cw⟩:=aH
   .subst hc;have aj:=Ab<|show CdR Es ns ts tt ⟨G,nm,-1,J⟩ ns ts tt from⟨rfl,Aa a7,Aa aJ,G7<|Aa ai,by have:=Aa dK;rw[show BK Es (-1)=0 from rfl]at this;omega,by rw[show BK Es (-1)=0 from rfl,ze]at W;exact W⟩;go_wp2;go_meet;exact⟨ns,ts,tt,ag,lv,_,_,aj,A⟩
   subst hc;have dP:=Ab<|Aa bn lb ns ts tt ag lv (X bt (Y tt) bu) (Aa aJ) (Aa a7) (G7<|Aa ai) (G7<|Aa aI) w e he cv cw;have cx:=Ab (show GU Es (CM ns ts,ts,tt) ⟨G,nm,w,J⟩=Ft G nm (CM ns ts,ts,tt) w (BH (CM ns ts) e) (Du (CM ns ts) e)by rw[QF he,Aa ce w e he]);have dQ:=Ab<|FM (k:=(w:Int)) rfl he;rw[FM (k:=(w:Int)) rfl he]at W;have ak:=a7;have eC:(0:Int)<=(w:Int):=Oa;clear he cw;go_wp2_with fail;refine(Aa dP _ (by show Below _ _ _;rw[Aa K];exact A.aP) A.M A.cM).mono ?_;rintro ax w2 (⟨a8,dR,aN,rfl,bz,cy,b2⟩|⟨⟨aO,a9⟩,dR,aN,rfl,dS,bA,b2⟩)
   .have aR:=A.dN bz cy b2;obtain⟨eD,eE,rfl,_⟩:=Af bz;have bB:=Ab aN;clear bz cy aN;obtain⟨ba,bC⟩:∃l,l=tt++a8:=⟨_,rfl⟩;rw[<-bC]at aR|-;have bb:=Ab bC;clear bC;obtain⟨eF,eG⟩:=Ca aR.F;have eH:=λj=>aR.F.frozen j;have eI:=λj=>(aR.F.set 0<|T U 0).frozen j;have X2:=aR.fault 0 0;obtain⟨eJ,eK⟩:=Ca X2.F;obtain⟨u20,u21,u22,u23,eL⟩:=Cb X2.S;obtain⟨ac,bc,bd⟩:=Ab9<|Aa bB;obtain⟨eM,rfl,eN,eO⟩:=X2.M.readX (i:=w) (t:=ac) (by rw[Aa bb,bd];exact Ab8 cv bc);have cz:Y tt+e.aL=Y ba:=by rw[Aa bb,zC,bd,Mz]
    rw[cz]at W;have bf:=Ab (show Y ba+BK Es J<=4000 by have:=Aa aI;have:=Aa dQ;omega);have dT:=Ab<|Qs (Aa aJ) e ac bc;have aS:=Ab (show GU Es (CM ns ts,ts,tt) ⟨G,nm,w,J⟩=Ft G nm (CM ns ts,ts,tt) w (.ok ac) a8 by rw[Aa cx,bc,bd]);clear bd bc cz;by_cases ay:G=1
    .subst ay;by_cases au:nm∈(AE:M6)
     .have bg:=(Eo nm AE 0<|zr 0).2 au;have av:=Ab (Aa ar (8,(w:Int))<|by rw[Ez,Aa aS,NZ<|Acd au];rfl);clear au;go_wp2_with fail;refine(Gl _ _).mono ?_;rintro ax cA ⟨rfl,b4⟩;have D:=X2.below b4;obtain⟨cB,cC,cD,cE,cF⟩:=Cb D.S;generalize AH nm AE 0=cG at bg|-;have E:=D.below BRN.drew;obtain⟨aT,aU⟩:=Ca E.Rr;have aV:=λj=>E.Rr.frozen j;obtain⟨bD,bF,bG,bH,bI⟩:=Cb E.S;obtain⟨bJ,bK⟩:=Ca D.Rr;have bL:=λj=>D.Rr.frozen j;go_wp2_with fail;go_region;all_goals go_wp2_with fail;exact AdE (f:=(8,w)) D.Rr (by rw[Aa K]) D.aP (Aa av) Oz (.inr rfl) λV g0 g1=>Q3
     have bg:¬ (0<=AH nm AE 0):=λh=>au<|(Eo nm AE 0<|zr 0).1 h;obtain⟨aw,cn,rfl,_⟩:=Af X2.M.aE;by_cases az:nm∈ns
     .have bM:=(Eo nm ns 0<|zr 0).2 az;have av:=Ab (Aa ar (8,(w:Int))<|by rw[Ez,Aa aS,NZ<|Ace (Aa ak) az];rfl);clear au az;go_wp2_with fail;refine(Gl _ _).mono ?_;rintro ax cA ⟨rfl,b4⟩;have D:=X2.below b4;obtain⟨cB,cC,cD,cE,cF⟩:=Cb D.S;generalize AH nm AE 0=cG at bg|-;go_wp2_with fail;refine(MF lb aw (Y ns) cn ns nm _ D.M.dG.2 D.M.row.lt rfl (by have:=Aa ak;have:=Aa ai;omega) D.M.dG.1).mono ?_;rintro ax ad ⟨rfl,b5⟩;have r:=D.below b5;obtain⟨dV,dW,dX,dY,dZ⟩:=Cb r.S;generalize AH nm ns 0=d0 at bM|-;have E:=r.below BRN.drew;obtain⟨aT,aU⟩:=Ca E.Rr;have aV:=λj=>E.Rr.frozen j;obtain⟨bD,bF,bG,bH,bI⟩:=Cb E.S;obtain⟨bJ,bK⟩:=Ca r.Rr;have bL:=λj=>r.Rr.frozen j;go_wp2_with fail;go_region;all_goals go_wp2_with fail;exact AdE (f:=(8,w)) r.Rr (by rw[Aa K]) r.aP (Aa av) Oz (.inr rfl) λV g0 g1=>Q3
     have bM:¬ (0<=AH nm ns 0):=λh=>az<|(Eo nm ns 0<|zr 0).1 h;have ae:=Ab<|(Aa aS).trans<|Aca (st:=(CM ns ts,ts,tt)) (t:=ac) (ys:=a8)<|Acf (Aa ak) au az;clear au az;go_wp2_with fail;refine(Gl _ _).mono ?_;rintro ax cA ⟨rfl,b4⟩;have D:=X2.below b4;obtain⟨cB,cC,cD,cE,cF⟩:=Cb D.S;generalize AH nm AE 0=cG at bg|-;go_wp2_with fail;refine(MF lb aw (Y ns) cn ns nm _ D.M.dG.2 D.M.row.lt rfl (by have:=Aa ak;have:=Aa ai;omega) D.M.dG.1).mono ?_;rintro ax ad ⟨rfl,b5⟩;have r:=D.below b5;obtain⟨dV,dW,dX,dY,dZ⟩:=Cb r.S;generalize AH nm ns 0=d0 at bM|-;obtain⟨d1,cl,rfl,_⟩:=Af r.M.aQ;obtain⟨eP,eQ⟩:=Ca r.M.row;have E:=r.below BRN.drew;obtain⟨eR,eS⟩:=Ca E.M.row;obtain⟨eT,eU,eV,eW,eX⟩:=Cb E.S;have eY:B<=R (Q ad):=r.cM;have eZ:Y ns<=1000:=by have:=Aa ak;have:=Aa ai;omega
     have e0:Y ts<=1000:=G7<|Aa ai;have e1:lb<R (Q ad):=r.M.row.lt;have cH:g<=lb:=G7 r.dC;have e2:g<=B:=G7 r.dC;go_wp2_with fail;have cI:World.ownsRow (jV<|jK ad<|jC #[jA nm] 9) B 9 1 (X aw (Y ns) cn) (Y ns)<|ns.map Value.string:=(r.M.aE.alloc _).drew;go_region_law (refine step_append_lies _ rfl _ _ 31 rfl B 9 dm (jA jX) 1 16 underlying31 dn dp dq dr rfl Ob (X aw (Y ns) cn) (Y ns) (ns.map Value.string) rfl cI ⟨R<|Q ad,0,jc⟩ 1 1 [jA nm] rfl rfl (A6 ad _ _ _ rfl) H5 Ob O3 Oa Od _ rfl ?_;intro b1 c1 aW cJ P hat e4;have bN:Ah aW lb #[X aw (Y ns) cn,X d1 (Y ts) cl] 118:=⟨(P.block lb Od λe=>Ad r.M.row r.M.aE Ob e.symm).trans (r.M.row.alloc<|jC #[jA nm] 9).out⟩;have d2:jE aW (jB lb 0 jc)=Z (X aw (Y ns) cn)/\World.frozen? aW (jB lb 0 jc)=jI:=⟨bN.cell 0,bN.frozen 0⟩;obtain⟨d3,d4⟩:=d2);all_goals
      have bO:(jK ad<|jC #[jA nm] 9).grownBy aW<|jO<|Value.slice aw (Y ns) cn:=⟨P.os,P.tape,P.output,P.size,P.block⟩;obtain⟨_,cK,cL,e5⟩:=r.M.cS r.cM cJ bO (hat.imp id λe=>by rw[e];show R (Q<|jK ad _)=_;simp);have cN:=(((Below.refl g ad).alloc Oa<|jC #[jA nm] 9).grown bO Od λq hq=>G7<|(r.M.aE.lt q hq).1).setCell (p:=(jB lb 0 jc)) cH<|X (Z<|jB b1 0 jc) (Y ns+1) c1;have af:=r.dU r.M.aE Ob Ob cK cL cN;clear P bO hat cJ cI bN cK cL cN d3 d4;generalize jM aW (jB lb 0 jc) (X (Z (jB b1 0 jc)) (Y ns+1) c1)=bh at af|-;obtain⟨e6,e7⟩:=Ca af.M.row;have e8:B<=R (Q bh):=af.cM;go_wp2_with (at_builtin;refine J6 _ rfl _ _ 25 rfl B 3 dh (T U 0) 1 8 underlying25 di dj dk dl rfl Ob _ _ _ rfl (K7 af.M.aQ _) ⟨R<|Q bh,0,jc⟩ 1 1 [T U ac] rfl rfl ?c1 ?c2 Ob ?c3 ?c4 ?c5 (R (Q bh)+1) Oz ?_);case c1=>exact A6 _ _ _ _ Oz
      case c2=>intro u hu;simp at hu;subst hu;rfl
      case c3=>unfold maxLen;omega
      case c4=>omega
      case c5=>simp;omega
      intro g7 d5 e9 cO P hat fa;obtain⟨cP,cQ,cT,z⟩:=af.M.cU af.cM cO P hat;have cV:=(((Below.refl g bh).alloc Oa<|jC #[T U ac] 3).grown P Od λq hq=>G7<|(af.M.aQ.lt q hq).1).setCell (p:=(jB lb 1 jc)) cH<|X (Z<|jB g7 0 jc) (Y ts+1) d5;have cW:=af.dU af.M.aQ Ob Ob cQ cT cV;obtain⟨fb,fc⟩:=Ca cP;have fd:=λj=>cP.frozen j;obtain⟨fe,ff,fg,fh,fi⟩:=Cb cW.S;clear P hat cO cQ cT cV;have aj:=Ab<|show CdR Es ns ts tt ⟨1,nm,w,J⟩ (ns++[nm]) (ts++[ac]) ba from⟨by rw[Aa ae,Aa bb,<-QG<|Aa ak],by rw[zC,zC,Aa ak];rfl,λd h=>by rw[<-QG<|Aa ak]at h;exact(zJ.1 h).elim (Aa aJ d) (λh=>by simp at h;subst h;exact Aa dT),by rw[zC];have:=Aa ai;simp;omega,Aa bf,W⟩;go_wp2;go_meet;exact⟨_,_,_,_,_,_,_,aj,cW⟩
    have fj:(G==1)=jI:=zA.2 ay;by_cases bi:ac=1
    .subst bi;have ae:=Ab<|(Aa aS).trans<|XK (nm:=nm) (st:=(CM ns ts,ts,tt)) (ys:=a8) ay;have aj:=Ab<|show CdR Es ns ts tt ⟨G,nm,w,J⟩ ns ts ba from⟨by rw[Aa ae,Aa bb],Aa a7,Aa aJ,G7<|Aa ai,Aa bf,W⟩;clear ay ae;go_wp2;go_meet;exact⟨_,_,_,_,_,_,_,aj,X2⟩
    have fk:(ac !=1)=jG:=zW.2 bi;have av:=Ab (Aa ar (9,(w:Int))<|by rw[Ez,Aa aS,Uh ay bi];rfl);clear ay bi;have E:=X2.below BRN.drew;obtain⟨aT,aU⟩:=Ca E.Rr;have aV:=λj=>E.Rr.frozen j;obtain⟨bD,bF,bG,bH,bI⟩:=Cb E.S;obtain⟨bJ,bK⟩:=Ca X2.Rr;have bL:=λj=>X2.Rr.frozen j;go_wp2_with fail;go_region;all_goals go_wp2_with fail;exact AdE (f:=(9,w)) X2.Rr (by rw[Aa K]) X2.aP (Aa av) Oz (.inr rfl) λV g0 g1=>Q3
   have bP:=A.F.below b2 A.dC.2.2.1;have d6:=A.Rr.below b2<|G7 A.dC;have d7:=A.aP.trans<|b2.mono<|G7 A.dC;have fl:(aO !=0)=jG:=zW.2 bA;have d8:=Ab bA;have bB:=Ab aN;clear bA aN;have bQ:g≠H:=G7 A.dC;obtain⟨cX,cY⟩:=Ca bP;have cZ:=λj=>bP.frozen j;have bR:=(d7.setCell (p:=(jB H 0 jc)) (by have:=A.dC;show g<=H;omega)<|T U aO).setCell (p:=(jB H 1 jc)) (by have:=A.dC;show g<=H;omega)<|T U a9;obtain⟨bS,aa,bT,aX⟩:=Ach bP d6 bQ (T U aO)<|T U a9;obtain⟨d9,ea⟩:=Ca bS;obtain⟨eb,ec⟩:=Ca aa;have ed:=λj=>aa.frozen j;obtain⟨ee,ef⟩:=Ca bT;obtain⟨aT,aU⟩:=Ca aX;have aV:=λj=>aX.frozen j;obtain rfl|⟨_,_,_,rfl⟩:=dS;all_goals go_wp2_with fail;go_region
   all_goals go_wp2_with fail;exact AdE (f:=(aO,a9)) aa (by rw[Aa K]) bR (Aa ar (aO,a9)<|by rw[Ez,Aa cx,XJ<|Aa bB,Acb];rfl) (Aa d8) (by first|exact .inr rfl|exact .inl rfl) λV g0 g1=>Q3
  obtain⟨C,y,O,aK,aM,ct,cu,aj,z⟩:=hcut;obtain⟨c6,c7,c8,c9,bU,da⟩:=Aa aj;dsimp only at bU da;have ae:=Ab c6;have bV:=Ab c7;have eg:=Ab c8;have eh:=Ab c9;have bf:=Ab bU;obtain⟨ei,ej,rfl,_⟩:=Af z.M.types;obtain⟨a3,z1,z2,dM,dO⟩:=Cb z.S;clear c6 c7 c8 c9 bU aj aH W cs;obtain hg|⟨ab,e3,hg,aA,db,dc⟩:=da
  .subst hg;have bW:Y (C)=Y (y):=Aa bV;go_wp2;go_roundw;case rel=>exact⟨k+1,C,y,O,aK,aM,_,_,Aa a6,O0,Ab ⟨Aa bw _<|by rw[Ez,Aa ae];exact OV,bW⟩,z.M,z.F,z.Rr,z.aP,z.cM⟩
   have:=Aa a6;simp[intOf];omega
  subst hg;have ek:=Ab<|Aa bn lb C y O aK aM (X ei (Y O) ej) (Aa eg) (Aa bV) (G7<|Aa eh) (G7<|Aa bf) ab e3 aA db dc;have el:=Ab (show ∀f,BH (CM C y) e3=.error f->DA Es (CM C y,y,O) ⟨G,nm,cd,ab⟩=.error f from λf h=>by rw[ID aA];show Jp 4 _ _ _ _ (BH (CM C y) e3) _=_;rw[h];rfl);have em:=Ab (show ∀t,BH (CM C y) e3=.ok t->t≠4->DA Es (CM C y,y,O) ⟨G,nm,cd,ab⟩=.error (9,(ab:Int))from λt h h4=>by rw[ID aA];show Jp 4 _ _ _ _ (BH (CM C y) e3) _=_;rw[h,Aa ce ab e3 aA];exact K0 h4);have en:=Ab (show BH (CM C y) e3=.ok 4->DA Es (CM C y,y,O) ⟨G,nm,cd,ab⟩=.ok (CM C y,y,O++Du (CM C y) e3)from λh=>by rw[ID aA];show Jp 4 _ _ _ _ (BH (CM C y) e3) _=_;rw[h];exact Ui);have fm:(0:Int)<=(ab:Int):=Oa;clear aA dc;go_wp2_with fail;refine(Aa ek _ (by show Below _ _ _;rw[Aa K];exact z.aP) z.M z.cM).mono ?_;rintro ax fn (⟨eo,ep,aY,rfl,bX,dd,b3⟩|⟨⟨aZ,bj⟩,ep,aY,rfl,eq,bY,b3⟩)
  .have a0:=z.dN bX dd b3;obtain⟨fo,fp,rfl,_⟩:=Af bX;have bZ:=Ab aY;clear bX dd aY;obtain⟨er,b0⟩:∃l,l=O++eo:=⟨_,rfl⟩;rw[<-b0]at a0|-;have de:=Ab b0;clear b0;obtain⟨fq,fr⟩:=Ca a0.F;have fs:=λj=>a0.F.frozen j;have ft:=λj=>(a0.F.set 0<|T U 0).frozen j;have I:=a0.fault 0 0;obtain⟨fu,fv⟩:=Ca I.F;obtain⟨u30,u31,u32,u33,fw⟩:=Cb I.S;obtain⟨a1,aB,b6⟩:=Ab9<|Aa bZ;obtain⟨fx,rfl,gc,fy⟩:=I.M.readX (i:=ab) (t:=a1) (by rw[Aa de,b6];exact Ab8 db aB);have es:=Ab b6;have df:=Ab aB;clear b6 aB;by_cases aC:a1=4
   .have et:=Ab (Aa en<|by rw[<-aC];exact Aa df);have bW:Y (C)=Y (y):=Aa bV;have eu:(a1 !=4)=jI:=by rw[aC];rfl
    clear aC;go_wp2;go_roundw;case rel=>exact⟨k+1,C,y,er,aK,aM,_,_,Aa a6,O0,Ab ⟨Aa bw _<|by rw[Ez,Aa ae,Aa de,Aa es];exact Aa et,bW⟩,I.M,I.F,I.Rr,I.aP,I.cM⟩
    have:=Aa a6;simp[intOf];omega
   have aB:=Aa df;have eu:(a1 !=4)=jG:=zW.2 aC;have av:=Ab (Aa ar (9,(ab:Int))<|by rw[Ez,Aa ae];exact Aa em a1 aB aC);clear aC aB;have E:=I.below BRN.drew;obtain⟨aT,aU⟩:=Ca E.Rr;have aV:=λj=>E.Rr.frozen j;obtain⟨bD,bF,bG,bH,bI⟩:=Cb E.S;obtain⟨bJ,bK⟩:=Ca I.Rr;have bL:=λj=>I.Rr.frozen j;go_wp2_with fail;go_region;all_goals go_wp2_with fail;exact AdE (f:=(9,ab)) I.Rr (by rw[Aa K]) I.aP (Aa av) Oz (.inr rfl) λV g0 g1=>Q3
  have b7:=z.F.below b3 z.dC.2.2.1;have bk:=z.Rr.below b3<|G7 z.dC;have ev:=z.aP.trans<|b3.mono<|G7 z.dC;have fz:(aZ !=0)=jG:=zW.2 bY;have ew:=Ab bY;have bZ:=Ab aY;clear bY aY;have bQ:g≠H:=G7 z.dC;obtain⟨cX,cY⟩:=Ca b7;have cZ:=λj=>b7.frozen j;have bR:=(ev.setCell (p:=(jB H 0 jc)) (by have:=z.dC;show g<=H;omega)<|T U aZ).setCell (p:=(jB H 1 jc)) (by have:=z.dC;show g<=H;omega)<|T U bj;obtain⟨bS,aa,bT,aX⟩:=Ach b7 bk bQ (T U aZ)<|T U bj;obtain⟨d9,ea⟩:=Ca bS;obtain⟨eb,ec⟩:=Ca aa;have ed:=λj=>aa.frozen j;obtain⟨ee,ef⟩:=Ca bT;obtain⟨aT,aU⟩:=Ca aX;have aV:=λj=>aX.frozen j;obtain rfl|⟨_,_,_,rfl⟩:=eq;all_goals go_wp2_with fail;go_region
  all_goals go_wp2_with fail;exact AdE (f:=(aZ,bj)) aa (by rw[Aa K]) bR (Aa ar (aZ,bj)<|by rw[Ez,Aa ae];exact Aa el _<|XJ<|Aa bZ) (Aa ew) (by first|exact .inr rfl|exact .inl rfl) λV g0 g1=>Q3
 have e:k=m:=Oa;subst e;have ex:=Ab (show Et Es (IS,[],[]) L=.ok (CM ns ts,ts,tt)by rw[<-(Aa ao).1,<-Aa cf,zq]);obtain⟨cX,cY⟩:=Ca aG;have cZ:=λj=>aG.frozen j;have bk:=aG.set 0<|T U 0;have fA:=λj=>bk.frozen j;have aa:=bk.set 1<|T U 0;have ey:jE (jM (jM wr (jB g 0 jc)<|T U 0) (jB g 1 jc)<|T U 0) (jB g 0 jc)=Z (T U 0):=aa.cell 0;have s1:jE (jM (jM wr (jB g 0 jc)<|T U 0) (jB g 1 jc)<|T U 0) (jB g 1 jc)=Z (T U 0):=aa.cell 1;go_wp2_with fail;refine K8 (v:=jS #[X bt (Y tt) bu,jQ<|Z<|jB lb 0 jc,jL #[T U 0,T U 0]]) (by simp[results,results21,go_sem,ey,s1]) rfl (.inl ⟨B,lb,ns,ts,tt,ag,lv,_,Aa ex,(Aa ao).2,rfl,?_,?_,?_⟩)
 .exact(a5.set (jB g 0 jc) _ (Oa:g<B) (Oa:g≠lb)).set (jB g 1 jc) _ (Oa:g<B) (Oa:g≠lb)
 .rw[Aa K];exact(Aa dD).1
 show Below _ _ _;rw[Aa K];exact(ap.setCell (p:=(jB g 0 jc)) (Nat.le_refl g) _).setCell (p:=(jB g 1 jc)) (Nat.le_refl g) _
def MB(v v':jF):Prop:=(v=jT/\v'=jT)\/∃t u t' u',v=jJ t u/\v'=jJ t' u'
def rvX(D:N7)(x:Nd):Nd:=if x.op=5 then (match JE D x.text with|some d=>⟨if d.isLet then 7 else 6,d.num,⟨#[]⟩,[],[]⟩|none=>⟨6,0,⟨#[]⟩,[],[]⟩)else x
theorem AfP{l:M6}(h:Y l=0):l=[]:=by grind
def ZD(N:M7)(L:Nz)(r:CkR):Prop:=(Gn N L=jI/\r=.error (10,0))\/(Gn N L=jG/\∃Es:M8,Y Es=Y N/\(∀j,(h:j<Y Es)->Be N j Es[j])/\r=match Et Es (IS,[],[]) L with|.error f=>.error f|.ok st=>.ok (N.map<|rvX st.1,L,st.2.2))
theorem AfQ{a:M8}(h1:Y Es=Y N)(h2:Y a=Y N)(i:∀j,(h:j<Y Es)->Be N j Es[j])(l:∀j,(h:j<Y a)->Be N j a[j]):∀(L:Nz)(st:Cs),Et Es st L=Et a st L:=by
 have m:∀(k:Int),(BS Es k=V/\BS a k=V)\/∃e f,BS Es k=Z e/\BS a k=Z f/\e.pos=f.pos/\∀b,BH b e=BH b f/\Du b e=Du b f:=λk=>by
  unfold BS;by_cases d:k=-1
  .grind
  rw[K0 d,K0 d];by_cases n:k.toNat<Y N
  .have l1:k.toNat<Y Es:=Oa;have l2:k.toNat<Y a:=Oa;refine .inr ⟨_,_,zE l1,zE l2,?_,λb=>(i _ l1).dE (l _ l2) b⟩;grind[Ex.pos,Be.pos]
  grind
 have o:∀st s,Ez Es st s=Ez a st s:=λst s=>by
  have c:GU Es st s=GU a st s:=by simp only[GU,OR];grind
  have g:∀st,DA Es st s=DA a st s:=λst=>by simp only[DA,If];grind
  grind[Ez]
 intro L;induction L<;>grind[Et]
theorem ZD.cK{a q:CkR}(h:ZD N L a)(k:ZD N L q):a=q:=by
 obtain⟨h1,rfl⟩|⟨h1,Es,h2,h3,rfl⟩:=h
 .obtain⟨_,rfl⟩|⟨b,_⟩:=k;all_goals grind
 obtain⟨b,_⟩|⟨_,c,d,f,rfl⟩:=k;all_goals grind[AfQ]
theorem XO:∀{os:W0}{f:Nat}{K:M4},DS f os=.ok K->∀o∈os,∃t,o=.ok t
 |.error c::_,f,K,h,o,ho=>O6|.ok t::r,f,K,h,o,ho=>by
  obtain⟨a,h1,_⟩:=NV h;obtain e|e:=zS.1 ho
  .grind
  exact XO h1 o e
theorem Ack{c:Nat}{e:Ex}{a:N7}(h:AfN Es c e)(ht:BH a e=.ok t){j:Nat}(h1:c<=j)(h2:j<c+e.aL):∃t,FF Es a j=.ok t:=by have hs:=h a;rw[FL,ht]at hs;exact XO hs _<|zU.2 ⟨j,by rw[List.mem_range'_1];exact⟨h1,h2⟩,rfl⟩
theorem AfR{b:Cs}(h:GU Es st s=.ok b):st.1<+:b.1/\∀(a:Nat)(e:Ex),s.cond=a->Es[a]?=Z e->∃t,BH st.1 e=.ok t:=by
 obtain⟨d,nm,cd,f⟩:=s;refine⟨?_,λa e hc he=>?_⟩
 .simp only[GU,OR]at h;cases c:BS Es cd with|none=>grind|some e=>
    rw[c]at h;simp only[Ft]at h;split at h
    .grind[Vy]
    obtain⟨_,rfl⟩:=IB h;grind
 dsimp only at hc;subst hc;rw[QF he]at h;unfold Ft at h;split at h
 .grind[Vy]
 exact⟨_,(IB h).1⟩
theorem AdG{b:Cs}(h:DA Es st s=.ok b):b.1=st.1/\∀(a:Nat)(e:Ex),s.aD=a->Es[a]?=Z e->∃t,BH st.1 e=.ok t:=by
 obtain⟨f,nm,cd,c⟩:=s;refine⟨?_,λa e hc he=>?_⟩
 .simp only[DA,If]at h;cases d:BS Es c with|none=>grind|some e=>rw[d]at h;obtain⟨_,rfl⟩:=IB h;rfl
 dsimp only at hc;subst hc;rw[ID he]at h;exact⟨_,(IB h).1⟩
theorem JW{Es:M8}{L:Nz}(hs:Lw Es L):∀k,k<=Y L->∀{st:Cs},Et Es (IS,[],[]) (L.take k)=.ok st->∀j,j<Dv Es (L.take k)->∃b t,b<+:st.1/\FF Es b j=.ok t
 |0,_,st,h,j,hj=>by simp[Dv]at hj|k+1,hk,st,h,j,hj=>by
  have d:k<Y L:=Oa;obtain⟨s1,s2⟩:=hs k d;have ec:∀(A:Nz) (s:St),Dv Es (A++[s])=Dv Es A+(BK Es s.cond+BK Es s.aD):=λA s=>by simp[Dv]
  rw[zY d]at h hj;rw[Oc]at h;rw[ec]at hj;cases h0:Et Es (IS,[],[]) (L.take k)with|error f=>rw[h0]at h;cases h|ok st0=>rw[h0]at h;change (GU Es st0 L[k]).bind (λs1=>DA Es s1 L[k])=.ok st at h;cases h1:GU Es st0 L[k]with|error f=>rw[h1]at h;cases h|ok g=>
      rw[h1]at h;change DA Es g L[k]=.ok st at h;obtain⟨m,c1⟩:=AfR h1;obtain⟨n,c2⟩:=AdG h;by_cases i:j<Dv Es (L.take k)
      .obtain⟨b,t,o,ht⟩:=JW hs k Oa h0 j i;grind
      by_cases p:j<Dv Es (L.take k)+BK Es L[k].cond
      .obtain a|⟨c,e,a,he,hc,l⟩:=s1
       .grind[BK]
       obtain⟨t,ht⟩:=c1 c e a he;grind[Ack,FM]
      obtain a|⟨c,e,a,he,hc,l⟩:=s2
      .grind[BK]
      obtain⟨t,ht⟩:=c2 c e a he;grind[Ack,FM]
theorem Aax(h:Gn N L=jG)(b:Y Es=Y N)(a:∀j,(h:j<Y Es)->Be N j Es[j])(hc:Et Es (IS,[],[]) L=.ok st){j:Nat}{x:Nd}(hx:N[j]?=Z x)(i:x.op=5):(JE st.1 x.text).isSome:=by
 have g:j<Y N:=(zL.1 hx).1;obtain⟨c,t,⟨k,l⟩,ht⟩:=JW (Ug h b a) (Y L) NLN (by rw[zq];exact hc) j (by rw[zq,NY h b a];exact g);have f:j<Y Es:=Oa;rw[FF,zE f]at ht;have hi:=a j f;have e:Es[j]=.name j x.text:=by grind[Be.cI]
 rw[e]at ht;change cR (BH c<|.name j x.text)=.ok t at ht;rw[BH]at ht;cases hf:JE c x.text with|none=>rw[hf]at ht;cases ht|some d=>grind[KI]
noncomputable def Pb(ns:M6)(x:Nd):Nd:=if x.op=5 then (if AH x.text AE 0<0 then ⟨7,AH x.text ns 0,⟨#[]⟩,x.aE,x.aC⟩else ⟨6,AH x.text AE 0,⟨#[]⟩,x.aE,x.aC⟩)else x
theorem AkV(b:Y ns=Y ts){x:Nd}(hf:By x=jG)(hs:x.op=5->(JE (CM ns ts) x.text).isSome):Pb ns x=rvX (CM ns ts) x:=by
 unfold Pb rvX;by_cases a:x.op=5
 .rw[K1 a,K1 a];rw[By,zF,zO]at hf;obtain⟨h1,hf⟩:=hf;rw[K0 Oa,K0 Oa,K0 Oa,K0 Oa,K1 a]at hf;simp only[zF,zO]at hf;have c:=AfP hf.2;have d:x.aC=[]:=by simp_all[List.eq_nil_of_length_eq_zero,Ci]
  rw[c,d];have hs:=hs a;rw[CM,KI]at hs|-;obtain⟨e1,e2⟩|⟨j,_,e1,e2⟩:=PK x.text
  .rw[e1,K1 Ob,e2];rw[e2]at hs;obtain⟨_,e3⟩|⟨j,t,e3,_,e4⟩:=Qx x.text ns ts 0 b;all_goals grind
  grind
 grind
set_option maxHeartbeats 800000
theorem SM(N:M7)(L:Nz):Dy N L=jG↔∃S,CD (N.map Nd.aC) (Y N) [] 0=Z S/\Al S=L.flatMap Aj:=by rw[Dy];grind
theorem AeO(N:M7)(L:Nz):Gn N L=jG↔(Y N<=4000/\1<=Y L/\Y L<=600)/\N.all By=jG/\KF N L:=by rw[<-SJ,AbH,<-SM,Gn];grind
theorem AbK{n m:Nat}{e:Ending}(h:Ee By n m N L e)(a:Y N=n)(hm:Y L=m):e=jN (.bool<|Gn N L):=by obtain⟨b,rfl,c⟩:=h;grind[AeO,Gn]
theorem Oe(a b:M3)(n c m d:Nat)(N:M7)(L:Nz)(w:jD)(h1:GN w a n c N)(h2:Lr w b m d L):Calls jZ 136 #[jL #[X a n c,X b m d]] w λe w'=>e=jN (.bool<|Gn N L)/\Ak w w':=by have f:=Ar w<|jC #[X a n c,X b m d] 45;have g:=Ab h1.len;have h:=Ab h2.len;go_enter func136,ntmps136;go_wp2_with (go_at_call 20;refine(Zs _ _ _ _ _ _ N L _ (h1.below f NLN)<|h2.below f NLN).mono ?_;rintro e w2 ⟨he,i⟩;have j:=AbK he (Aa g)<|Aa h;subst j;clear he);go_ret;exact⟨rfl,f.trans<|i.mono f.size⟩
structure Gh(N:M7)(L:Nz):Prop where
 n:Y N<=4000
 m0:1<=Y L
 m:Y L<=600
 bX:∀x∈N,AR x=jG
 aC:∀(i:Nat)(x:Nd),N[i]?=Z x->∀k∈x.aC,0<=k/\k<(i:Int)cQ:∀s∈L,(s.cond=-1\/(0<=s.cond/\s.cond<Y N))/\(s.aD=-1\/(0<=s.aD/\s.aD<Y N))stm:∀s∈L,(s.aF=1/\s.name.size<=32/\0<=s.cond/\s.aD=-1)\/(s.aF=2/\0<=s.cond)\/(s.aF=3/\s.cond=-1)aL:∀(Es:M8),Y Es=Y N->(∀j,(h:j<Y Es)->Be N j Es[j])->∀s∈L,∀k,(k=s.cond\/k=s.aD)->0<=k->∀e,Es[k.toNat]?=Z e->e.aL<=4000
theorem BR(h:Bt N L=jG):Gh N L:=by
 simp only[Bt,zF,zO]at h;obtain⟨⟨⟨h1,⟨h2,h3⟩,h4⟩,h5⟩,h6⟩:=h;obtain⟨S,t,ht⟩:∃S,CD (N.map Nd.aC) (Y N) [] 0=Z S/\Al S=L.flatMap Aj:=by rw[Dy]at h6;cases hq:CD (N.map Nd.aC) (Y N) [] 0 with|none=>rw[hq]at h6;cases h6|some S=>rw[hq]at h6;exact⟨S,rfl,M0 h6⟩
 obtain⟨d,_⟩:=De (Y N) (.nil 0) (λp a=>(by cases a)) t;rw[zT]at d;have n:∀s∈L,∀k∈Aj s,∃p∈S,k=(p.1:Int):=λs hs k b=>by
  have:k∈Al S:=by rw[ht];exact List.mem_flatMap.2 ⟨s,hs,b⟩
  rw[Al]at this;obtain⟨p,a,rfl⟩:=zU.1 this;exact⟨p,a,rfl⟩
 have f:∀s∈L,∀k∈Aj s,0<=k/\k<Y N:=λs hs k b=>by obtain⟨p,a,rfl⟩:=n s hs k b;have:=(d.lt p a).2;omega
 have ac:∀s∈L,s.aF≠3->s.cond∈Aj s:=λs _ h=>by rw[Aj,K1 h];simp
 have o:∀s∈L,s.aD≠-1->s.aD∈Aj s:=λs _ h=>by rw[Aj,K1 h];simp
 have u:=QU h4;have stm:∀s∈L,(s.aF=1/\s.name.size<=32/\0<=s.cond/\s.aD=-1)\/(s.aF=2/\0<=s.cond)\/(s.aF=3/\s.cond=-1):=λs hs=>by
  have h:=u s hs;rw[DY]at h;by_cases l:s.aF=1
  .rw[K1 l]at h;simp only[zF,zO]at h;exact .inl ⟨l,J3 h.1,(f s hs _<|ac s hs Oa).1,h.2⟩
  rw[K0 l]at h;by_cases r:s.aF=2
  .exact .inr (.inl ⟨r,(f s hs _<|ac s hs Oa).1⟩)
  rw[K0 r]at h;by_cases c:s.aF=3
  .rw[K1 c]at h;simp only[zF,zO]at h;exact .inr<|.inr ⟨c,h.2⟩
  rw[K0 c]at h;cases h
 refine⟨h1,h2,h3,λx hx=>zo.1 h5 x hx,λi x hx k b=>?_,λs hs=>⟨?_,?_⟩,stm,λEs v w s hs k b h0 e he=>?_⟩
 .have hi:i<Y N:=(zL.1 hx).1;obtain⟨ks,e1,e2⟩:=Pg d i (zH _) hi;rw[zi,hx]at e1;have e3:x.aC=Al ks:=Mk e1;rw[e3,Al]at b;obtain⟨p,a,rfl⟩:=zU.1 b;have:=e2 p a;omega
 .by_cases c:s.aF=3
  .obtain h|h|h:=stm s hs
   .omega
   .omega
   exact .inl h.2
  exact .inr (f s hs _<|ac s hs c)
 .by_cases g:s.aD=-1
  .exact .inl g
  exact .inr (f s hs _<|o s hs g)
 have y:k∈Aj s:=by
  obtain rfl|rfl:=b
  .apply ac s hs;intro c;obtain h|h|h:=stm s hs<;>omega
  exact o s hs Oa
 obtain⟨p,a,rfl⟩:=n s hs k y;have m:∀q∈S,q.1<Y Es:=λq hq=>by rw[v];exact(d.lt q hq).2
 have z:=IW d (S.attach.map λq=>Es[q.1.1]'(m q.1 q.2)) Oz (λj h1 h2=>by have:=w (S[j]).1<|m _<|zI h1;simpa using this);rw[zP]at he;have hm:e∈S.attach.map (λq=>Es[q.1.1]'(m q.1 q.2)):=by refine zU.2 ⟨⟨p,a⟩,List.mem_attach _ _,?_⟩;exact(zL.1 he).2
 have:=AfW hm;omega
theorem Vo{i:Nat}{x:Nd}{nn cn:Nat}(hx:N[i]?=Z x)(hf:AR x=jG)(b:∀k∈x.aC,0<=k/\k<i)(c:Y Es=i)(d:∀j,(h:j<Y Es)->Be N j Es[j])(A:∀e∈Es,e.bA):∃e,MkT Es i x an nn cn e/\Be N i e/\e.bA:=by
 rw[AR,zF,zO]at hf;obtain⟨D,hf⟩:=hf;have u:∀n:Nat,Ci x.op=n->Y x.aC=n:=λn e=>Oa;have q:(1<=x.op/\x.op<=7)->x.aC=[]:=λh=>z4 (u 0<|by rw[Ci,K1 h];rfl);have r:∀{m:Nat}{e:Ex},Es[m]?=Z e->e.bA:=λh=>A _<|zX h;by_cases h1:x.op=1
 .exact⟨_,.int h1,.int hx h1<|q Oa,trivial⟩
 by_cases h2:x.op=2
 .exact⟨_,.text h2,.text hx h2<|q Oa,trivial⟩
 by_cases h3:x.op=3
 .exact⟨_,.bool h3,.bool hx h3<|q Oa,trivial⟩
 by_cases h4:x.op=4
 .exact⟨_,.set h4,.set hx h4 (q Oa) an nn cn,trivial⟩
 by_cases h5:x.op=5
 .grind[Px]
 by_cases h6:x.op=6
 .rw[Px,K0 h5,K1 h6]at hf;simp only[zF,zO]at hf;exact⟨_,.attr h6,.attr hx h6<|q Oa,hf.1.1⟩
 by_cases h7:x.op=7
 .exact⟨_,.lett h7,.lett hx h7<|q Oa,trivial⟩
 by_cases h8:8<=x.op/\x.op<=10
 .have s:=u 1 (by rw[Ci,K0 Oa,K1 h8];rfl);match a:x.aC,s with|[k],_=>obtain⟨m,e,rfl,hm,g1,g2⟩:=Eh c d<|b k Hm;exact⟨_,.un h8 a g1,.un hx h8 a hm g2,h8,r g1⟩
 by_cases h11:11<=x.op/\x.op<=26
 .have s:=u 2 (by rw[Ci,K0 Oa,K0 h8,K1 h11];rfl);match a:x.aC,s with|[k,l],_=>obtain⟨m,e,rfl,hm,g1,g2⟩:=Eh c d<|b k Hm;obtain⟨n,f,rfl,v,t,w⟩:=Eh c d<|b l Hm;exact⟨_,.bin h11 a g1 t,.bin hx h11 a ⟨hm,v⟩ g2 w,h11,r g1,r t⟩
 by_cases y:x.op=27
 .have s:=u 3 (by rw[Ci,K0 Oa,K0 h8,K0 h11,K1 y];rfl);match a:x.aC,s with|[k,l,o],_=>obtain⟨m,e,rfl,hm,g1,g2⟩:=Eh c d<|b k Hm;obtain⟨n,f,rfl,v,t,w⟩:=Eh c d<|b l Hm;obtain⟨p,g,rfl,B,z,C⟩:=Eh c d<|b o Hm;exact⟨_,.ite y a g1 t z,.ite hx y a ⟨hm,v,B⟩ g2 w C,r g1,r t,r z⟩
 grind[Ci]
theorem XT{a:jD}(h:Gh N L):AbZ a N Ex.bA:=λk x an nn cn Es hx b c hf hS=>Vo hx (h.bX _<|zX hx) (h.aC k _ hx) b c hf
theorem Aft(h:Gh N L)(b:Y Es=Y N)(c:∀j,(h:j<Y Es)->Be N j Es[j])(hf:∀e∈Es,e.bA):∀s∈L,okP Es s.cond/\okP Es s.aD:=λs hs=>by
 obtain⟨d,r2⟩:=h.cQ s hs;have get:∀k,(k=s.cond\/k=s.aD)->0<=k/\k<Y N->okP Es k:=λk f a=>
  .inr ⟨k.toNat,Es[k.toNat]' Oa,Oa,zE _,hf _<|zI _,h.aL Es b c s hs k f a.1 _<|zE Oa⟩;exact⟨d.elim .inl λa=>get _ (.inl rfl) a,r2.elim .inl λa=>get _ (.inr rfl) a⟩
theorem AiQ(h:Bt N L=jG)(f:Y Es=Y N)(i:∀j,(h:j<Y Es)->Be N j Es[j]):Dv Es L<=4000:=by
 have c:=BR h;have t:=c.n;simp only[Bt,zF,zO]at h;obtain⟨⟨⟨h1,⟨h2,h3⟩,h4⟩,h5⟩,h6⟩:=h;obtain⟨S,l,ht⟩:∃S,CD (N.map Nd.aC) (Y N) [] 0=Z S/\Al S=L.flatMap Aj:=by rw[Dy]at h6;cases hq:CD (N.map Nd.aC) (Y N) [] 0 with|none=>rw[hq]at h6;cases h6|some S=>rw[hq]at h6;exact⟨S,rfl,M0 h6⟩
 obtain⟨b,_⟩:=De (Y N) (.nil 0) (λp m=>(by cases m)) l;rw[zT]at b;have e1:∀s∈L,BK Es s.cond+BK Es s.aD=((Aj s).map<|BK Es).sum:=λs hs=>by
  have o:BK Es s.aD=((if s.aD≠-1 then[s.aD]else[]).map<|BK Es).sum:=by
   by_cases g:s.aD=-1
   .rw[K0 λk=>k g,g];rfl
   rw[K1 g];simp
  rw[Aj,zN,List.sum_append,<-o];congr 1;by_cases d:s.aF=3
  .rw[K0 λk=>k d];obtain q|q|q:=c.stm s hs
   .omega
   .omega
   rw[q.2];rfl
  rw[K1 d];simp
 rw[JR Es L e1,<-ht];have a:∀q∈S,q.1<Y Es:=λq hq=>by rw[f];exact(b.lt q hq).2
 have u:=IW b (S.attach.map λq=>Es[q.1.1]'(a q.1 q.2)) Oz (λj h1 h2=>by have:=i (S[j]).1<|a _<|zI h1;simpa using this);have e2:(Al S).map (BK Es)=(S.attach.map λq=>Es[q.1.1]'(a q.1 q.2)).map Ex.aL:=by
  apply List.ext_getElem
  .simp[Al]
  intro j h1 h2;have r:j<Y S:=by simpa[Al]using h1
  have hq:=a S[j]<|zI r;simp only[Al,List.getElem_map,List.getElem_attach];exact FM rfl (zE hq)
 rw[e2];have e3:((S.attach.map λq=>Es[q.1.1]'(a q.1 q.2)).map Ex.aL).sum=QV (S.attach.map λq=>Es[q.1.1]'(a q.1 q.2)):=rfl;rw[e3];omega
def toO:Rs->N8|.ok t=>Z t|.error _=>V
theorem PY(f:Int×Int)(o:N8):toO (ofO f o)=o:=by cases o<;>rfl
theorem Wt(a:Rs):(toO a).getD 0=gX a:=by cases a<;>rfl
theorem Ah3(h5:∀x∈N,x.op≠5)(q:Y ns=Y ts){i:Nat}{e:Ex}(t:Be N i e):An ts e=toO (BH (CM ns ts) e)/\Cv ts e=Du (CM ns ts) e:=by
 induction t with|int|text|bool|attr|set=>exact⟨rfl,rfl⟩|name h b d=>exact K4 b<|h5 _<|zX h|@lett i x h b d=>
  have a:An ts (.lett i x.num)=toO (BH (CM ns ts)<|.lett i x.num):=by rw[An,BH,AfH q,PY]
  exact⟨a,by rw[Cv,Du,a,Wt]<;>(intros;contradiction)⟩|@un i k x e h b d hi t r=>
  obtain⟨c,i2⟩:=r;have a:An ts (.un i x.op e)=toO (BH (CM ns ts)<|.un i x.op e):=by rw[An,BH,c];cases BH (CM ns ts) e with|error f=>rfl|ok u=>exact(PY _ _).symm
  exact⟨a,by rw[Cv,Du,i2,a,Wt]⟩|@bin i k l x e f h b d hi t u j n=>
  obtain⟨c,i2⟩:=j;obtain⟨o,p⟩:=n;have a:An ts (.bin i x.op e f)=toO (BH (CM ns ts)<|.bin i x.op e f):=by rw[An,BH,c,o];cases BH (CM ns ts) e with|error f=>rfl|ok u=>cases BH (CM ns ts) f with|error f=>rfl|ok v=>exact(PY _ _).symm
  exact⟨a,by rw[Cv,Du,i2,p,a,Wt]⟩|@ite i k l m x e f g h b d hi t u v j n s=>
  obtain⟨c,i2⟩:=j;obtain⟨o,p⟩:=n;obtain⟨w,y⟩:=s;have a:An ts (.ite i e f g)=toO (BH (CM ns ts)<|.ite i e f g):=by rw[An,BH,c,o,w];cases BH (CM ns ts) e with|error f=>rfl|ok u=>cases BH (CM ns ts) f with|error f=>rfl|ok v=>cases BH (CM ns ts) g with|error f=>rfl|ok z=>exact(PY _ _).symm
  exact⟨a,by rw[Cv,Du,i2,p,y,a,Wt]⟩
theorem Ag3(h5:∀x∈N,x.op≠5){i:Nat}{e f:Ex}(t:Be N i e)(u:Be N i f)(ts:M4):An ts e=An ts f/\Cv ts e=Cv ts f:=by have l:Y (ts.map λ_=>jX)=Y ts:=Oz;have a:=Ah3 h5 l t;have b:=Ah3 h5 l u;have c:=t.dE u<|CM (ts.map λ_=>jX) ts;exact⟨by rw[a.1,b.1,c.1],by rw[a.2,b.2,c.2]⟩
theorem NK(h:Bt N L=jG):∃S,As (N.map Nd.aC) 0 S (Y N)/\Al S=L.flatMap Aj:=by
 simp only[Bt,zF,zO]at h;obtain⟨⟨⟨h1,⟨h2,h3⟩,h4⟩,h5⟩,h6⟩:=h;obtain⟨S,b,ht⟩:∃S,CD (N.map Nd.aC) (Y N) [] 0=Z S/\Al S=L.flatMap Aj:=by rw[Dy]at h6;cases hq:CD (N.map Nd.aC) (Y N) [] 0 with|none=>rw[hq]at h6;cases h6|some S=>rw[hq]at h6;exact⟨S,rfl,M0 h6⟩
 obtain⟨a,_⟩:=De (Y N) (.nil 0) (λp c=>(by cases c)) b;rw[zT]at a;exact⟨S,a,ht⟩
theorem Gh.noC(a:Gh N L):noC L:=λs hs=>by
 obtain q|q|q:=a.stm s hs
 .right;omega
 .right;omega
 exact .inl q.2
theorem Kk(h:Bt N L=jG)(a:Y Es=Y N)(b:∀j,(h:j<Y Es)->Be N j Es[j]):Dv Es L=Y N:=by obtain⟨S,c,ht⟩:=NK h;exact XI (BR h).noC c ht a b
theorem Zu(h:Bt N L=jG)(a:Y Es=Y N)(b:∀j,(h:j<Y Es)->Be N j Es[j]):Lw Es L:=by obtain⟨S,c,ht⟩:=NK h;exact QD (BR h).noC c ht a b
theorem no5(h:Bt N L=jG):∀x∈N,x.op≠5:=λx hx e=>by have:=(BR h).bX x hx;simp[AR,Px,e]at this
theorem Ac4{st:F5}{ys:M4}(h:nm ∉ st.1):SO 1 nm st (Z t) ys=Z (st.1++[nm],st.2.1++[t],st.2.2++ys):=by unfold SO;rw[K1 rfl];exact K0 h
theorem AeR{st:F5}{ys:M4}(h:nm∈st.1):SO 1 nm st (Z t) ys=V:=by unfold SO;rw[K1 rfl];exact K1 h
theorem YQ{a:Int}{st:F5}{ys:M4}(b:a≠1):SO a nm st (Z 1) ys=Z (st.1,st.2.1,st.2.2++ys):=by unfold SO;rw[K0 b];exact K1 rfl
theorem AeS{a:Int}{st:F5}{t:Int}{ys:M4}(b:a≠1)(ht:t≠1):SO a nm st (Z t) ys=V:=by unfold SO;rw[K0 b];exact K0 ht
theorem Ah4(a:Int)(nm:M1)(st:F5)(ys:M4):SO a nm st V ys=V:=by unfold SO;split<;>rfl
theorem AeT{st:F5}{b:Int}{c:Int}{e:Ex}(he:Es[a]?=Z e):AK Es st ⟨b,nm,a,c⟩=SO b nm st (An st.2.1 e) (Cv st.2.1 e):=by rw[AK,K0 (Oa:¬ (a:Int)=-1)];show(match Es[(a:Int).toNat]?with|some e=>_|none=>_)=_;rw[zP,he]
theorem AbL{st:F5}{b:Int}{e:Ex}(he:Es[a]?=Z e):AU Es st ⟨b,nm,i,a⟩=ckG st (An st.2.1 e) (Cv st.2.1 e):=by rw[AU,K0 (Oa:¬ (a:Int)=-1)];show(match Es[(a:Int).toNat]?with|some e=>_|none=>_)=_;rw[zP,he]
def RlO(o:M2 F5)(r:Except (Int×Int) Cs):Prop:=(∃ns ts tt,Y ns=Y ts/\o=Z (AE++ns,ts,tt)/\r=.ok (CM ns ts,ts,tt))\/(o=V/\∃f,r=.error f)
def Alk(Es:M8):Prop:=∀(mm:Nat) (e:Ex),Es[mm]?=Z e->∀(ns:M6) (ts:M4),Y ns=Y ts->An ts e=toO (BH (CM ns ts) e)/\Cv ts e=Du (CM ns ts) e
theorem Ah5(T:Alk Es)(a:Y ns=Y ts){k:Nat}(hs:GT Es k s.cond):RlO (AK Es (AE++ns,ts,tt) s)<|GU Es (CM ns ts,ts,tt) s:=by
 obtain⟨c,nm,cd,i⟩:=s;obtain hc|⟨d,e,hc,he,_⟩:=hs<;>dsimp only at hc<;>subst hc
 .exact .inl ⟨ns,ts,tt,a,K1 rfl,rfl⟩
 obtain⟨g,i2⟩:=T d e he ns ts a;rw[AeT he,QF he];dsimp only;rw[g,i2];cases BH (CM ns ts) e with|error f=>exact .inr ⟨Ah4 _ _ _ _,f,Acb⟩|ok t=>
  by_cases b:c=1
  .subst b;by_cases hm:nm∈AE++ns
   .exact .inr ⟨AeR hm,_,NZ<|(zJ.1 hm).elim Acd<|Ace a⟩
   exact .inl ⟨ns++[nm],ts++[t],_,by simp[a],(Ac4 hm).trans<|by rw[zd],by rw[Aca<|Acf a (λh=>hm<|z3 _ h) λh=>hm<|yC _ h,QG a]⟩
  by_cases ht:t=1
  .subst ht;exact .inl ⟨ns,ts,_,a,YQ b,XK b⟩
  exact .inr ⟨AeS b ht,_,Uh b ht⟩
theorem AeU(T:Alk Es)(a:Y ns=Y ts){k:Nat}(hs:GT Es k s.aD):RlO (AU Es (AE++ns,ts,tt) s)<|DA Es (CM ns ts,ts,tt) s:=by
 obtain⟨d,nm,cd,g⟩:=s;obtain hc|⟨b,e,hc,he,_⟩:=hs<;>dsimp only at hc<;>subst hc
 .exact .inl ⟨ns,ts,tt,a,K1 rfl,OV⟩
 obtain⟨c,i2⟩:=T b e he ns ts a;rw[AbL he,ID he];dsimp only;rw[c,i2];cases BH (CM ns ts) e with|error f=>exact .inr ⟨rfl,f,rfl⟩|ok t=>
  by_cases ht:t=4
  .subst ht;exact .inl ⟨ns,ts,_,a,rfl,Ui⟩
  exact .inr ⟨K0 ht,_,K0 ht⟩
theorem Add{Es:M8}(T:Alk Es):∀(L:Nz),(∀s∈L,∃k a,GT Es k s.cond/\GT Es a s.aD)->∀{ns:M6}{ts tt:M4},Y ns=Y ts->RlO (AC Es (AE++ns,ts,tt) L) (Et Es (CM ns ts,ts,tt) L)
 |[],_,ns,ts,tt,hl=>.inl ⟨ns,ts,tt,hl,rfl,rfl⟩|s::L,h,ns,ts,tt,hl=>by
  obtain⟨k,a,hc,hg⟩:=h s (zR ..);rw[AC,Et,Dq,Ez];obtain⟨c,d,b,h1,e1,e2⟩|⟨e1,f,e2⟩:=Ah5 T (tt:=tt) hl hc
  .rw[e1,e2];show RlO ((AU Es _ s).bind _)<|(DA Es _ s).bind _;obtain⟨g,i,j,h2,g1,g2⟩|⟨g1,f,g2⟩:=AeU T (tt:=b) h1 hg
   .rw[g1,g2];exact Add T L (λs hs=>h s<|zV _ hs) h2
   rw[g1,g2];exact .inr ⟨rfl,f,rfl⟩
  rw[e1,e2];exact .inr ⟨rfl,f,rfl⟩
theorem Zv(h5:∀x∈N,x.op≠5)(a:∀j,(h:j<Y Es)->Be N j Es[j])(hs:Lw Es L):RlO (AC Es (AE,[],[]) L)<|Et Es (IS,[],[]) L:=by have:=Add (Es:=Es) (λb e he ns ts c=>by obtain⟨h,rfl⟩:=zL.1 he;exact Ah3 h5 c<|a b h) L (λs h=>by obtain⟨k,d,rfl⟩:=zk h;exact⟨_,_,hs k d⟩) (ns:=[]) (ts:=[]) (tt:=[]) rfl;rwa[List.append_nil,Acg]at this
def AmZ(o:M2 F5)(w:jD)(r:Ending)(w':jD):Prop:=(∃ (B lb:Nat) (ns:M6) (ts tt:M4) (nv lv tv:jF),o=Z (AE++ns,ts,tt)/\r=jN (jS #[tv,jQ<|Z<|jB lb 0 V,jL #[T U 0,T U 0]])/\Lm B lb ns ts tt nv lv tv w'/\R (Q w)<=lb/\Ak w w')\/(o=V/\(∃code a,r=jN (jS #[X V 0 0,jQ V,jL #[T U code,T U a]])/\code≠0)/\Ak w w')
theorem Zw(a b:M3)(n c m d:Nat)(N:M7)(L:Nz)(l:∀x∈N,Bu x=jG)(g:jD)(q:GN g a n c N)(r:Lr g b m d L)(Es:M8)(s:Y Es=n)(o:∀j,(h:j<Y Es)->Be N j Es[j])(t:n<=4000)(hm:m<=600)(p:Lw Es L)(u:Dv Es L<=4000):Calls jZ 21 #[X a n c,X b m d] g (AmZ (AC Es (AE,[],[]) L) g):=by
 refine(MH a b n c m d N L (λx hx=>fdU<|l x hx) g q r Es s o t hm p u).mono ?_;have R:=Zv (λx hx e=>by have:=l x hx;simp[Bu,e]at this) o p;rintro E w' (⟨B,lb,ns,ts,tt,v,lv,w,i,y,k,z,h1,h2⟩|⟨f,i,k,hf,A⟩)
 .obtain⟨C,ts',F,D,e1,e2⟩|⟨_,f,e2⟩:=R
  .rw[i]at e2;simp only[Except.ok.injEq,Prod.mk.injEq]at e2;obtain⟨e3,rfl,rfl⟩:=e2;have e4:=congrArg (List.map Dc.name)<|List.append_cancel_left e3;rw[(ME ns ts 0 y).2,(ME C ts 0 D).2]at e4;subst e4;exact .inl ⟨B,lb,ns,ts,tt,v,lv,w,e1,k,z,h1,h2⟩
  rw[i]at e2;cases e2
 obtain⟨_,_,_,_,_,e2⟩|⟨e1,_⟩:=R
 .rw[i]at e2;cases e2
 exact .inr ⟨e1,⟨f.1,f.2,k,hf⟩,A⟩
theorem Ab4(h:Bt N L=jG)(c:Y Es=Y N)(b:∀j,(h:j<Y Es)->Be N j Es[j]){st:F5}(hc:AC Es (AE,[],[]) L=Z st):N.all Bu=jG:=by
 have f:=BR h;have sp:=Zu h c b;have R:=Zv (no5 h) b sp;rw[hc]at R;rw[zo];intro x hx;refine(JX x).2 ⟨f.bX x hx,λh7=>?_⟩;obtain⟨j,g,rfl⟩:=zk hx;obtain⟨ns,ts,tt,l,_,e2⟩|⟨e,_⟩:=R
 .have hm:=(JV e2).2.1;obtain⟨i,t,⟨p,n⟩,ht⟩:=JW sp (Y L) NLN (by rw[zq];exact e2) j (by rw[zq,Kk h c b];exact g);have k:j<Y Es:=Oa;rw[FF,zE k]at ht;have u:=b j k;obtain⟨o,a⟩|⟨o,a⟩|⟨o,a⟩|⟨o,a⟩|⟨o,a⟩|⟨o,a⟩|⟨o,a⟩|⟨o,a⟩|⟨o,a⟩|⟨o,a⟩:=u.cI (zE g)<;>first|omega|skip
  rw[a]at ht;cases hq:ltT i N[j].num with|none=>change cR (ofO (7,_)<|ltT i N[j].num)=.ok t at ht;rw[hq]at ht;cases ht|some y=>
   unfold ltT at hq;split at hq
   .obtain⟨d,hd,_⟩:=Z6.1 hq;have l1:=(zL.1 hd).1;have l2:=congrArg Y n;have q:Y (Ww 0 ns ts)=Y ts:=by have:=congrArg Y (ME ns ts 0 l).1;rwa[zZ]at this
    have r:Y (CM ns ts)=6+Y (Ww 0 ns ts):=by rw[CM,zC];rfl
    have:=f.m;rw[List.length_drop]at l1;rw[zC]at l2;simp only[List.length_nil]at hm;dsimp only at l2;omega
   cases hq
 cases e
theorem KH{N:M7}(h5:∀x∈N,x.op≠5){Es d:M8}(h1:Y Es=Y N)(h2:Y d=Y N)(l:∀j,(h:j<Y Es)->Be N j Es[j])(m:∀j,(h:j<Y d)->Be N j d[j]):∀(L:Nz)(st:F5),AC Es st L=AC d st L
 |[],st=>rfl|s::L,st=>by
  have n:∀k:Nat,(Es[k]?=V/\d[k]?=V)\/∃e f,Es[k]?=Z e/\d[k]?=Z f/\∀ts,An ts e=An ts f/\Cv ts e=Cv ts f:=λk=>by
   by_cases o:k<Y N
   .exact .inr ⟨Es[k],d[k],zE _,zE _,Ag3 h5 (l k Oa)<|m k Oa⟩
   exact .inl ⟨zw Oa,zw Oa⟩
  have c:AK Es st s=AK d st s:=by
   rw[AK,AK];obtain⟨a,b⟩|⟨e,f,a,b,k⟩:=n s.cond.toNat
   .rw[a,b]
   rw[a,b];dsimp only;rw[(k st.2.1).1,(k st.2.1).2]
  have g:∀i,AU Es i s=AU d i s:=λi=>by
   rw[AU,AU];obtain⟨a,b⟩|⟨e,f,a,b,k⟩:=n s.aD.toNat
   .rw[a,b]
   rw[a,b];dsimp only;rw[(k i.2.1).1,(k i.2.1).2]
  rw[AC,AC,Dq,Dq,c];simp only[g,KH h5 h1 h2 l m L]
set_option maxHeartbeats 1600000
def KW(N:M7)(L:Nz)(T:M4)(b:Bool):Prop:=(Bt N L=jI/\b=jI)\/(Bt N L=jG/\∃Es:M8,Y Es=Y N/\(∀j,(h:j<Y Es)->Be N j Es[j])/\b=(match AC Es (AE,[],[]) L with|none=>jI|some st=>decide (st.2.2=T)))
theorem GP(a b e:M3)(n c m d k f:Nat)(w:jD):Calls jZ 16 #[jL #[X a n c,X b m d,X e k f]] w λi w'=>i=jN (jL #[X a n c,X b m d])/\Ak w w':=by have g:=Ar w<|Lu a n c b m d e k f;have j:=g.alloc g.size<|jC #[X a n c,X b m d] 45;have h:=Ah.new (jK w<|Lu a n c b m d e k f) #[X a n c,X b m d] 45;simp only[K6]at h;obtain⟨l,o⟩:=Ca h;go_enter func16,ntmps16;go_wp2_with fail;refine K8 (v:=jL #[X a n c,X b m d]) (by simp[results,results16,go_sem,l,o]) rfl ?_;exact⟨rfl,j⟩
theorem XS{st:F5}(h:AC Es (AE,[],[]) L=Z st)(hc:Dv Es L<=4000):Y st.2.2<=4000:=by have:=(KJ h).1;simp at this;omega
theorem Gi(a b e:M3)(n c m d k f:Nat)(N:M7)(L:Nz)(T:M4)(aT af ag:jH)(w:jD)(h1:GN w a n c N)(h2:Lr w b m d L)(h3:BN w e k f T)(ah:Mu w)(ai:OQ w aT)(o:SP w af ag):Calls jZ 7 #[jL #[X a n c,X b m d,X e k f]] w λh w'=>(∃v,h=jN (.bool v)/\KW N L T v)/\Ak w w':=by have aj:=Ab h1.len;have ak:=Ab h2.len;have al:=Ah.new w #[X a n c,X b m d,X e k f] 27;have i:=Ar w<|Lu a n c b m d e k f;have ao:=h1.below i NLN;have ap:=h2.below i NLN;have aq:=h3.below i NLN;have ar:=ah.below i NLN;have au:=ai.below i NLN;have av:=o.below i NLN;clear h1 h2 h3 ah ai o;go_enter func7,ntmps7;go_wp2_with fail;refine(GP _ _ _ _ _ _ _ _ _ _).mono ?_;rintro h bn ⟨rfl,j⟩;dsimp only;have I:=ao.below j NLN;have J:=ap.below j NLN;have aw:=aq.below j NLN;have ax:=ar.below j NLN;have ay:=au.below j NLN;have az:=av.below j NLN;have aA:=al.aB j NLN;have K:=i.trans<|j.mono i.size;clear ao ap aq ar au av al i j;go_wp2_with fail;refine(Py _ _ _ _ _ _ N L _ I J ax).mono ?_;rintro h w2 ⟨rfl,l⟩;dsimp only;have aW:=I.below l NLN;have aX:=J.below l NLN;have aY:=aw.below l NLN;have aC:=ay.below l NLN;have aZ:=az.below l NLN;have O:=aA.aB l NLN;have q:=K.trans<|l.mono K.size;clear I J aw ax ay az aA K l;cases r:Bt N L with|false=>have s:=Ab r;clear r;go_wp2;go_ret;exact⟨⟨_,rfl,.inl ⟨Aa s,rfl⟩⟩,q⟩|true=>
  have s:=Ab r;have x:=Ab<|BR r;clear r;go_wp2_with fail;refine(JY aT _ aC).mono ?_;rintro h a0 ⟨y,P,rfl,a1,aD,aE,B⟩;dsimp only;have aF:=aX.below B NLN;have S:=O.aB B NLN;have aG:Cm (R<|Q w2) y P AE [] [] (X V 0 0) (X V 0 0) a0:=⟨aD,aE,a1⟩;obtain⟨a2,a3,a4,_⟩:=BC S;have z2:=O.lt;clear O;go_wp2_with fail;refine(GP _ _ _ _ _ _ _ _ _ _).mono ?_;rintro h a5 ⟨rfl,D⟩;dsimp only;have aH:=aF.below D NLN;have W:=B.trans<|D.mono B.size;have E:=aG.below D;have aI:=S.aB D NLN;have aJ:=Ab (EY a b n c m d N L w2 a5 aW W aH Ex.bA (XT<|Aa x)<|by rw[<-Aa aj];exact(Aa x).cQ);clear a2 a3 a4 S aF aD aE;go_wp2_with fail;refine(Aa aJ).mono ?_;rintro h a6 ⟨⟨v,Es,rfl,aK,o,hf,aa⟩,F⟩;dsimp only;have G:=Ab (show Y Es=Y N by rw[aK,Aa aj]);have aL:=Ab o;have a7:=Ab<|Aft (Aa x) (Aa G) o hf;have aM:=Ab<|AiQ (Aa s) (Aa G) o;have aN:=Ab (show 1<=m/\m<=600 by rw[<-Aa ak];exact⟨(Aa x).m0,(Aa x).m⟩);obtain⟨bo,a8,rfl,hx⟩:=Af aa;obtain⟨g,rfl,hg,aO⟩:=hx<|G7<|Aa aN;obtain⟨a9,aQ,bp⟩:=JO aa;have g1:g≠y:=G7 E.C.row.lt;have g2:g≠P:=G7 E.M.lt;have ba:=E.below F;have z:=W.trans<|F.mono W.size;have bb:=aI.aB F NLN;have bc:=Ab (QO (R<|Q w2) y P (AE,[],[]) (X V 0 0) (X V 0 0) w2 aT af ag aC aZ NLN Es L m g a8 a9 a6 (Aa ak) (λt ht=>by cases ht) (by have:=Aa aN;simp;omega) (Aa a7) (by have:=Aa aM;simp;omega) z ba aQ (λh u hu=>by rw[<-aQ.cell];exact aO h u hu) g1 g2 (by simp[jO])<|by simp[jO]);clear aK o hf hx aO aJ aa F aG E aH aI;go_wp2_with fail;refine(Aa bc).mono ?_;rintro h ab (⟨ns,ts,tt,lv,bq,p,rfl,ac,H⟩|⟨p,⟨br,bs,rfl⟩,bd⟩)
  .have ad:=Ab p;have ht:=XS p<|Aa aM;clear p;dsimp only;have bf:=aY.below (z.trans H.aP) NLN;have bg:=bb.below H.aP z2;obtain⟨aR,aS,rfl,_⟩:=Af ac.C.types;have bh:=Dd ac.C.types (by have:Y tt<=4000:=ht;omega);have bi:=ac.C.row;have A:Ak ab<|jV ab:=BRN.drew;have ae:∀w',Ak ab w'->jE w' (jB y 2 V)=Z (X aR (Y tt) aS)/\jE w' ⟨R<|Q w,2,V⟩=Z (X e k f):=λw' aU=>⟨(bi.aB aU NLN).cell 2,(bg.aB aU NLN).cell 2⟩;have bj:=Ab ae;have bt:=ae _ A;have bk:=bh.below A NLN;have bl:=bf.below A NLN;clear ae ht;go_wp2_with fail;go_region_held3 (λw'=>jE w' (jB y 2 V)=Z (X aR (Y tt) aS)/\jE w' ⟨R<|Q w,2,V⟩=Z (X e k f)) (first|assumption|go_keep)((go_at_call 26;refine(QN _ _ _ _ _ _ _ _ _ bk bl).mono ?_;rintro h bu ⟨rfl,bm⟩;have aV:=A.trans<|bm.mono A.size;have bv:=Aa bj _ aV));go_wp2;go_ret;exact⟨⟨_,rfl,.inr ⟨Aa s,Es,Aa G,Aa aL,by rw[Aa ad]⟩⟩,q.trans<|(z.trans<|H.aP.trans<|aV.mono (z.trans H.aP).size).mono q.size⟩
  have ad:=Ab p;clear p;dsimp only;go_wp2_with fail;go_region;all_goals go_wp2;go_ret;exact⟨⟨_,rfl,.inr ⟨Aa s,Es,Aa G,Aa aL,by rw[Aa ad]⟩⟩,q.trans<|(z.trans bd.drew).mono q.size⟩
theorem VB(a b:M3)(n c m d:Nat)(N:M7)(L:Nz)(w:jD)(h1:GN w a n c N)(h2:Lr w b m d L):Calls jZ 20 #[X a n c,X b m d,.bool jG] w λe w'=>Ee Bu n m N L e/\Ak w w':=Ph jG Bu Th (λx h=>by rw[Bu,zF]at h;exact M0 h.1) a b n c m d N L w h1 h2
set_option maxHeartbeats 3200000
theorem Wu(h:N.all Bu=jG):N.all AR=jG:=by grind[JX]
theorem AbM(N:M7)(L:Nz):(Y N<=4000/\1<=Y L/\Y L<=600)/\N.all Bu=jG/\KF N L↔Bt N L=jG/\N.all Bu=jG:=by rw[<-SJ,AbH,<-SM,Bt];grind[Wu]
theorem OC(a:Gh N L):∃Es:M8,Y Es=Y N/\∀j,(h:j<Y Es)->Be N j Es[j]:=by
 have:∀k,k<=Y N->∃Es:M8,Y Es=k/\(∀j,(h:j<Y Es)->Be N j Es[j])/\∀e∈Es,e.bA:=by intro k;induction k with|zero=>simp_all|succ k c=>intro g;obtain⟨Es,b,d,hf⟩:=c Oa;have hx:N[k]?=Z (N[k]' Oa):=zE _;obtain⟨e,_,ht,i⟩:=Vo (an:=V) (nn:=0) (cn:=0) hx (a.bX _<|zI _) (a.aC k _ hx) b d hf;refine⟨Es++[e],by simp[b],λj h=>?_,λf hf'=>?_⟩;all_goals grind
 obtain⟨Es,h1,h2,_⟩:=this (Y N) NLN;grind
theorem KW.cK{T:M4}{b c:Bool}(h:KW N L T b)(k:KW N L T c):b=c:=by
 obtain⟨h1,rfl⟩|⟨h1,Es,a1,a2,rfl⟩:=h
 .obtain⟨_,rfl⟩|⟨a,_⟩:=k;all_goals grind
 obtain⟨a,_⟩|⟨_,d,b1,b2,rfl⟩:=k;all_goals grind[KH,no5]
theorem Akm{T:M4}(h:¬(Bt N L=jG/\N.all Bu=jG)):KW N L T jI:=by cases a:Bt N L with|false=>exact .inl ⟨a,rfl⟩|true=>obtain⟨Es,h1,h2⟩:=OC<|BR a;refine .inr ⟨a,Es,h1,h2,?_⟩;grind[AC,AE,Ab4]
theorem SN(a:Bt N L=jG)(h1:Y Es=Y N)(h2:∀j,(h:j<Y Es)->Be N j Es[j]){st:F5}(hc:AC Es (AE,[],[]) L=Z st):Y st.2.2=Y N:=by have:=(KJ hc).1;grind[Kk]
theorem Ah6{T:M4}(a:Bt N L=jG)(b:Y T≠Y N):KW N L T jI:=by obtain⟨Es,h1,h2⟩:=OC<|BR a;refine .inr ⟨a,Es,h1,h2,?_⟩;cases hc:AC Es (AE,[],[]) L with|none=>rfl|some st=>grind[SN]
theorem JP(a b e:M3)(n c m d k f:Nat)(N:M7)(L:Nz)(T:M4)(w:jD)(h1:GN w a n c N)(h2:Lr w b m d L)(h3:BN w e k f T):Calls jZ 6 #[jL #[X a n c,X b m d,X e k f]] w λP w'=>(∃v,P=jN (.bool v)/\KW N L T v)/\Ak w w':=by
 have C:=Ab h1.len;have aj:=Ab h2.len;have S:=Ab h3.len;have aS:=h1.aH;have aT:=h3.aH;have p:=Ar w<|Lu a n c b m d e k f;have W:=h1.below p NLN;have aa:=h2.below p NLN;have ak:=h3.below p NLN;clear h1 h2 h3;go_enter func6,ntmps6;go_wp2_with fail;refine(VB _ _ _ _ _ _ N L _ W aa).mono ?_;rintro P aK ⟨⟨v,rfl,al⟩,q⟩;have ao:=W.below q NLN;have ap:=aa.below q NLN;have aL:=ak.below q NLN;have aq:=(Ah.new w #[X a n c,X b m d,X e k f] 27).aB q NLN;have r:=p.trans<|q.mono p.size;have J:v=jG↔Bt N L=jG/\N.all Bu=jG:=by rw[al,<-AbM,Aa C,Aa aj]
 clear W aa ak p q al;obtain⟨ar,au,av⟩:=Bv aq;cases v with|false=>have g:=Ab (Akm (T:=T) λh=>by have:=J.2 h;cases this);clear J;go_wp2;go_ret;exact⟨⟨jI,rfl,Aa g⟩,r⟩|true=>
  have aw:=Ab<|J.1 rfl;clear J;by_cases ab:k=n
  .subst ab;have aM:((k:Int)!=(k:Int))=jI:=Oz;obtain⟨s,hu⟩:=Aa aw;have D:=BR s;obtain⟨Es,t,u⟩:=OC D;have aN:k<=4000:=by have:=D.n;rw[Aa C]at this;exact this
   have K:=Ab (Zw a b k c m d N L (λx hx=>zo.1 hu x hx) aK ao ap Es (by rw[t,Aa C]) u aN (by have:=D.m;rw[Aa aj]at this;exact this) (Zu s t u)<|by rw[Kk s t u];exact D.n);have E:=Ab (show ∀v,v=(match AC Es (AE,[],[]) L with|none=>jI|some st=>decide (st.2.2=T))->KW N L T v from λv e=>.inr ⟨s,Es,t,u,e⟩);have M:=Ab (show ∀st,AC Es (AE,[],[]) L=Z st->Y st.2.2=k from λst h=>by rw[SN s t u h,Aa C]);generalize AC Es (AE,[],[]) L=o at K E M;clear s hu t u D ao ap;go_wp2_with fail;refine(Aa K).mono ?_;rintro P w2 (⟨B,lb,ns,ts,tt,aU,lv,aV,rfl,rfl,ac,aW,z⟩|⟨rfl,⟨ad,ax,rfl,hcd⟩,z⟩)
   .have F:=r.trans<|z.mono r.size;have ae:Y tt=k:=Aa M _ rfl;obtain⟨aX,aY,rfl,_⟩:=Af ac.types;have af:=Dd ac.types Oa;have ay:=Ab ae;rw[ae]at af|-;have l:=Ar w2<|jC #[ja U 0,ja U 0] 51;have az:=Ah.new w2 #[ja U 0,ja U 0] 51;obtain⟨aA,aC⟩:=Ca az;have aD:=af.below l NLN;have aE:=(aL.below z NLN).below l NLN;have aF:=(aq.aB z NLN).aB l NLN;have ag:=F.trans<|l.mono F.size;clear ac af ae z K M ar au av;go_wp2_with fail;generalize jK w2 (jC #[ja U 0,ja U 0] 51)=aO at l az aA aC aD aE aF ag|-;go_loopw[37] (λi wr=>∃j:Nat,j<=k/\i=ja U j/\Ak aO wr/\Hid (tt.take j=T.take j)) (λi _=>k-(intOf i).toNat);case atStart=>exact⟨0,zH _,rfl,BRN,Ab rfl⟩
    obtain⟨j,aZ,rfl,G,aG⟩:=hrel;have aI:=ag.trans<|G.mono ag.size;by_cases O:j<k
    .have a0:(j:Int)<(k:Int):=Oa;have ah:j<Y tt:=by rw[Aa ay];exact O
     have ai:j<Y T:=by rw[Aa S];exact O
     obtain⟨a1,a2,rfl,a3,aP⟩:=(aD.below G NLN).cells j ah;obtain⟨be,a4,rfl,a5,aQ⟩:=(aE.below G NLN).cells j ai;obtain⟨ar,au,av⟩:=Bv<|aF.aB G NLN;have H:=Ab (show tt[j]=T[j]->tt.take (j+1)=T.take (j+1)from λh=>by rw[zY ah,zY ai,Aa aG,h]);have I:=Ab (show tt[j]≠T[j]->tt≠T from λh e=>h<|by subst e;rfl);have aJ:=Ab O;generalize tt[j]=x at aP H I;generalize T[j]=y at aQ H I;clear O ah ai;by_cases A:x=y
     .have aR:(x !=y)=jI:=by rw[A];simp
      have g:=Ab<|Aa H A;clear A H I;go_wp2;go_roundw;case rel=>exact⟨j+1,Aa aJ,O0,G,g⟩
      have:=Aa aJ;simp[intOf];omega
     have aR:(x !=y)=jG:=zW.2 A;have g:=Ab<|Aa E jI (za<|Aa I A).symm;clear A H I;go_wp2;go_ret;exact⟨⟨jI,rfl,Aa g⟩,aI⟩
    have e:j=k:=Oa;subst e;have g:=Ab<|Aa E jG (zc<|by have:=Aa aG;rwa[zh<|by rw[Aa ay];exact NLN,zh<|by rw[Aa S];exact NLN]at this).symm;go_wp2;go_ret;exact⟨⟨jG,rfl,Aa g⟩,aI⟩
   have ec:(ad !=0)=jG:=zW.2 hcd;have g:=Ab<|Aa E jI rfl;have F:=r.trans<|z.mono r.size;have l:=Ar w2<|jC #[ja U ad,ja U ax] 51;obtain⟨aA,aC⟩:=Ca<|Ah.new w2 #[ja U ad,ja U ax] 51;clear hcd K E M;go_wp2;go_ret;exact⟨⟨jI,rfl,Aa g⟩,(F.trans<|l.mono F.size)⟩
  have aM:((k:Int)!=(n:Int))=jG:=zW.2 Oa;have g:=Ab (Ah6 (T:=T) (Aa aw).1<|by rw[Aa S,Aa C];exact ab);clear ab;go_wp2;go_ret;exact⟨⟨jI,rfl,Aa g⟩,r⟩
section
variable{aS aO aZ aW:jH}{G:Nat->Prop}
def UQ(ts:M4)(e:Ex):Prop:=e.bA/\∃t,An ts e=Z t
theorem LZ(b:o=V){a:Ending}(h:CQ jT w a w'):Bd G o w a w':=Bd.of (o':=V) h (by rw[b]) (λe he=>by cases he)
theorem AcY{a:Ending}(h:Bd G o w a w'):(∃v,a=jN v/\∃o':N5,o'.map Ex.st=o.map Ex.st/\v=oV o'/\(∀e,o'=Z e->e.mem G w'))/\Ak w w':=by obtain⟨o',h1,h2,h3,h4⟩:=h;exact⟨⟨_,h2,o',h1,rfl,h3⟩,h4⟩
theorem Ahp{a:M4}{g:Ex->Ex->N5}{i op:Int}{c:Ending}(h:(∃v,c=jN v/\((op∈a/\∃o':N5,o'.map Ex.st=(g x y).map Ex.st/\v=oV o'/\(∀e,o'=Z e->e.mem G w'))\/(op ∉ a/\v=jT)))/\Ak w w'):Bd G (Fj a g<|.bin i op x y) w c w':=by
 obtain⟨⟨v,rfl,h⟩,d⟩:=h;obtain⟨b,o',h1,rfl,h3⟩|⟨b,rfl⟩:=h
 .exact⟨o',by rw[show Fj a g (.bin i op x y)=g x y from K1 b];exact h1,rfl,h3,d⟩
 exact⟨V,by rw[Aho b],rfl,(λe he=>by cases he),d⟩
theorem EM{j:jD}{c d:Nat}{k:M4}(M:OtM j c d k F #[])(r:∀args w,(callFunc F args).run jZ w=.ok (.enter F args) w)(P:Ex->Prop)(g:Ex->Ex->N5)(s:∀x y a,Ak j a->x.mem G a->y.mem G a->Calls jZ F #[x.val,y.val] a (Bd G (g x y) a)):IJ G j (.func (.func 140) #[] #[jQ<|Z<|jB c 0 V,jQ<|Z<|jB d 0 V]) P (Fj k g):=by refine⟨_,_,_,rfl,λargs w=>BL func140 Ok Ok args w,?_⟩;intro e a l B m;show Calls jZ 140 #[e.val,jQ<|Z<|jB c 0 V,jQ<|Z<|jB d 0 V] a _;cases e with|bin i op x y=>obtain⟨t,u,o⟩:=x.form;obtain⟨z,A,p⟩:=y.form;have h:∀b,Ak a b->Calls jZ F #[x.val,y.val] b (Bd G (g x y) b):=λb f=>s x y b (l.trans<|f.mono l.size) (x.aG f NLN m.1)<|y.aG f NLN m.2;rw[o,p]at h;simp only[Ex.val,o,p];refine(Aa5 i op t u z A c d k F a (M.below l NLN) (λv w'=>∃o':N5,o'.map Ex.st=(g x y).map Ex.st/\v=oV o'/\(∀e,o'=Z e->e.mem G w')) (Ab r)<|Ab λb f=>(h b f).mono λq w' n=>AcY n).mono λq w' n=>Ahp n|_=>exact(Sh Ob _ c d a).mono λq w' h=>LZ rfl h
theorem Nq{k:jD}{c d j:Nat}{l:M4}(M:OtM k c d l F #[jQ<|Z<|jB j 0 V])(s:∀args w,(callFunc F args).run jZ w=.ok (.enter F args) w)(P:Ex->Prop)(g:Ex->Ex->N5)(t:∀x y a,Ak k a->x.mem G a->y.mem G a->Calls jZ F #[x.val,y.val,jQ<|Z<|jB j 0 V] a (Bd G (g x y) a)):IJ G k (.func (.func 140) #[] #[jQ<|Z<|jB c 0 V,jQ<|Z<|jB d 0 V]) P (Fj l g):=by refine⟨_,_,_,rfl,λargs w=>BL func140 Ok Ok args w,?_⟩;intro e a n C m;show Calls jZ 140 #[e.val,jQ<|Z<|jB c 0 V,jQ<|Z<|jB d 0 V] a _;cases e with|bin i op x y=>obtain⟨u,z,p⟩:=x.form;obtain⟨A,B,q⟩:=y.form;have h:∀b,Ak a b->Calls jZ F #[x.val,y.val,jQ<|Z<|jB j 0 V] b (Bd G (g x y) b):=λb f=>t x y b (n.trans<|f.mono n.size) (x.aG f NLN m.1)<|y.aG f NLN m.2;rw[p,q]at h;simp only[Ex.val,p,q];refine(Aa6 i op u z A B c d l F j a (M.below n NLN) (λv w'=>∃o':N5,o'.map Ex.st=(g x y).map Ex.st/\v=oV o'/\(∀e,o'=Z e->e.mem G w')) (Ab s)<|Ab λb f=>(h b f).mono λr w' o=>AcY o).mono λr w' o=>Ahp o|_=>exact(Sh Ob _ c d a).mono λr w' h=>LZ rfl h
theorem Aeq{a:jD}(d:∀b,R (Q a)<=b->G b)(hS:Cx a aS aO aZ aW)(ts:M4):IJ G a (.func (.func 83) #[] #[]) (UQ ts) AM:=by refine⟨_,_,_,rfl,λargs w=>BL func83 Ok Ok args w,?_⟩;intro e f c ⟨h1,t,h2⟩m;exact Aen e f (λb h=>d b<|zB c.size h) (hS.below c NLN) m h1 ts t h2
theorem Aj5{e:Ex}(h:UQ ts e):AmQ e:=by cases e with
 |ite i c x y=>obtain⟨_,t,h⟩:=h;intro v u b hu;rw[An,Pl b,Pl hu]at h;cases hc:An ts c with|none=>rw[hc]at h;cases h|some a=>
   rw[hc]at h;dsimp only at h;obtain⟨h1,h0⟩:=DO h;simp only[Ba]at h1;split at h1
   .rename_i he;exact he.2
   exact K4 h1.symm h0
 |_=>trivial
theorem Ahq{a:jD}(d:∀b,R (Q a)<=b->G b)(hS:Cx a aS aO aZ aW)(ts:M4):IJ G a (.func (.func 86) #[] #[]) (UQ ts) JA:=by refine⟨_,_,_,rfl,λargs w=>BL func86 Ok Ok args w,?_⟩;intro e f c h m;exact YG e f (λb h=>d b<|zB c.size h) (hS.below c NLN) m<|Aj5 h
theorem Aj6{a:jD}(P:Ex->Prop):IJ G a (.func (.func 87) #[] #[]) P WD:=by refine⟨_,_,_,rfl,λargs w=>BL func87 Ok Ok args w,?_⟩;intro e b c h m;exact AlD e b m
structure LtM(G:Nat->Prop)(w:jD)(ob:Nat)(pv:jF)(la:M3)(lc:Nat)(ls:M8):Prop where
 row:Ah w ob #[pv,X la (Y ls) lc] 94
 aH:Y ls<=65535
 cells:∀j,(h:j<Y ls)->∃b off,la=Z (jB b off V)/\b<R (Q w)/\jE w ⟨b,off+j,V⟩=Z ls[j].val/\ls[j].mem G w
theorem LtM.below{c:Nat}{d:jF}{f:M3}{g:Nat}{ls:M8}(h:LtM G w c d f g ls)(a:Ak w w'):LtM G w' c d f g ls:=⟨h.row.aB a NLN,h.aH,λj k=>by obtain⟨b,i,h1,h2,h3,h4⟩:=h.cells j k;exact⟨b,i,h1,zG h2 a.size,(a.cell (p:=⟨b,i+j,V⟩) h2).trans h3,Ex.aG a NLN _ h4⟩⟩
theorem Ahr{g:jD}{j:jF}{q:M3}{l:Nat}{ls:M8}(M:LtM G g a j q l ls)(ts:M4)(r:Y ts=Y ls):IJ G g (.func (.func 82) #[jQ<|Z<|jB a 0 V] #[]) (UQ ts)<|Lb ls:=by refine⟨_,_,_,rfl,λargs w=>BL func82 Ok Ok args w,?_⟩;intro e c s h m;show Calls jZ 82 #[jQ<|Z<|jB a 0 V,e.val] c _;cases e with
 |lett i n=>
  obtain⟨_,t,ht⟩:=h;rw[An]at ht;split at ht
  .rename_i h0;obtain⟨k,rfl⟩:∃k:Nat,n=k:=⟨n.toNat,Oa⟩;have d:k<Y ls:=by rw[<-r];exact(zL.1<|by simpa using ht).1
   have f:=M.below s;obtain⟨b,u,rfl,v,hc,hm⟩:=f.cells k d;obtain⟨x,y,o⟩:=ls[k].form;have hq:=Jt ls[k];rw[o]at hc hq;have p:Lb ls (.lett i k)=if ls[k].bQ then Z ls[k]else V:=by simp only[Lb,zP,zE d]
   refine(Ahl i k a b u _ l j x y c f.row d (G7 f.aH) v hc _ (Ab hq) (oV<|Lb ls<|.lett i k)<|Ab ?_).mono λz w' h=>Bd.of h rfl λe he=>?_
   .rw[p,<-o];cases ls[k].bQ<;>rfl
   rw[p]at he;split at he<;>cases he;exact hm
  cases ht|_=>exact(Aeo Ob _ _ c).mono λz w' h=>LZ rfl h
end
section
variable{aS aO aZ aW:jH}
theorem Jk(b:Bool)(w:jD)(F G:FuncId)(h:(F=85/\G=142)\/F=95/\G=147):Calls jZ F #[.bool b] w λa w'=>a=jN (.func (.func G) #[] #[jQ<|Z ⟨jh<|Q w,0,V⟩])/\Ah w' (jh<|Q w) #[.bool b] 4/\Ak w w':=by
 have R:=Ah.new w #[.bool b] 4;have B:=Ar w<|jC #[.bool b] 4;obtain⟨rfl,rfl⟩|⟨rfl,rfl⟩:=h;case' inl=>go_enter func85,ntmps85
 case' inr=>go_enter func95,ntmps95
 all_goals go_wp2;go_ret;exact⟨rfl,R,B⟩
def Ip(w:jD)(zb:Nat)(fv:jF)(ops:M4)(F:FuncId)(caps:Array jF):Prop:=∃ (ob fb ab:Nat) (tA tf ta:jR),fv=.func (.func 140) #[] #[jQ<|Z<|jB ob 0 V,jQ<|Z<|jB fb 0 V]/\Ah w ob #[X (Z<|jB ab 0 V) (Y ops)<|Y ops] tA/\Ah w fb #[.func (.func F) #[] caps] tf/\Ah w ab (ops.map λx=>Value.int U x).toArray ta/\ob≠zb/\fb≠zb/\ab≠zb
theorem Ip.below{zb:Nat}{c:M4}(h:Ip w zb b c F d)(a:Ak w w'):Ip w' zb b c F d:=by obtain⟨f,g,i,tA,j,k,h0,h1,h2,h3,h4⟩:=h;exact⟨f,g,i,tA,j,k,h0,h1.aB a NLN,h2.aB a NLN,h3.aB a NLN,h4⟩
theorem Ip.set{zb:Nat}{a:jF}{b:M4}{c:Array jF}(h:Ip w zb a b F c)(k:Nat)(u:jF):Ip (jM w (jB zb k V) u) zb a b F c:=by obtain⟨d,f,g,tA,i,j,h0,h1,h2,h3,h4,h5,h6⟩:=h;exact⟨d,f,g,tA,i,j,h0,h1.aJ h4 u,h2.aJ h5 u,h3.aJ h6 u,h4,h5,h6⟩
theorem Ip.m{zb:Nat}{d:jF}{c:M4}{f:Array jF}(h:Ip w zb d c F f)(hs:Y c<=1048576):∃a b,d=.func (.func 140) #[] #[jQ<|Z<|jB a 0 V,jQ<|Z<|jB b 0 V]/\OtM w a b c F f:=by obtain⟨a,b,g,tA,i,l,h0,h1,h2,h3,h4⟩:=h;refine⟨a,b,h0,⟨Z<|jB g 0 V,_,_,tA,h1,rfl,hs,λj k=>⟨g,0,rfl,h3.lt,?_⟩⟩,i,h2⟩;rw[zT,h3.cell];simp[k]
theorem CT(F:FuncId)(b:Array jF)(d:M4)(zb:Nat){i:jR}(j:Ah w a (d.map λx=>Value.int U x).toArray i)(hz:zb<a):Calls jZ 84 #[.func (.func F) #[] b,X (Z<|jB a 0 V) (Y d)<|Y d] w λf w'=>∃k l,f=jN (.func (.func 140) #[] #[jQ<|Z<|jB k 0 V,jQ<|Z<|jB l 0 V])/\Ip w' zb (.func (.func 140) #[] #[jQ<|Z<|jB k 0 V,jQ<|Z<|jB l 0 V]) d F b/\Ak w w':=by
 have h:∀n c,Calls jZ 84 #[.func (.func F) #[] b,X (Z<|jB a 0 V) n c] w λf w'=>f=jN (.func (.func 140) #[] #[jQ<|Z ⟨R (Q w)+1,0,V⟩,jQ<|Z ⟨R<|Q w,0,V⟩])/\w'=jK (jK w<|jC #[.func (.func F) #[] b] 160) (jC #[X (Z<|jB a 0 V) n c] 25):=λn c=>by go_enter func84,ntmps84;go_wp2;go_ret;exact⟨Oz,rfl⟩
 have p:=j.lt;refine(h _ _).mono ?_;rintro f w' ⟨rfl,rfl⟩;refine⟨_,_,rfl,Le (P:=λg=>Ip g zb (.func (.func 140) #[] #[jQ<|Z ⟨R (Q w)+1,0,V⟩,jQ<|Z ⟨R<|Q w,0,V⟩]) d F b/\Ak w g) λg B m o=>?_⟩;exact⟨⟨_,_,a,_,_,i,rfl,o,m,j.aB B NLN,Oa,Oa,Oa⟩,B⟩
structure OzM(w:jD)(zb rb:Nat)(f2 f3 f6 f7 f8 f9 f10 f11 f12 f13 f14 f15 f16:jF)(c2 c3 c13 c14:Nat):Prop where
 row:Ah w rb #[.func (.func 82) #[jQ<|Z<|jB zb 0 V] #[],.func (.func 83) #[] #[],f2,f3,.func (.func 86) #[] #[],.func (.func 87) #[] #[],f6,f7,f8,f9,f10,f11,f12,f13,f14,f15,f16] 158
 dR:rb≠zb
 x2:Ip w zb f2 [25] 142 #[jQ<|Z<|jB c2 0 V]r2:Ah w c2 #[.bool jG] 4
 n2:c2≠zb
 x3:Ip w zb f3 [26] 142 #[jQ<|Z<|jB c3 0 V]r3:Ah w c3 #[.bool jI] 4
 n3:c3≠zb
 x6:Ip w zb f6 [16] 88 #[]x7:Ip w zb f7 [17] 89 #[]x8:Ip w zb f8 [18] 90 #[]x9:Ip w zb f9 [11] 91 #[]x10:Ip w zb f10 [12] 92 #[]x11:Ip w zb f11 [13] 93 #[]x12:Ip w zb f12 [14] 94 #[]x13:Ip w zb f13 [19,22,24] 147 #[jQ<|Z<|jB c13 0 V]r13:Ah w c13 #[.bool jG] 4
 n13:c13≠zb
 x14:Ip w zb f14 [20,21] 147 #[jQ<|Z<|jB c14 0 V]r14:Ah w c14 #[.bool jI] 4
 n14:c14≠zb
 x15:Ip w zb f15 [24] 96 #[]x16:Ip w zb f16 [23] 97 #[]
theorem OzM.below{w w':jD}{zb b:Nat}{c d f g i j k l m n o p q:jF}{c2 c3 r s:Nat}(h:OzM w zb b c d f g i j k l m n o p q c2 c3 r s)(a:Ak w w'):OzM w' zb b c d f g i j k l m n o p q c2 c3 r s:=⟨h.row.aB a NLN,h.dR,h.x2.below a,h.r2.aB a NLN,h.n2,h.x3.below a,h.r3.aB a NLN,h.n3,h.x6.below a,h.x7.below a,h.x8.below a,h.x9.below a,h.x10.below a,h.x11.below a,h.x12.below a,h.x13.below a,h.r13.aB a NLN,h.n13,h.x14.below a,h.r14.aB a NLN,h.n14,h.x15.below a,h.x16.below a⟩
theorem OzM.set{w:jD}{zb a:Nat}{b c d f g i j l m n o p q:jF}{c2 c3 r s:Nat}(h:OzM w zb a b c d f g i j l m n o p q c2 c3 r s)(k:Nat)(u:jF):OzM (jM w (jB zb k V) u) zb a b c d f g i j l m n o p q c2 c3 r s:=⟨h.row.aJ h.dR u,h.dR,h.x2.set k u,h.r2.aJ h.n2 u,h.n2,h.x3.set k u,h.r3.aJ h.n3 u,h.n3,h.x6.set k u,h.x7.set k u,h.x8.set k u,h.x9.set k u,h.x10.set k u,h.x11.set k u,h.x12.set k u,h.x13.set k u,h.r13.aJ h.n13 u,h.n13,h.x14.set k u,h.r14.aJ h.n14 u,h.n14,h.x15.set k u,h.x16.set k u⟩
theorem OzM.mk'{zb c3 a b:Nat}{c d f g i j k l m n p q r:jF}(hz:zb<R (Q w))(h:(Ip w zb r [23] 97 #[]/\Ip w zb q [24] 96 #[]/\Ip w zb p [20,21] 147 #[jQ<|Z<|jB b 0 V]/\Ah w b #[.bool jI] 4/\Ip w zb n [19,22,24] 147 #[jQ<|Z<|jB a 0 V]/\Ah w a #[.bool jG] 4/\Ip w zb m [14] 94 #[]/\Ip w zb l [13] 93 #[]/\Ip w zb k [12] 92 #[]/\Ip w zb j [11] 91 #[]/\Ip w zb i [18] 90 #[]/\Ip w zb g [17] 89 #[]/\Ip w zb f [16] 88 #[]/\Ip w zb d [26] 142 #[jQ<|Z<|jB c3 0 V]/\Ah w c3 #[.bool jI] 4/\Ip w zb c [25] 142 #[jQ<|Z<|jB lb 0 V]/\Ah w lb #[.bool jG] 4/\True))(n2:lb≠zb)(n3:c3≠zb)(n13:a≠zb)(n14:b≠zb):OzM (jK w<|jC #[.func (.func 82) #[jQ<|Z<|jB zb 0 V] #[],.func (.func 83) #[] #[],c,d,.func (.func 86) #[] #[],.func (.func 87) #[] #[],f,g,i,j,k,l,m,n,p,q,r] 158) zb (R<|Q w) c d f g i j k l m n p q r lb c3 a b/\Ak w (jK w<|jC #[.func (.func 82) #[jQ<|Z<|jB zb 0 V] #[],.func (.func 83) #[] #[],c,d,.func (.func 86) #[] #[],.func (.func 87) #[] #[],f,g,i,j,k,l,m,n,p,q,r] 158):=by have B:=λo=>Ar w o;obtain⟨x16,x15,x14,r14,x13,r13,x12,x11,x10,x9,x8,x7,x6,x3,r3,x2,r2,_⟩:=h;exact⟨⟨Ah.new w _ _,Nat.ne_of_gt hz,x2.below<|B _,r2.alloc _,n2,x3.below<|B _,r3.alloc _,n3,x6.below<|B _,x7.below<|B _,x8.below<|B _,x9.below<|B _,x10.below<|B _,x11.below<|B _,x12.below<|B _,x13.below<|B _,r13.alloc _,n13,x14.below<|B _,r14.alloc _,n14,x15.below<|B _,x16.below<|B _⟩,B _⟩
def KpA(w:jD)(Q:jD->Prop):Prop:=Q w/\∀a b,Q a->Ak a b->Q b
theorem KpA.nil(w:jD):KpA w λ_=>True:=⟨trivial,λ_ _ _ _=>trivial⟩
theorem KpA.add{d P:jD->Prop}(h:KpA w d)(b:Ak w w')(g:P w')(i:∀a b,P a->Ak a b->P b):KpA w' λf=>P f/\d f:=⟨⟨g,h.2 _ _ h.1 b⟩,λa c q k=>⟨i a c q.1 k,h.2 a c q.2 k⟩⟩
theorem KpA.addR{d:jD->Prop}{b:Nat}{cs:Array jF}{t:jR}(h:KpA w d)(S:Ak w w')(c:Ah w' b cs t):KpA w' λa=>Ah a b cs t/\d a:=h.add (P:=λa=>Ah a b cs t) S c λ_ _ c k=>c.aB k NLN
theorem KpA.cL{f:jD->Prop}{zb:Nat}{c:M4}(h:KpA w f)(S:Ak w w')(x:Ip w' zb b c F d):KpA w' λa=>Ip a zb b c F d/\f a:=h.add (P:=λa=>Ip a zb b c F d) S x λ_ _ g k=>g.below k
theorem Ot(w:jD):Calls jZ 41 #[] w λf w'=>∃zb k,(∃s t u v y z A C D E F G H c2 c3 I J,OzM w' zb k s t u v y z A C D E F G H c2 c3 I J)/\f=jN (jQ<|Z<|jB zb 0 V)/\Ah w' zb #[X (Z<|jB k 0 V) 17 17,X V 0 0] 94/\jh (Q w)<=zb/\Ak w w':=by go_enter func41,ntmps41;go_wp2_with fail;refine CI (P:=λc=>Calls _ _ _ c _) λl m n=>?_;have hz:=n.lt;have d:=Ab<|KpA.nil l;have a:=IQ l;refine(Jk jG _ _ _<|.inl ⟨rfl,rfl⟩).mono ?_;rintro f N ⟨rfl,g,S⟩;replace d:=Ab<|(Aa d).addR S g;have n2:=Nat.ne_of_gt<|zG hz a.size;replace a:=a.trans<|S.mono a.size;clear g S;dsimp only;go_wp2_with fail;refine CI (P:=λc=>Calls _ _ _ c _) λc B R=>?_;refine(CT _ _ [25] (jh<|Q w) R<|zG hz a.size).mono ?_;rintro f O ⟨W,aa,rfl,x,b⟩;replace B:=B.trans<|b.mono B.size;replace d:=Ab<|(Aa d).cL B x;replace a:=a.trans<|B.mono a.size;clear x b R B;dsimp only;go_wp2_with fail;refine(Jk jI _ _ _<|.inl ⟨rfl,rfl⟩).mono ?_;rintro f ab ⟨rfl,g,S⟩;replace d:=Ab<|(Aa d).addR S g;have n3:=Nat.ne_of_gt<|zG hz a.size;replace a:=a.trans<|S.mono a.size;clear g S;dsimp only;go_wp2_with fail;refine CI (P:=λc=>Calls _ _ _ c _) λc B R=>?_;refine(CT _ _ [26] (jh<|Q w) R<|zG hz a.size).mono ?_;rintro f ac ⟨ad,ae,rfl,x,b⟩;replace B:=B.trans<|b.mono B.size;replace d:=Ab<|(Aa d).cL B x;replace a:=a.trans<|B.mono a.size;clear x b R B;dsimp only;go_wp2_with fail;refine CI (P:=λc=>Calls _ _ _ c _) λc B R=>?_;refine(CT _ _ [16] (jh<|Q w) R<|zG hz a.size).mono ?_;rintro f af ⟨ag,ah,rfl,x,b⟩;replace B:=B.trans<|b.mono B.size;replace d:=Ab<|(Aa d).cL B x;replace a:=a.trans<|B.mono a.size;clear x b R B;dsimp only;go_wp2_with fail;refine CI (P:=λc=>Calls _ _ _ c _) λc B R=>?_;refine(CT _ _ [17] (jh<|Q w) R<|zG hz a.size).mono ?_;rintro f ai ⟨aj,ak,rfl,x,b⟩;replace B:=B.trans<|b.mono B.size;replace d:=Ab<|(Aa d).cL B x;replace a:=a.trans<|B.mono a.size;clear x b R B;dsimp only;go_wp2_with fail;refine CI (P:=λc=>Calls _ _ _ c _) λc B R=>?_;refine(CT _ _ [18] (jh<|Q w) R<|zG hz a.size).mono ?_;rintro f al ⟨ao,ap,rfl,x,b⟩;replace B:=B.trans<|b.mono B.size;replace d:=Ab<|(Aa d).cL B x;replace a:=a.trans<|B.mono a.size;clear x b R B;dsimp only;go_wp2_with fail;refine CI (P:=λc=>Calls _ _ _ c _) λc B R=>?_;refine(CT _ _ [11] (jh<|Q w) R<|zG hz a.size).mono ?_;rintro f aq ⟨ar,au,rfl,x,b⟩;replace B:=B.trans<|b.mono B.size;replace d:=Ab<|(Aa d).cL B x;replace a:=a.trans<|B.mono a.size;clear x b R B;dsimp only;go_wp2_with fail;refine CI (P:=λc=>Calls _ _ _ c _) λc B R=>?_;refine(CT _ _ [12] (jh<|Q w) R<|zG hz a.size).mono ?_;rintro f av ⟨aw,ax,rfl,x,b⟩;replace B:=B.trans<|b.mono B.size;replace d:=Ab<|(Aa d).cL B x;replace a:=a.trans<|B.mono a.size;clear x b R B;dsimp only;go_wp2_with fail;refine CI (P:=λc=>Calls _ _ _ c _) λc B R=>?_;refine(CT _ _ [13] (jh<|Q w) R<|zG hz a.size).mono ?_;rintro f ay ⟨az,aA,rfl,x,b⟩;replace B:=B.trans<|b.mono B.size;replace d:=Ab<|(Aa d).cL B x;replace a:=a.trans<|B.mono a.size;clear x b R B;dsimp only;go_wp2_with fail;refine CI (P:=λc=>Calls _ _ _ c _) λc B R=>?_;refine(CT _ _ [14] (jh<|Q w) R<|zG hz a.size).mono ?_;rintro f aC ⟨aD,aE,rfl,x,b⟩;replace B:=B.trans<|b.mono B.size;replace d:=Ab<|(Aa d).cL B x;replace a:=a.trans<|B.mono a.size;clear x b R B;dsimp only;go_wp2_with fail;refine(Jk jG _ _ _<|.inr ⟨rfl,rfl⟩).mono ?_;rintro f aF ⟨rfl,g,S⟩;replace d:=Ab<|(Aa d).addR S g;have n13:=Nat.ne_of_gt<|zG hz a.size;replace a:=a.trans<|S.mono a.size;clear g S;dsimp only;go_wp2_with fail;refine CI (P:=λc=>Calls _ _ _ c _) λc B R=>?_;refine(CT _ _ [19,22,24] (jh<|Q w) R<|zG hz a.size).mono ?_;rintro f aG ⟨aH,aI,rfl,x,b⟩;replace B:=B.trans<|b.mono B.size;replace d:=Ab<|(Aa d).cL B x;replace a:=a.trans<|B.mono a.size;clear x b R B;dsimp only;go_wp2_with fail;refine(Jk jI _ _ _<|.inr ⟨rfl,rfl⟩).mono ?_;rintro f aJ ⟨rfl,g,S⟩;replace d:=Ab<|(Aa d).addR S g;have n14:=Nat.ne_of_gt<|zG hz a.size;replace a:=a.trans<|S.mono a.size;clear g S;dsimp only;go_wp2_with fail;refine CI (P:=λc=>Calls _ _ _ c _) λc B R=>?_;refine(CT _ _ [20,21] (jh<|Q w) R<|zG hz a.size).mono ?_;rintro f aK ⟨aL,aM,rfl,x,b⟩;replace B:=B.trans<|b.mono B.size;replace d:=Ab<|(Aa d).cL B x;replace a:=a.trans<|B.mono a.size;clear x b R B;dsimp only;go_wp2_with fail;refine CI (P:=λc=>Calls _ _ _ c _) λc B R=>?_;refine(CT _ _ [24] (jh<|Q w) R<|zG hz a.size).mono ?_;rintro f aN ⟨aO,aP,rfl,x,b⟩;replace B:=B.trans<|b.mono B.size;replace d:=Ab<|(Aa d).cL B x;replace a:=a.trans<|B.mono a.size;clear x b R B;dsimp only;go_wp2_with fail;refine CI (P:=λc=>Calls _ _ _ c _) λc B R=>?_;refine(CT _ _ [23] (jh<|Q w) R<|zG hz a.size).mono ?_;rintro f h ⟨aQ,aR,rfl,x,b⟩;replace B:=B.trans<|b.mono B.size;replace d:=Ab<|(Aa d).cL B x;replace a:=a.trans<|B.mono a.size;clear x b R B;have o:=zG hz a.size;obtain⟨q,r⟩:=OzM.mk' o (Aa d).1 n2 n3 n13 n14;have i:=a.trans<|r.mono a.size;have j:=n.aB i NLN;have K:=Ab<|q.set 0<|X (Z ⟨jh<|Q h,0,V⟩) 17 17;have L:=j.set 0<|X (Z ⟨jh<|Q h,0,V⟩) 17 17;have M:=(m.trans<|i.mono m.size).setCell (p:=⟨jh<|Q w,0,V⟩) NLN<|X (Z ⟨jh<|Q h,0,V⟩) 17 17;have aS:=j.frozen 0;have aT:=j.cell 0;clear q r i d o a hz;dsimp only;go_wp2;go_ret;exact⟨_,_,⟨_,_,_,_,_,_,_,_,_,_,_,_,_,_,_,_,_,Aa K⟩,rfl,L,NLN,M⟩
end
section
variable{aS aO aZ aW:jH}
noncomputable def Amq(R:Rq)(Es:M8)(ls:N6)(L:Nz)(o:Ev):Dr:=match o with|.err c=>.err c|.ok v=>CV R Es (ls++[v]) L
noncomputable def Amr(R:Rq)(Es:M8)(ls:N6)(L:Nz)(d:Dr)(o:Ev):Dr:=match o with|.err c=>.err c|.ok v=>match v with|.bool jG=>d|_=>CV R Es ls L
theorem Xe{R:Rq}{m:Nat}{e:Ex}(h:s.cond=(m:Nat))(he:Es[m]?=Z e)(a:s.aF=1):CV R Es ls (s::L)=Amq R Es ls L (At R ls e):=by rw[TY h he];generalize At R ls e=o;cases o with|err c=>rfl|ok v=>exact K1 a
theorem TZ{R:Rq}{m:Nat}{e:Ex}(h:s.cond=(m:Nat))(he:Es[m]?=Z e)(a:s.aF≠1):CV R Es ls (s::L)=Amr R Es ls L (Ju R ls Es s.aD) (At R ls e):=by rw[TY h he];generalize At R ls e=o;cases o with|err c=>rfl|ok v=>exact K0 a
theorem Ams:(jZ.info? 137).map (λi=>(i.zero,i.size,i.bytes))=Z (Z jT,1,16):=Ok
theorem ZU(bb:jD)(ce:Cx bb aS aO aZ aW)(B y:Nat)(cf:jh (Q bb)<=B)(R:Rq)(a1:M3)(aC c1:Nat)(a2:M3)(n2 c2:Nat)(Es:M8)(L:Nz)(m g cT:Nat)(bj:Array jF)(w:jD)(hm:Y L=m)(ds:m<=600)(cg:∃j,∃h:j<Y L,L[j].cond=-1)(ch:∀e∈Es,e.mem (λb=>b<jh (Q bb)) bb)(cU:F5)(ci:AC Es (AE,[],[]) L=Z cU)(cj:∀s∈L,okP Es s.cond/\okP Es s.aD)(ck:Ak bb w)(bc:EvO aS aO aZ aW B y R a1 aC c1 a2 n2 c2 V 0 [] [] w)(cl:Ah w g bj 88)(cm:∀(J:Nat)(u:jF),(Vn Es 0 L)[J]?=Z u->bj[J]?=Z u)(cV:g≠y):Calls jZ 28 #[jQ<|Z<|jB y 0 V,X (Z<|jB g 0 V) m cT] w (SZ aS aO aZ aW B (CV R Es [] L) w):=by
 obtain⟨cn,co,cp,cq,cr⟩:=info_parts Ams;have dt:=PH;have cs:=Ab hm;have cW:=Ab cg;have cX:=Ab ch;have cY:=Ab ci;have cZ:=Ab cj;have c0:=Ab cm;have c6:=Ab ce;have c7:=Ab ck;have bJ:=Ah.new w #[T U 0,T U 0,X V 0 0] 33;have bd:=Ar w<|jC #[T U 0,T U 0,X V 0 0] 33;have ct:=bc.below bd;have cu:=cl.aB bd NLN;have H:B<=jh (Q w):=by have:=bc.aP;have:=bc.M.row.lt;omega
 have bK:jh (Q w)≠y:=G7 bc.M.row.lt;have cv:=bd.mono H;have du:=bc.aP;have cw:=Ab cV;clear hm cg ch ci cj cm ck ce bc cl;go_enter func28,ntmps28;go_wp2_with fail;generalize jK w (jC #[T U 0,T U 0,X V 0 0] 33)=dv at bJ bd ct cu cv|-;generalize c8:jh (Q w)=C at bJ H bK bd|-;clear bd c8;go_loopw[12] (λi wr=>∃ (k:Nat) (ls:N6) (f:M3) (ad:Nat) (bf:N4),k<=m/\i=T U k/\Hid ((∃ns tt,AC Es (AE,[],[]) (L.take k)=Z (ns,ls.map Vv.ty,tt))/\CV R Es [] L=CV R Es ls (L.drop k)/\Y ls<=k/\∀j,(h:j<Y L)->j<k->L[j].cond≠-1)/\EvO aS aO aZ aW B y R a1 aC c1 a2 n2 c2 f ad ls bf wr/\Ah wr g bj 88/\Ah wr C #[T U 0,T U 0,X V 0 0] 33/\Below B w wr) (λi _=>m-(intOf i).toNat);case atStart=>exact⟨0,[],V,0,[],zH _,rfl,Ab ⟨⟨AE,[],rfl⟩,rfl,NLN,λj _ h=>K4 h Oa⟩,ct,cu,bJ,cv⟩
 obtain⟨k,ls,f,ad,bf,dw,rfl,bL,z,Gk,aM,aN⟩:=hrel;by_cases bM:k<m
 .have dx:(k:Int)<(m:Int):=Oa;have bN:k<Y L:=by rw[Aa cs];exact bM
  have bg:∀J,J<5->∀u,(Mt Es k L[k])[J]?=Z u->jE wr ⟨g,k*5+J,V⟩=Z u:=λJ o u hu=>by rw[Gk.cell];refine Aa c0 _ _ ?_;rw[ZV Es L 0 k bN J o,zT];exact hu
  have cx:=bg 0 Ob _ rfl;have bk:=bg 1 Ob _ rfl;have bz:=bg 2 Ob _ rfl;have bA:=bg 3 Ob _ rfl;have bB:=bg 4 Ob _ rfl;simp only[ze]at cx;obtain⟨⟨ns,tt,cy⟩,cz,cA,cB⟩:=Aa bL;obtain⟨s2,bD,cC,bO,cD⟩:=Akr (Aa cY) bN cy;have cE:=(JM bO).2;obtain⟨cF,cG⟩:=Aa cZ L[k]<|zI bN;have cH:CV R Es [] L=CV R Es ls (L[k]::L.drop (k+1)):=by rw[cz,List.getElem_cons_drop]
  have bP:Ak bb wr:=(Aa c7).trans<|aN.mono cf;have cI:∀ae,Ak wr ae->∀e∈Es,e.mem (EP y f) ae:=λae bQ e he=>by have h1:=Ex.aG (bP.trans<|bQ.mono bP.size) NLN e<|Aa cX e he;refine Ex.bW (λb dy=>⟨Oa,λN e2=>?_⟩) e h1;have:=(z.bG.lt (jW N)<|by rw[e2];rfl).1;omega
  have cJ:=Ab (show L[k].cond≠-1->∀j,(h:j<Y L)->j<k+1->L[j].cond≠-1 from λh0 j c9 h1=>by
   by_cases da:j=k
   .subst da;exact h0
   exact cB j c9 Oa);have bh:=Ab cA;have ax:=Ab bM;clear bg cB cz cA bL cy;have bE:=Ab cH;have bF:=Ab cC;have bR:=Ab bO;have cK:=Ab cD;have cL:=Ab cE;have aE:=Ab cI;have cM:=Ab cF;have bS:=Ab cG;clear cH cC bO cD cE cI cF cG bM;have aQ:=Iw Es L[k].aD;have dz:=aM.lt;have cN:=Ab λ(ae:jD) (bQ:Below B wr ae)=>(Aa c6).below (bP.trans<|bQ.mono cf) NLN;generalize db:L[k]=s at cx bk bz bA bB cJ bE bF bR cM bS aQ;clear db;obtain e1|⟨dA,e,e1,e2,e3,_⟩:=Aa cM
  .have cO:=Ab<|(Aa bE).trans<|TW e1;have e4:=TV (Aa bF) e1;have ay:=Ab λ(ae:jD) (bT:EvM (EP y f) aS aO aZ aW y R a1 aC c1 a2 n2 c2 f ad ls ae) (bU:∀e∈Es,e.mem (EP y f) ae)=>Ms y R a1 aC c1 a2 n2 c2 f ad ls (ls.map Vv.ty) rfl Es s.aD (Aa bS) (λdc dd z1 z2=>by have:=Mr (Aa bR) z1 z2;rw[e4]at this;exact this) ae bT bU;have ec:CL Es s.cond=jT:=by rw[e1,EW]
   rw[ec]at bA;clear e4 ec e1;generalize CL Es s.aD=cP at bB ay aQ;generalize s.aF=I at bk;generalize s.name=nm at bz;obtain rfl|⟨aH,u4,rfl⟩:=aQ
   .have a:=Ar wr<|jC #[T U k,T U I,jA nm,jT,jT] 88;have O:=Ah.new wr #[T U k,T U I,jA nm,jT,jT] 88;obtain⟨bl,bm,bn,bo,bp,_⟩:=Cp O;have A:=z.below a;have af:=aM.aB a NLN;have az:=Gk.aB a NLN;have ai:=aN.trans<|a.mono S2;have aj:=Ab<|Aa ay _ A.M<|Aa aE _ a;have aR:=af.lt;go_wp2_with fail;refine(Aa aj).mono ?_;intro J bV o;obtain⟨D,ak,al,ao,ap,rfl,P⟩:=o.dW;have l:=af.aB P.2 NLN;obtain⟨aT,aU,x2⟩:=Co l;have aV:=λj=>l.frozen j;have aX:=λj=>(l.set 0<|T U D).frozen j;have aY:=λj=>((l.set 0<|T U D).set 1<|T U 0).frozen j;obtain⟨S,W,aa⟩:=Co<|((l.set 0<|T U D).set 1<|T U 0).set 2<|X ak al ao;have a0:=Ab<|P.store l aR H ai;clear P o aj;dsimp only;go_wp2_with fail;refine K8 (v:=jS #[jL #[T U D,T U 0,X ak al ao],ap]) O7 rfl ?_;rw[Aa cO];exact Aa a0
   have a:=Ar wr<|jC #[T U k,T U I,jA nm,jT,jJ aH u4] 88;have O:=Ah.new wr #[T U k,T U I,jA nm,jT,jJ aH u4] 88;obtain⟨bl,bm,bn,bo,bp,_⟩:=Cp O;have A:=z.below a;have af:=aM.aB a NLN;have az:=Gk.aB a NLN;have ai:=aN.trans<|a.mono S2;have aj:=Ab<|Aa ay _ A.M<|Aa aE _ a;have aR:=af.lt;go_wp2_with fail;refine(Aa aj).mono ?_;intro J bV o;obtain⟨D,ak,al,ao,ap,rfl,P⟩:=o.dW;have l:=af.aB P.2 NLN;obtain⟨aT,aU,x2⟩:=Co l;have aV:=λj=>l.frozen j;have aX:=λj=>(l.set 0<|T U D).frozen j;have aY:=λj=>((l.set 0<|T U D).set 1<|T U 0).frozen j;obtain⟨S,W,aa⟩:=Co<|((l.set 0<|T U D).set 1<|T U 0).set 2<|X ak al ao;have a0:=Ab<|P.store l aR H ai;clear P o aj;dsimp only;go_wp2_with fail;refine K8 (v:=jS #[jL #[T U D,T U 0,X ak al ao],ap]) O7 rfl ?_;rw[Aa cO];exact Aa a0
  have bH:=Ab e2;have bI:=Ab<|Aa cJ Oa;have eo:CL Es s.cond=e.val:=H6;rw[eo]at bA;obtain⟨aI,u3,bX⟩:=e.form;rw[bX]at bA;clear eo;by_cases aJ:s.aF=1
  .obtain⟨t,ht,bi⟩:=Xd (Aa bF) e1 e2 aJ;have aA:=Ab<|DQ (aS:=aS) (aO:=aO) (aZ:=aZ) (aW:=aW) (G:=EP y f) y R a1 aC c1 a2 n2 c2 f ad ls (ls.map Vv.ty) rfl e e3 t ht;have aK:=Ab (show ∀v,At R ls e=.ok v->(ls++[v]).map Vv.ty=ls.map Vv.ty++[t]from λv E=>by rw[zN,<-AZ rfl e t ht v E];rfl);have aL:=Ab (show ∀v,At R ls e=.ok v->∃ns tt,AC Es (AE,[],[]) (L.take<|k+1)=Z (ns,(ls++[v]).map Vv.ty,tt)from λv E=>⟨bD.1,bD.2.2,by rw[Aa cK,Aa aK v E];exact congrArg Z<|Prod.ext rfl (Prod.ext ((Aa cL).trans bi) rfl)⟩);have K:=Ab<|(Aa bE).trans<|Xe e1 e2 aJ;rw[bX]at aA;generalize At R ls e=bq at aA aK aL K;rw[aJ]at bk;have ay:=Ab trivial;obtain⟨I,bY⟩:∃I:Int,I=1:=⟨_,rfl⟩;rw[<-bY]at bk;have cQ:(I==1)=jG:=by rw[bY];rfl
   clear bY ht bi aJ e1 e2;generalize CL Es s.aD=cP at bB aQ;generalize s.name=nm at bz;obtain rfl|⟨aH,u4,rfl⟩:=aQ
   .have a:=Ar wr<|jC #[T U k,T U I,jA nm,jJ aI u3,jT] 88;have O:=Ah.new wr #[T U k,T U I,jA nm,jJ aI u3,jT] 88;obtain⟨bl,bm,bn,bo,bp,_⟩:=Cp O;have A:=z.below a;have af:=aM.aB a NLN;have az:=Gk.aB a NLN;have ai:=aN.trans<|a.mono S2;have aq:=Ab<|Aa aA _ ⟨A.M,Aa aE _ a e<|zX<|Aa bH⟩;go_wp2_with fail;refine(Aa aq).mono ?_;rintro J w2 ⟨o,n⟩;have r:=A.below n;have d:=af.aB n NLN;have ar:=az.aB n NLN;have ag:=ai.trans<|n.mono H8;have a3:=a.trans<|n.mono a.size;obtain⟨bZ,l1,l2,b0,b1,_⟩:=Cp<|O.aB n NLN;clear aq;cases bq with|err c=>obtain⟨x,ap,rfl,au⟩:=o;obtain⟨a4,rfl⟩:=au.form;have F:=Ab<|Aa K;obtain⟨aT,aU,x2⟩:=Co d;have aV:=λj=>d.frozen j;have ab:=d.set 0<|T U 0;have aX:=λj=>ab.frozen j;have ac:=ab.set 1<|T U 0;have aY:=λj=>ac.frozen j;have a5:=ac.set 2<|X V 0 0;obtain⟨S,W,aa⟩:=Co a5;have a6:=((au.set d Ob 0<|T U 0).set ab Ob 1<|T U 0).set ac Ob 2<|X V 0 0;have a7:=((ag.setCell (p:=(jB C 0 V)) H<|T U 0).setCell (p:=(jB C 1 V)) H<|T U 0).setCell (p:=(jB C 2 V)) H<|X V 0 0;dsimp only;go_wp2_with fail;refine K8 (v:=jS #[jL #[T U 0,T U 0,X V 0 0],jJ 245 a4]) O7 rfl ?_;rw[Aa F];exact⟨⟨_,rfl,a6⟩,a7⟩|ok v=>
     obtain⟨x,rfl,E⟩:=o;obtain⟨av,aw,a8⟩:=E.form;subst a8;have b2:=Ab E;clear E;have de:B<=jh (Q w2):=by have:=r.aP;have:=r.M.row.lt;omega
     have b3:Y ls<1000:=by have:=Aa bh;have:=Aa ax;omega
     have df:=r.M.row.lt;obtain⟨dg,dh,r2,r3,di,dj,dk⟩:=Afs r.M.row;have dl:=λj=>r.M.row.frozen j;have F:=Ab<|show CV R Es [] L=CV R Es (ls++[v]) (L.drop<|k+1)from Aa K;have a9:=Ab<|Aa aL v (by first|rfl|trivial);have b4:∀q,jO (Value.slice f (Y ls) ad)=Z q->∃N,f=Z N/\jW N=q:=λq hq=>by cases f with|none=>cases hq|some N=>exact⟨N,rfl,P1⟩
     have br:EP y f g:=⟨Aa cw,λN ah h9=>Ad ar r.bG Ob<|by rw[ah,<-h9];rfl⟩;have bs:EP y f C:=⟨bK,λN ah h9=>Ad d r.bG Ob<|by rw[ah,<-h9];rfl⟩;have bt:=Ab<|L7 br bs;have b5:=Ab λ(w':jD) (b6:Below B w2 w')=>Aa cN w'<|(a3.mono S2).trans b6;clear b4 br bs K aL aK;dsimp only;go_wp2_with (at_builtin;refine J6 _ rfl _ _ 66 rfl B 137 cn jT 1 16 underlying66 co cp cq cr rfl Ob _ _ _ rfl (K7 r.bG _) ⟨jh<|Q w2,0,V⟩ 1 1 [jJ av aw] rfl rfl ?c1 ?c2 Ob ?c3 ?c4 ?c5 (jh (Q w2)+1) Oz ?_);case c1=>exact A6 _ _ _ _ Oz
     case c2=>intro u hu;simp at hu;subst hu;rfl
     case c3=>unfold maxLen;omega
     case c4=>omega
     case c5=>simp;omega
     intro g7 b7 b8 bu bv hat dm;obtain⟨bw,b9,bx,ba⟩:=r.push (Aa b2) b3 bu bv hat<|Aa b5;have dn:jE b8 (jB y 6 V)=Z (X f (Y ls) ad):=bw.cell 6;have dp:=λj=>bw.frozen j;have ca:Ah _ g bj 88:=⟨(ba g ar.lt (Aa bt).1).trans ar.out⟩;have cb:Ah _ C #[T U 0,T U 0,X V 0 0] 33:=⟨(ba C d.lt (Aa bt).2).trans d.out⟩;have cc:=ag.trans bx;have cd:=Ab (show Y (ls++[v])<=k+1 by rw[zC];have:=Aa bh;simp;omega);clear bv hat bu ba bx;go_wp2;go_roundw;case rel=>exact⟨k+1,ls++[v],Z<|jB g7 0 V,b7,bf++[jJ av aw],Aa ax,O0,Ab ⟨Aa a9,Aa F,Aa cd,Aa bI⟩,b9,ca,cb,cc⟩
     have:=Aa ax;simp[intOf];omega
   have a:=Ar wr<|jC #[T U k,T U I,jA nm,jJ aI u3,jJ aH u4] 88;have O:=Ah.new wr #[T U k,T U I,jA nm,jJ aI u3,jJ aH u4] 88;obtain⟨bl,bm,bn,bo,bp,_⟩:=Cp O;have A:=z.below a;have af:=aM.aB a NLN;have az:=Gk.aB a NLN;have ai:=aN.trans<|a.mono S2;have aq:=Ab<|Aa aA _ ⟨A.M,Aa aE _ a e<|zX<|Aa bH⟩;go_wp2_with fail;refine(Aa aq).mono ?_;rintro J w2 ⟨o,n⟩;have r:=A.below n;have d:=af.aB n NLN;have ar:=az.aB n NLN;have ag:=ai.trans<|n.mono H8;have a3:=a.trans<|n.mono a.size;obtain⟨bZ,l1,l2,b0,b1,_⟩:=Cp<|O.aB n NLN;clear aq;cases bq with|err c=>obtain⟨x,ap,rfl,au⟩:=o;obtain⟨a4,rfl⟩:=au.form;have F:=Ab<|Aa K;obtain⟨aT,aU,x2⟩:=Co d;have aV:=λj=>d.frozen j;have ab:=d.set 0<|T U 0;have aX:=λj=>ab.frozen j;have ac:=ab.set 1<|T U 0;have aY:=λj=>ac.frozen j;have a5:=ac.set 2<|X V 0 0;obtain⟨S,W,aa⟩:=Co a5;have a6:=((au.set d Ob 0<|T U 0).set ab Ob 1<|T U 0).set ac Ob 2<|X V 0 0;have a7:=((ag.setCell (p:=(jB C 0 V)) H<|T U 0).setCell (p:=(jB C 1 V)) H<|T U 0).setCell (p:=(jB C 2 V)) H<|X V 0 0;dsimp only;go_wp2_with fail;refine K8 (v:=jS #[jL #[T U 0,T U 0,X V 0 0],jJ 245 a4]) O7 rfl ?_;rw[Aa F];exact⟨⟨_,rfl,a6⟩,a7⟩|ok v=>
    obtain⟨x,rfl,E⟩:=o;obtain⟨av,aw,a8⟩:=E.form;subst a8;have b2:=Ab E;clear E;have de:B<=jh (Q w2):=by have:=r.aP;have:=r.M.row.lt;omega
    have b3:Y ls<1000:=by have:=Aa bh;have:=Aa ax;omega
    have df:=r.M.row.lt;obtain⟨dg,dh,r2,r3,di,dj,dk⟩:=Afs r.M.row;have dl:=λj=>r.M.row.frozen j;have F:=Ab<|show CV R Es [] L=CV R Es (ls++[v]) (L.drop<|k+1)from Aa K;have a9:=Ab<|Aa aL v (by first|rfl|trivial);have b4:∀q,jO (Value.slice f (Y ls) ad)=Z q->∃N,f=Z N/\jW N=q:=λq hq=>by cases f with|none=>cases hq|some N=>exact⟨N,rfl,P1⟩
    have br:EP y f g:=⟨Aa cw,λN ah h9=>Ad ar r.bG Ob<|by rw[ah,<-h9];rfl⟩;have bs:EP y f C:=⟨bK,λN ah h9=>Ad d r.bG Ob<|by rw[ah,<-h9];rfl⟩;have bt:=Ab<|L7 br bs;have b5:=Ab λ(w':jD) (b6:Below B w2 w')=>Aa cN w'<|(a3.mono S2).trans b6;clear b4 br bs K aL aK;dsimp only;go_wp2_with (at_builtin;refine J6 _ rfl _ _ 66 rfl B 137 cn jT 1 16 underlying66 co cp cq cr rfl Ob _ _ _ rfl (K7 r.bG _) ⟨jh<|Q w2,0,V⟩ 1 1 [jJ av aw] rfl rfl ?c1 ?c2 Ob ?c3 ?c4 ?c5 (jh (Q w2)+1) Oz ?_);case c1=>exact A6 _ _ _ _ Oz
    case c2=>intro u hu;simp at hu;subst hu;rfl
    case c3=>unfold maxLen;omega
    case c4=>omega
    case c5=>simp;omega
    intro g7 b7 b8 bu bv hat dm;obtain⟨bw,b9,bx,ba⟩:=r.push (Aa b2) b3 bu bv hat<|Aa b5;have dn:jE b8 (jB y 6 V)=Z (X f (Y ls) ad):=bw.cell 6;have dp:=λj=>bw.frozen j;have ca:Ah _ g bj 88:=⟨(ba g ar.lt (Aa bt).1).trans ar.out⟩;have cb:Ah _ C #[T U 0,T U 0,X V 0 0] 33:=⟨(ba C d.lt (Aa bt).2).trans d.out⟩;have cc:=ag.trans bx;have cd:=Ab (show Y (ls++[v])<=k+1 by rw[zC];have:=Aa bh;simp;omega);clear bv hat bu ba bx;go_wp2;go_roundw;case rel=>exact⟨k+1,ls++[v],Z<|jB g7 0 V,b7,bf++[jJ av aw],Aa ax,O0,Ab ⟨Aa a9,Aa F,Aa cd,Aa bI⟩,b9,ca,cb,cc⟩
    have:=Aa ax;simp[intOf];omega
  obtain⟨ht,bi⟩:=TU (Aa bF) e1 e2 aJ;have aA:=Ab<|DQ (aS:=aS) (aO:=aO) (aZ:=aZ) (aW:=aW) (G:=EP y f) y R a1 aC c1 a2 n2 c2 f ad ls (ls.map Vv.ty) rfl e e3 1 ht;have aK:=Ab (show ∀v,At R ls e=.ok v->v.ty=1 from λv E=>AZ rfl e 1 ht v E);have aL:=Ab (show ∃ns tt,AC Es (AE,[],[]) (L.take<|k+1)=Z (ns,ls.map Vv.ty,tt)from⟨bD.1,bD.2.2,by rw[Aa cK];exact congrArg Z<|Prod.ext rfl (Prod.ext ((Aa cL).trans bi) rfl)⟩);have K:=Ab<|(Aa bE).trans<|TZ e1 e2 aJ;have ay:=Ab λ(ae:jD) (bT:EvM (EP y f) aS aO aZ aW y R a1 aC c1 a2 n2 c2 f ad ls ae) (bU:∀e∈Es,e.mem (EP y f) ae)=>Ms y R a1 aC c1 a2 n2 c2 f ad ls (ls.map Vv.ty) rfl Es s.aD (Aa bS) (λdc dd z1 z2=>by have:=Mr (Aa bR) z1 z2;rw[bi]at this;exact this) ae bT bU;rw[bX]at aA;generalize At R ls e=bq at aA aK K;have cQ:(s.aF==1)=jI:=zA.2 aJ;clear ht bi aJ e1 e2;generalize CL Es s.aD=cP at bB ay aQ;generalize Ju R ls Es s.aD=dB at ay K;generalize s.aF=I at bk cQ;generalize s.name=nm at bz;obtain rfl|⟨aH,u4,rfl⟩:=aQ
  .have a:=Ar wr<|jC #[T U k,T U I,jA nm,jJ aI u3,jT] 88;have O:=Ah.new wr #[T U k,T U I,jA nm,jJ aI u3,jT] 88;obtain⟨bl,bm,bn,bo,bp,_⟩:=Cp O;have A:=z.below a;have af:=aM.aB a NLN;have az:=Gk.aB a NLN;have ai:=aN.trans<|a.mono S2;have aq:=Ab<|Aa aA _ ⟨A.M,Aa aE _ a e<|zX<|Aa bH⟩;go_wp2_with fail;refine(Aa aq).mono ?_;rintro J w2 ⟨o,n⟩;have r:=A.below n;have d:=af.aB n NLN;have ar:=az.aB n NLN;have ag:=ai.trans<|n.mono H8;have a3:=a.trans<|n.mono a.size;obtain⟨bZ,l1,l2,b0,b1,_⟩:=Cp<|O.aB n NLN;clear aq;cases bq with|err c=>obtain⟨x,ap,rfl,au⟩:=o;obtain⟨a4,rfl⟩:=au.form;have F:=Ab<|Aa K;obtain⟨aT,aU,x2⟩:=Co d;have aV:=λj=>d.frozen j;have ab:=d.set 0<|T U 0;have aX:=λj=>ab.frozen j;have ac:=ab.set 1<|T U 0;have aY:=λj=>ac.frozen j;have a5:=ac.set 2<|X V 0 0;obtain⟨S,W,aa⟩:=Co a5;have a6:=((au.set d Ob 0<|T U 0).set ab Ob 1<|T U 0).set ac Ob 2<|X V 0 0;have a7:=((ag.setCell (p:=(jB C 0 V)) H<|T U 0).setCell (p:=(jB C 1 V)) H<|T U 0).setCell (p:=(jB C 2 V)) H<|X V 0 0;dsimp only;go_wp2_with fail;refine K8 (v:=jS #[jL #[T U 0,T U 0,X V 0 0],jJ 245 a4]) O7 rfl ?_;rw[Aa F];exact⟨⟨_,rfl,a6⟩,a7⟩|ok v=>
    obtain⟨x,rfl,E⟩:=o;obtain⟨av,aw,a8⟩:=E.form;subst a8;obtain⟨b,rfl⟩:=Vv.bC<|Aa aK v rfl;obtain⟨rfl,rfl⟩:av=140/\aw=.bool b:=by have ah:Value.iface av aw=jJ 140 (.bool b):=E;exact⟨by injection ah,by injection ah⟩
    cases b with|true=>have F:=Ab<|Aa K;dsimp only;have aj:=Ab<|Aa ay _ r.M<|Aa aE _ a3;have aR:=d.lt;go_wp2_with fail;refine(Aa aj).mono ?_;intro J bV o;obtain⟨D,ak,al,ao,ap,rfl,P⟩:=o.dW;have l:=d.aB P.2 NLN;obtain⟨aT,aU,x2⟩:=Co l;have aV:=λj=>l.frozen j;have aX:=λj=>(l.set 0<|T U D).frozen j;have aY:=λj=>((l.set 0<|T U D).set 1<|T U 0).frozen j;obtain⟨S,W,aa⟩:=Co<|((l.set 0<|T U D).set 1<|T U 0).set 2<|X ak al ao;have a0:=Ab<|P.store l aR H ag;clear P o aj;dsimp only;go_wp2_with fail;refine K8 (v:=jS #[jL #[T U D,T U 0,X ak al ao],ap]) O7 rfl ?_;rw[Aa F];exact Aa a0|false=>
     have F:=Ab<|Aa K;have a9:=Ab<|Aa aL;dsimp only;go_wp2;go_roundw;case rel=>exact⟨k+1,ls,f,ad,bf,Aa ax,O0,Ab ⟨Aa a9,Aa F,Nat.le_succ_of_le<|Aa bh,Aa bI⟩,r,ar,d,ag⟩
     have:=Aa ax;simp[intOf];omega
  have a:=Ar wr<|jC #[T U k,T U I,jA nm,jJ aI u3,jJ aH u4] 88;have O:=Ah.new wr #[T U k,T U I,jA nm,jJ aI u3,jJ aH u4] 88;obtain⟨bl,bm,bn,bo,bp,_⟩:=Cp O;have A:=z.below a;have af:=aM.aB a NLN;have az:=Gk.aB a NLN;have ai:=aN.trans<|a.mono S2;have aq:=Ab<|Aa aA _ ⟨A.M,Aa aE _ a e<|zX<|Aa bH⟩;go_wp2_with fail;refine(Aa aq).mono ?_;rintro J w2 ⟨o,n⟩;have r:=A.below n;have d:=af.aB n NLN;have ar:=az.aB n NLN;have ag:=ai.trans<|n.mono H8;have a3:=a.trans<|n.mono a.size;obtain⟨bZ,l1,l2,b0,b1,_⟩:=Cp<|O.aB n NLN;clear aq;cases bq with|err c=>obtain⟨x,ap,rfl,au⟩:=o;obtain⟨a4,rfl⟩:=au.form;have F:=Ab<|Aa K;obtain⟨aT,aU,x2⟩:=Co d;have aV:=λj=>d.frozen j;have ab:=d.set 0<|T U 0;have aX:=λj=>ab.frozen j;have ac:=ab.set 1<|T U 0;have aY:=λj=>ac.frozen j;have a5:=ac.set 2<|X V 0 0;obtain⟨S,W,aa⟩:=Co a5;have a6:=((au.set d Ob 0<|T U 0).set ab Ob 1<|T U 0).set ac Ob 2<|X V 0 0;have a7:=((ag.setCell (p:=(jB C 0 V)) H<|T U 0).setCell (p:=(jB C 1 V)) H<|T U 0).setCell (p:=(jB C 2 V)) H<|X V 0 0;dsimp only;go_wp2_with fail;refine K8 (v:=jS #[jL #[T U 0,T U 0,X V 0 0],jJ 245 a4]) O7 rfl ?_;rw[Aa F];exact⟨⟨_,rfl,a6⟩,a7⟩|ok v=>
   obtain⟨x,rfl,E⟩:=o;obtain⟨av,aw,a8⟩:=E.form;subst a8;obtain⟨b,rfl⟩:=Vv.bC<|Aa aK v rfl;obtain⟨rfl,rfl⟩:av=140/\aw=.bool b:=by have ah:Value.iface av aw=jJ 140 (.bool b):=E;exact⟨by injection ah,by injection ah⟩
   cases b with|true=>have F:=Ab<|Aa K;dsimp only;have aj:=Ab<|Aa ay _ r.M<|Aa aE _ a3;have aR:=d.lt;go_wp2_with fail;refine(Aa aj).mono ?_;intro J bV o;obtain⟨D,ak,al,ao,ap,rfl,P⟩:=o.dW;have l:=d.aB P.2 NLN;obtain⟨aT,aU,x2⟩:=Co l;have aV:=λj=>l.frozen j;have aX:=λj=>(l.set 0<|T U D).frozen j;have aY:=λj=>((l.set 0<|T U D).set 1<|T U 0).frozen j;obtain⟨S,W,aa⟩:=Co<|((l.set 0<|T U D).set 1<|T U 0).set 2<|X ak al ao;have a0:=Ab<|P.store l aR H ag;clear P o aj;dsimp only;go_wp2_with fail;refine K8 (v:=jS #[jL #[T U D,T U 0,X ak al ao],ap]) O7 rfl ?_;rw[Aa F];exact Aa a0|false=>
    have F:=Ab<|Aa K;have a9:=Ab<|Aa aL;dsimp only;go_wp2;go_roundw;case rel=>exact⟨k+1,ls,f,ad,bf,Aa ax,O0,Ab ⟨Aa a9,Aa F,Nat.le_succ_of_le<|Aa bh,Aa bI⟩,r,ar,d,ag⟩
    have:=Aa ax;simp[intOf];omega
 have e:k=m:=Oa;obtain⟨dq,cS,dr⟩:=Aa cW;exact K4 dr ((Aa bL).2.2.2 dq cS<|by rw[e,<-Aa cs];exact cS)
end
end Go.Proofs.YtlcfoihgfcmfeaaGreatDoor
