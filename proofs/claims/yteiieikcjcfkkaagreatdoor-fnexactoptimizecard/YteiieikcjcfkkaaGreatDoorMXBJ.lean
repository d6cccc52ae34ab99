import Derived.Test.YteiieikcjcfkkaaGreatDoorJB
import Derived.Test.YteiieikcjcfkkaaGreatDoorMXAW
import Derived.Test.YteiieikcjcfkkaaGreatDoorMXBI
open Go.Proofs.Tryz
open Option renaming none->T,some->X
open Go.Value renaming int->U,slice->Y,string->Q,agg->jG,pointer->jK,tuple->jO,ownBlock->ja
open Go.IntKind renaming i64->V
open Go renaming World->Z,Value->R,Addr->jD,Calls->jE,bodyPost_ret->jN,results->jR
open Bool renaming true->jA,false->jC
open Go.Obj renaming cells->jF
open Go.Ending renaming returned->jH
open Go.RowKit renaming intOf->jI
open Go.World renaming size_alloc->jW,ownsRow_nil->jX
open Option.some renaming inj->jb
open Go.Proofs.Tryz renaming prog->j4
namespace Go.Proofs.YteiieikcjcfkkaaGreatDoor
open Go.RowKit
set_option linter.unusedSimpArgs false
set_option linter.unnecessarySimpa false
set_option linter.unusedVariables false
variable {nm:ByteArray}{st s2:Gn}{t c:Int}{S:List (Nat×Nat)}{ns:List ByteArray}{Es:List Ex}{ts tt:List Int}{N:List Nd}{L:List St}{a b n f:Nat}{x:Option jD}{s:St}{d lv:R}{w:Z}
theorem Cg.ty_one {i:Nat}{e:Ex}(t:Cg N i e):∀{f:Ex},Cg N i f->∀ts,Al ts e=Al ts f/\A7 ts e=A7 ts f:=by
 induction t with
 |int h j d=>intro f u ts;rcases u.inv h with⟨o,b⟩|⟨o,b⟩|⟨o,b⟩|⟨o,b⟩|⟨o,b⟩|⟨o,b⟩|⟨o,b⟩|⟨o,b⟩|⟨o,b⟩|⟨o,b⟩<;>first|omega|(subst b;exact⟨rfl,rfl⟩)
 |text h j d=>intro f u ts;rcases u.inv h with⟨o,b⟩|⟨o,b⟩|⟨o,b⟩|⟨o,b⟩|⟨o,b⟩|⟨o,b⟩|⟨o,b⟩|⟨o,b⟩|⟨o,b⟩|⟨o,b⟩<;>first|omega|(subst b;exact⟨rfl,rfl⟩)
 |bool h j d=>intro f u ts;rcases u.inv h with⟨o,b⟩|⟨o,b⟩|⟨o,b⟩|⟨o,b⟩|⟨o,b⟩|⟨o,b⟩|⟨o,b⟩|⟨o,b⟩|⟨o,b⟩|⟨o,b⟩<;>first|omega|(subst b;exact⟨rfl,rfl⟩)
 |name h j d=>intro f u ts;rcases u.inv h with⟨o,b⟩|⟨o,b⟩|⟨o,b⟩|⟨o,b⟩|⟨o,b⟩|⟨o,b⟩|⟨o,b⟩|⟨o,b⟩|⟨o,b⟩|⟨o,b⟩<;>first|omega|(subst b;exact⟨rfl,rfl⟩)
 |attr h j d=>intro f u ts;rcases u.inv h with⟨o,b⟩|⟨o,b⟩|⟨o,b⟩|⟨o,b⟩|⟨o,b⟩|⟨o,b⟩|⟨o,b⟩|⟨o,b⟩|⟨o,b⟩|⟨o,b⟩<;>first|omega|(subst b;exact⟨rfl,rfl⟩)
 |lett h j d=>intro f u ts;rcases u.inv h with⟨o,b⟩|⟨o,b⟩|⟨o,b⟩|⟨o,b⟩|⟨o,b⟩|⟨o,b⟩|⟨o,b⟩|⟨o,b⟩|⟨o,b⟩|⟨o,b⟩<;>first|omega|(subst b;exact⟨rfl,rfl⟩)
 |set h j d a n c=>intro f u ts;rcases u.inv h with⟨o,b⟩|⟨o,b⟩|⟨o,b⟩|⟨o,b⟩|⟨o,b⟩|⟨o,b⟩|⟨o,b⟩|⟨o,b⟩|⟨o,b⟩|⟨o,b⟩<;>first|omega|(obtain⟨_,_,_,b⟩:=b;subst b;exact⟨rfl,rfl⟩)
 |un h j d hi t y=>
  intro f u ts;rcases u.inv h with⟨o,b⟩|⟨o,b⟩|⟨o,b⟩|⟨o,b⟩|⟨o,b⟩|⟨o,b⟩|⟨o,b⟩|⟨o,x,e',g,k,b⟩|⟨o,b⟩|⟨o,b⟩<;>first|omega|skip
  subst b;rw[d]at g;obtain rfl:=Int.ofNat.inj (List.cons.inj g).1;obtain⟨l,m⟩:=y k ts;simp only[A7,Al,l,m,and_self]
 |bin h j d hi t u p q=>
  intro f v ts;rcases v.inv h with⟨o,b⟩|⟨o,b⟩|⟨o,b⟩|⟨o,b⟩|⟨o,b⟩|⟨o,b⟩|⟨o,b⟩|⟨o,b⟩|⟨o,x,A,e',B,g,k,r,b⟩|⟨o,b⟩<;>first|omega|skip
  subst b;rw[d]at g;simp only[List.cons.injEq,and_true,Int.natCast_inj]at g;obtain⟨rfl,rfl⟩:=g;obtain⟨l,m⟩:=p k ts;obtain⟨s,w⟩:=q r ts;simp only[A7,Al,l,m,s,w,and_self]
 |ite h j d hi t u v p q C=>
  intro f z ts;rcases z.inv h with⟨o,b⟩|⟨o,b⟩|⟨o,b⟩|⟨o,b⟩|⟨o,b⟩|⟨o,b⟩|⟨o,b⟩|⟨o,b⟩|⟨o,b⟩|⟨o,x,A,F,e',B,G,g,k,r,D,b⟩<;>first|omega|skip
  subst b;rw[d]at g;simp only[List.cons.injEq,and_true,Int.natCast_inj]at g;obtain⟨rfl,rfl,rfl⟩:=g;obtain⟨l,m⟩:=p k ts;obtain⟨s,w⟩:=q r ts;obtain⟨l1,E⟩:=C D ts;simp only[A7,Al,l,m,s,w,l1,E,and_self]
def MK (ts:List Int):List Ex->Option (List Int)
 |[]=>X []
 |e ::r=>(Al ts e).bind fun _=>(MK ts r).map fun l=>A7 ts e++l
theorem Ym (ys:List (Option Int)):∀(a:List (Option Int)),CQ (a++ys)=(CQ a).bind fun k=>(CQ ys).map (k++ ·)
 |[]=>by cases h:CQ ys<;>simp[CQ,h]
 |none ::r=>rfl
 |some t ::r=>by
  rw[List.cons_append,CQ,CQ,Ym ys r];cases CQ r<;>cases CQ ys<;>rfl
theorem Yn:∀{os:List (Option Int)} {K:List Int},CQ os=X K->∀o∈os,∃t,o=X t
 |none ::_,K,h,o,ho=>by cases h
 |some t ::r,K,h,o,ho=>by
  rw[CQ]at h;obtain⟨a,h1,_⟩:=Option.map_eq_some_iff.1 h;rcases zP.1 ho with e|e
  ·exact⟨t,e⟩
  ·exact Yn h1 o e
def AiW (N:List Nd):List Nat->List Ex->Prop
 |[],[]=>True
 |q ::qs,e ::es=>Cg N q e/\AiW N qs es
 |_,_=>False
theorem Cg.kids {N:List Nd}{i:Nat}{e:Ex}(t:Cg N i e){x:Nd}(hx:N[i]? =X x):∃g:List Nat,x.kids=g.map (fun (q:Nat)=>(q:Int))/\AiW N g e.kids:=by
 have d:∀{y:Nd},N[i]? =X y->y=x:=fun k=>jb (k.symm.trans hx);cases t with
 |int h f b=>obtain rfl:=d h;exact⟨[],b,trivial⟩
 |text h f b=>obtain rfl:=d h;exact⟨[],b,trivial⟩
 |bool h f b=>obtain rfl:=d h;exact⟨[],b,trivial⟩
 |set h f b a n c=>obtain rfl:=d h;exact⟨[],b,trivial⟩
 |name h f b=>obtain rfl:=d h;exact⟨[],b,trivial⟩
 |attr h f b=>obtain rfl:=d h;exact⟨[],b,trivial⟩
 |lett h f b=>obtain rfl:=d h;exact⟨[],b,trivial⟩
 |@un _ k _ _ h f b hi t=>obtain rfl:=d h;exact⟨[k],b,t,trivial⟩
 |@bin _ k l _ _ _ h f b hi t u=>obtain rfl:=d h;exact⟨[k,l],b,t,u,trivial⟩
 |@ite _ k l m _ _ _ _ h f b hi t u v=>obtain rfl:=d h;exact⟨[k,l,m],b,t,u,v,trivial⟩
theorem Ahz (ts:List Int):∀(e:Ex),(Al ts e).map (fun _=>A7 ts e)=(MK ts e.kids).bind fun l=>(Al ts e).map fun t=>l++[t]
 |.int ..| .text ..| .bool ..| .set ..| .name ..| .attr .. =>rfl
 |.lett i n=>by
  simp only[Ex.kids,MK,zm,A7,List.nil_append];cases Al ts (.lett i n)<;>rfl
 |.un i op k=>by
  simp only[Ex.kids,MK,A7];cases h:Al ts k with
  |none=>simp[Al,h]
  |some a=>cases h2:Al ts (.un i op k)<;>simp
 |.bin i op l f=>by
  simp only[Ex.kids,MK,A7];cases h:Al ts l with
  |none=>simp[Al,h]
  |some a=>cases h1:Al ts f with
   |none=>simp[Al,h,h1]
   |some b=>cases h2:Al ts (.bin i op l f)<;>simp
 |.ite i c t e=>by
  simp only[Ex.kids,MK,A7];cases h:Al ts c with
  |none=>simp[Al,h]
  |some a=>cases h1:Al ts t with
   |none=>simp[Al,h,h1]
   |some b=>cases h3:Al ts e with
    |none=>simp[Al,h,h1,h3]
    |some d=>cases h2:Al ts (.ite i c t e)<;>simp
theorem Ac0 (m:Es.length=N.length)(n:∀j,(h:j<Es.length)->Cg N j Es[j])(ts:List Int){f:List (Nat×Nat)}(h:Au (N.map Nd.kids) a f b):∀(c:List Ex),AiW N (f.map (fun p=>p.1)) c->CQ ((List.range' a (b-a)).map (ET Es ts))=MK ts c:=by
 induction h with
 |nil a=>
  intro c g
  match c,g with
  |[],_=>simp[CQ,MK]
 |@cons a t b ks f q d hf r s=>
  intro c g
  match c,g with
  |e ::c,⟨he,hr⟩=>
   obtain⟨x,hx,u⟩:∃x,N[t]? =X x/\x.kids=Am ks:=by
    rw[zZ]at d;cases hx:N[t]? with
    |none=>rw[hx]at d;cases d
    |some x=>rw[hx]at d;exact⟨x,rfl,jb d⟩
   obtain⟨v,hq,w⟩:=he.kids hx;have e1:ks.map (fun p=>p.1)=v:=by
    have:=u.symm.trans hq;rw[Am]at this;have h2:=congrArg (List.map Int.toNat) this;simpa[List.map_map,Function.comp_def]using h2
   have z:=r e.kids (by rw[e1];exact w);have A:=s c hr;have D:=q.le;have lb:=hf.le;have B:List.range' a (b-a)=List.range' a (t-a)++t ::List.range' (t+1) (b-(t+1)):=by
    have e2:b-a=(t-a)+(1+(b-(t+1))):=by omega
    rw[e2,<-List.range'_append_1,<-List.range'_append_1];have e3:a+(t-a)=t:=by omega
    rw[e3];rfl
   have i:t<Es.length:=by rw[m];exact he.lt
   have en:ET Es ts t=Al ts e:=by
    rw[ET,zG i];exact((n t i).ty_one he ts).1
   have K:=Ahz ts e;rw[B,zR,List.map_cons,Ym,z,en];simp only[MK];cases C:Al ts e with
   |none=>cases MK ts e.kids<;>rfl
   |some o=>
    rw[C]at K;cases k:MK ts e.kids with
    |none=>rw[k]at K;cases K
    |some l=>
     rw[k]at K;have y:A7 ts e=l++[o]:=jb K;rw[y,CQ,A];cases MK ts c<;>simp
theorem LB (k:Es.length=N.length)(f:∀j,(h:j<Es.length)->Cg N j Es[j])(d:Au (N.map Nd.kids) a S b)(l:b<=N.length):a+((Am S).map (Bj Es)).sum=b:=by
 have c:∀q∈S,q.1<Es.length:=fun q hq=>by have:=(d.lt q hq).2;omega
 have g:=KO d (S.attach.map (fun q=>Es[q.1.1]'(c q.1 q.2))) (by simp) (fun j h1 h2=>by
  have:=f (S[j]).1 (c _ (zH h1));simpa using this)
 have e2:(Am S).map (Bj Es)=(S.attach.map (fun q=>Es[q.1.1]'(c q.1 q.2))).map Ex.cnt:=by
  apply yD
  ·simp[Am]
  ·intro j h1 h2;have i:j<S.length:=by simpa[Am]using h1
   have hq:=c S[j] (zH i);simp only[Am,List.getElem_map,List.getElem_attach];exact Fx rfl (zG hq)
 rw[e2];exact g
theorem Ue (b:Es.length=N.length)(a:∀j,(h:j<Es.length)->Cg N j Es[j])(l:Au (N.map Nd.kids) 0 S N.length){d m:List Int}{x:Int}(h:Am S=d++x ::m):Vc Es ((d.map (Bj Es)).sum) x:=by
 rw[Am]at h;obtain⟨t,u,rfl,h1,h2⟩:=List.map_eq_append_iff.1 h;obtain⟨p,v,rfl,h3,h4⟩:=List.map_eq_cons_iff.1 h2;obtain⟨c,n,f⟩:=l.split;have hc:=LB b a n (by have:=f.le;omega);have hp:=(f.lt p (za ..)).2;have e1:c=(d.map (Bj Es)).sum:=by rw[<-h1];rw[Am]at hc;omega
 have g:p.1<Es.length:=by omega
 have i:Au (N.map Nd.kids) c [p] (p.1+1):=by
  cases f with
  |cons o q hf=>exact .cons o q (.nil _)
 have r:=LB b a i (by omega);have w:Bj Es (p.1:Nat)=Es[p.1].cnt:=Fx rfl (zG g);have s:c+Es[p.1].cnt=p.1+1:=by
  simp only[Am,List.map_cons,List.map_nil,List.sum_cons,List.sum_nil]at r;omega
 rw[<-e1];refine .inr ⟨p.1,Es[p.1],h3.symm,zG g,s,fun ts=>?_⟩;have k:=Ac0 b a ts i [Es[p.1]] ⟨a p.1 g,trivial⟩;rw[show p.1+1-c=Es[p.1].cnt by omega]at k;rw[k,MK,MK];cases Al ts Es[p.1]<;>simp
theorem ML {N:List Nd}{L:List St}(h:Bn N L=jA):∃S,Au (N.map Nd.kids) 0 S N.length/\Am S=L.flatMap Aj:=by
 simp only[Bn,zF,zI]at h;obtain⟨⟨⟨h1,⟨h2,h3⟩,h4⟩,h5⟩,h6⟩:=h;obtain⟨S,b,c⟩:∃S,Cp (N.map Nd.kids) N.length [] 0=X S/\Am S=L.flatMap Aj:=by
  rw[Ei]at h6;cases hq:Cp (N.map Nd.kids) N.length [] 0 with
  |none=>rw[hq]at h6;cases h6
  |some S=>rw[hq]at h6;exact⟨S,rfl,of_decide_eq_true h6⟩
 obtain⟨a,_⟩:=DZ N.length (.nil 0) (fun p hp=>(by cases hp)) b;rw[zU]at a;exact⟨S,a,c⟩
theorem Uf (b:MU N L)(Es:List Ex):∀s∈L,Bj Es s.cond+Bj Es s.grant=((Aj s).map (Bj Es)).sum:=fun s hs=>by
 have c:Bj Es s.grant=((if s.grant≠-1 then [s.grant]else []).map (Bj Es)).sum:=by
  by_cases g:s.grant= -1
  ·rw[if_neg (fun k=>k g),g];rfl
  ·rw[if_pos g];simp
 rw[Aj,zR,List.sum_append,<-c]
 congr 1
 by_cases a:s.kind=3
 ·rw[if_neg (fun k=>k a)];rcases b.stm s hs with q|q|q
  ·omega
  ·omega
  ·rw[q.2];rfl
 ·rw[if_pos a];simp
theorem JJ (h:Bn N L=jA)(a:Es.length=N.length)(b:∀j,(h:j<Es.length)->Cg N j Es[j]):Dl Es L=N.length:=by
 obtain⟨S,c,d⟩:=ML h;have h1:=LB a b c NLN;rw[Iw Es L (Uf (BJ h) Es),<-d];omega
def Vd (Es:List Ex) (L:List St):Prop:=∀k,(h:k<L.length)->Vc Es (Dl Es (L.take k)) L[k].cond/\Vc Es (Dl Es (L.take k)+Bj Es L[k].cond) L[k].grant
theorem QU (h:Bn N L=jA)(b:Es.length=N.length)(c:∀j,(h:j<Es.length)->Cg N j Es[j]):Vd Es L:=fun k l=>by
 obtain⟨S,d,m⟩:=ML h;have f:=BJ h;have n:L=L.take k++L[k] ::L.drop (k+1):=by rw[List.getElem_cons_drop,yN]
 have e1:Dl Es (L.take k)=(((L.take k).flatMap Aj).map (Bj Es)).sum:=Iw Es _ (fun s hs=>Uf f Es s (List.mem_of_mem_take hs));have e2:Am S=(L.take k).flatMap Aj++(Aj L[k]++(L.drop (k+1)).flatMap Aj):=by
  rw[m]
  conv=>lhs;rw[n]
  rw[yE,zi]
 have hs:=zH l;generalize L[k]=s at e2 hs|-;have kc:s.cond= -1\/s.kind≠3:=by
  rcases f.stm s hs with q|q|q
  ·right;omega
  ·right;omega
  ·exact .inl q.2
 rw[e1];refine⟨?_,?_⟩
 ·rcases kc with q|q
  ·exact .inl q
  ·rw[Aj,if_pos q]at e2;exact Ue b c d e2
 ·by_cases g:s.grant= -1
  ·exact .inl g
  ·have o:Aj s=(if s.kind≠3 then [s.cond]else [])++[s.grant]:=by rw[Aj,if_pos g]
   have e3:Am S=((L.take k).flatMap Aj++(if s.kind≠3 then [s.cond]else []))++s.grant ::(L.drop (k+1)).flatMap Aj:=by
    rw[e2,o];simp
   have i:=Ue b c d e3;have e4:(((L.take k).flatMap Aj++(if s.kind≠3 then [s.cond]else [])).map (Bj Es)).sum=(((L.take k).flatMap Aj).map (Bj Es)).sum+Bj Es s.cond:=by
    rw[zR,List.sum_append]
    congr 1
    by_cases a:s.kind=3
    ·rw[if_neg (fun k=>k a)];rcases kc with q|q
     ·rw[q];rfl
     ·exact absurd a q
    ·rw[if_pos a];simp
   rw[e4]at i;exact i
theorem Yl (a:Int)(nm:ByteArray)(st:Gn)(ys:List Int):RP a nm st T ys=T:=by
 unfold RP;split<;>rfl
theorem Ac1 {m:Nat}{e:Ex}(h:AQ Es st s=X s2)(h1:s.cond=(m:Nat))(h2:Es[m]? =X e):∃t,Al st.2.1 e=X t:=by
 rw[AQ,if_neg (by omega),h1,zV,h2]at h;cases a:Al st.2.1 e with
 |none=>dsimp only at h;rw[a,Yl]at h;cases h
 |some t=>exact⟨t,rfl⟩
theorem Aag {m:Nat}{e:Ex}(h:AU Es st s=X s2)(h1:s.grant=(m:Nat))(h2:Es[m]? =X e):∃t,Al st.2.1 e=X t:=by
 rw[AU,if_neg (by omega),h1,zV,h2]at h;cases a:Al st.2.1 e with
 |none=>dsimp only at h;rw[a]at h;cases h
 |some t=>exact⟨t,rfl⟩
theorem Abn {c:Nat}{e:Ex}(h:Aaf Es c e)(a:Al ts e=X t)(j:Nat)(h1:c<=j)(h2:j<c+e.cnt):∃t,ET Es ts j=X t:=by
 have k:=h ts;rw[a]at k;exact Yn k _ (zg.2 ⟨j,List.mem_range'_1.2 ⟨h1,h2⟩,rfl⟩)
theorem OI {Es:List Ex}{L:List St}{st:Gn}(hs:Vd Es L)(p:L.length<=600)(h:AI Es (AO,[],[]) L=X st):∀k,k<=L.length->∀j,j<Dl Es (L.take k)->∃ts t,ts.length<=600/\ET Es ts j=X t
 |0,_,j,hj=>by simp[Dl]at hj
 |k+1,hk,j,hj=>by
  have c:k<L.length:=by omega
  obtain⟨h1,h2⟩:=hs k c;have e1:Dl Es (L.take (k+1))=Dl Es (L.take k)+(Bj Es L[k].cond+Bj Es L[k].grant):=by
   rw[zQ c];simp only[Dl,zR,List.map_cons,List.map_nil,List.sum_append,List.sum_cons,List.sum_nil,zX]
  by_cases r:j<Dl Es (L.take k)
  ·exact OI hs p h k (by omega) j r
  have hq:AI Es (AO,[],[]) (L.take (k+1))≠T:=fun e=>by
   have:=KJ Es L _ _ e;rw[h]at this;cases this
  rw[zQ c,EJ]at hq;cases d:AI Es (AO,[],[]) (L.take k)with
  |none=>rw[d]at hq;exact absurd rfl hq
  |some s1=>
   have o:=(FQ d).2.1;rw[zr]at o;have u:s1.2.1.length<=k:=by simp at o;omega
   rw[d]at hq;cases hc:AQ Es s1 L[k]with
   |none=>rw[zm,Bp,hc]at hq;exact absurd rfl hq
   |some s2=>
    have v:=(F5 hc).2.1;cases hg:AU Es s2 L[k]with
    |none=>rw[zm,Bp,hc,zm,hg]at hq;exact absurd rfl hq
    |some w=>
     by_cases f:j<Dl Es (L.take k)+Bj Es L[k].cond
     ·rcases h1 with q|⟨m,e,a,b,s,g⟩
      ·rw[q]at f;have:Bj Es (-1)=0:=rfl;omega
      ·rw[Fx a b]at f;obtain⟨t,i⟩:=Ac1 hc a b;obtain⟨l,n⟩:=Abn g i j (by omega) f;exact⟨_,l,by omega,n⟩
     ·rcases h2 with q|⟨m,e,a,b,s,g⟩
      ·rw[e1,q]at hj;have:Bj Es (-1)=0:=rfl;omega
      ·rw[e1,Fx a b]at hj;obtain⟨t,i⟩:=Aag hg a b;obtain⟨l,n⟩:=Abn g i j (by omega) (by omega);exact⟨_,l,by omega,n⟩
theorem AaY (h:Bn N L=jA)(c:Es.length=N.length)(b:∀j,(h:j<Es.length)->Cg N j Es[j])(hc:AI Es (AO,[],[]) L=X st):N.all AY=jA:=by
 have d:=BJ h;rw[z1];intro x hx;refine(Jj x).2 ⟨d.fields x hx,fun h7=>?_⟩;obtain⟨j,f,rfl⟩:=zy hx;obtain⟨ts,t,h1,h2⟩:=OI (QU h c b) d.m hc L.length NLN j (by rw[Z2,JJ h c b];exact f);have g:j<Es.length:=by omega
 rw[ET,zG g,zm]at h2;have u:=b j g;rcases u.inv (zG f)with⟨o,a⟩|⟨o,a⟩|⟨o,a⟩|⟨o,a⟩|⟨o,a⟩|⟨o,a⟩|⟨o,a⟩|⟨o,a⟩|⟨o,a⟩|⟨o,a⟩<;>first|omega|skip
 rw[a,Al]at h2;split at h2
 ·rename_i h0;have:=(zd.1 h2).1;omega
 ·cases h2
theorem NA {N:List Nd}{Es d:List Ex}(h1:Es.length=N.length)(h2:d.length=N.length)(l:∀j,(h:j<Es.length)->Cg N j Es[j])(m:∀j,(h:j<d.length)->Cg N j d[j]):∀(L:List St) (st:Gn),AI Es st L=AI d st L
 |[],st=>rfl
 |s ::L,st=>by
  have n:∀k:Nat,(Es[k]? =T/\d[k]? =T)\/∃e f,Es[k]? =X e/\d[k]? =X f/\∀ts,Al ts e=Al ts f/\A7 ts e=A7 ts f:=fun k=>by
   by_cases o:k<N.length
   ·exact .inr ⟨Es[k],d[k],zG _,zG _,(l k (by omega)).ty_one (m k (by omega))⟩
   ·exact .inl ⟨yA (by omega),yA (by omega)⟩
  have c:AQ Es st s=AQ d st s:=by
   rw[AQ,AQ];rcases n s.cond.toNat with⟨a,b⟩|⟨e,f,a,b,k⟩
   ·rw[a,b]
   ·rw[a,b];dsimp only;rw[(k st.2.1).1,(k st.2.1).2]
  have g:∀i,AU Es i s=AU d i s:=fun i=>by
   rw[AU,AU];rcases n s.grant.toNat with⟨a,b⟩|⟨e,f,a,b,k⟩
   ·rw[a,b]
   ·rw[a,b];dsimp only;rw[(k i.2.1).1,(k i.2.1).2]
  rw[AI,AI,Bp,Bp,c];simp only[g,NA h1 h2 l m L]
set_option maxRecDepth 100000
set_option maxHeartbeats 6400000
theorem Aba {ys:List Int}(h:nm ∉ st.1):RP 1 nm st (X t) ys=X (st.1++[nm],st.2.1++[t],st.2.2++ys):=by
 unfold RP;rw[if_pos rfl];exact if_neg h
theorem Ud {ys:List Int}(h:nm∈st.1):RP 1 nm st (X t) ys=T:=by
 unfold RP;rw[if_pos rfl];exact if_pos h
theorem Xr {a:Int}{ys:List Int}(b:a≠1):RP a nm st (X 1) ys=X (st.1,st.2.1,st.2.2++ys):=by
 unfold RP;rw[if_neg b];exact if_pos rfl
theorem AcW {a:Int}{t:Int}{ys:List Int}(b:a≠1)(c:t≠1):RP a nm st (X t) ys=T:=by
 unfold RP;rw[if_neg b];exact if_neg c
theorem Lm.read {B lb:Nat}{a:Option jD}{k:Nat}(h:Lm B lb ns ts tt d lv (Y a k f) w){i:Nat}(b:tt[i]? =X t):∃g,a=X ⟨g,0,T⟩/\w.cell? ⟨g,i,T⟩=X (U V t)/\(i:Int)<k:=by
 have hi:=(zd.1 b).1;obtain⟨x,c,e,hx⟩:=Ae h.types;cases e;obtain⟨g,hg,_,hc⟩:=hx (by omega);exact⟨g,hg,hc i _ (by rw[Aq,zZ,b];rfl),by omega⟩
theorem Lm.nmsAt {B lb:Nat}{c:Nat}{lv a:R}(h:Lm B lb ns ts tt (Y x n c) lv a w):Nms w x ns/\w.cell? ⟨lb,0,T⟩=X (Y x n c):=by
 obtain⟨y,c',e,hx⟩:=Ae h.names;cases e;refine⟨fun j b=>?_,h.row.cell 0⟩;obtain⟨g,hg,_,hc⟩:=hx (by omega);have d:=(h.names.lt g (by rw[hg];rfl)).2;exact⟨g,0,hg,d,by rw[zU];exact hc j _ (by rw[zZ,zG b];rfl)⟩
theorem Ls.size {B a lb b c:Nat}{ns:List ByteArray}{ts tt:List Int}{d lv f:R}{S:Array R}{g i:Int}{w0 w:Z}(h:Ls B a lb b c ns ts tt d lv f S g i w0 w):B<=w.heap.size:=by have:=h.S.lt;have:=h.ord;omega
def AhO (o:Option Gn) (w:Z) (r:Ending) (w':Z):Prop:=
 (∃ (B lb:Nat) (ns:List ByteArray) (ts tt:List Int) (nv lv tv:R),o=X (AO++ns,ts,tt)/\r=jH (jO #[tv,jK (X ⟨lb,0,T⟩),jG #[U V 0,U V 0]])/\Lm B lb ns ts tt nv lv tv w'/\w.heap.size<=lb/\Below w.heap.size w w')\/
 (o=T/\(∃code a,r=jH (jO #[Y T 0 0,jK T,jG #[U V code,U V a]])/\code≠0)/\Below w.heap.size w w')
theorem AcX {b:Int}{e:Ex}(he:Es[a]? =X e):AQ Es st ⟨b,nm,a,c⟩=RP b nm st (Al st.2.1 e) (A7 st.2.1 e):=by
 rw[AQ,if_neg (by show ¬ (a:Int)= -1;omega)];show(match Es[(a:Int).toNat]? with|some e=>_|none=>_)=_
 rw[zV,he]
theorem LA {b:Int}{e:Ex}(he:Es[a]? =X e):AU Es st ⟨b,nm,c,a⟩=ckG st (Al st.2.1 e) (A7 st.2.1 e):=by
 rw[AU,if_neg (by show ¬ (a:Int)= -1;omega)];show(match Es[(a:Int).toNat]? with|some e=>_|none=>_)=_
 rw[zV,he]
theorem AfJ {e:Ex}{ys:List Int}(h:(Al ts e).map (fun _=>A7 ts e)=X ys):∃t,Al ts e=X t/\ys=A7 ts e:=by
 obtain⟨t,h1,h2⟩:=Option.map_eq_some_iff.1 h;exact⟨t,h1,h2.symm⟩
theorem Yj {e:Ex}(h:(Al ts e).map (fun _=>A7 ts e)=T):Al ts e=T:=Option.map_eq_none_iff.1 h
structure CdZ (Es:List Ex) (ns:List ByteArray) (ts tt:List Int) (s:St) (ns7:List ByteArray) (ts7 tt7:List Int):Prop where
 cd:AQ Es (AO++ns,ts,tt) s=X (AO++ns7,ts7,tt7)
 len:ns7.length=ts7.length
 typ:∀t∈ts7,1<=t/\t<=4
 few:ts7.length<=601
 room:tt7.length+Bj Es s.grant<=4000
 sp:Vc Es tt7.length s.grant
theorem Yk {b:Z}{c a:Nat}{j k d f:Value}{t:TypeId}(F:Ag b a #[j,k] t)(R:Ag b c #[d,f] t)(h:c≠a)(x y:Value):Ag ((b.setCell ⟨a,0,T⟩ x).setCell ⟨a,1,T⟩ y) a #[x,y] t/\Ag ((b.setCell ⟨a,0,T⟩ x).setCell ⟨a,1,T⟩ y) c #[d,f] t/\Ag ((b.setCell ⟨a,0,T⟩ x).setCell ⟨a,1,T⟩ y).drew a #[x,y] t/\Ag ((b.setCell ⟨a,0,T⟩ x).setCell ⟨a,1,T⟩ y).drew c #[d,f] t:=by
 have g:=(F.set 0 x).set 1 y;have i:=(R.setFar (p:=⟨a,0,T⟩) h x).setFar (p:=⟨a,1,T⟩) h y;exact⟨g,i,⟨g.out⟩,⟨i.out⟩⟩
theorem AcY {fn:Func}{g:Array Value}{h:Option Gn}{w0 c b:Z}{f:Int×Int}{k l:Value}(R:Ag c a #[k,l] 58)(m:w0.heap.size=a)(n:Below a w0 c)(hq:h=T)(hf:f.1≠0)(o:b=(c.setCell ⟨a,0,T⟩ (U V f.1)).setCell ⟨a,1,T⟩ (U V f.2)\/b=((c.setCell ⟨a,0,T⟩ (U V f.1)).setCell ⟨a,1,T⟩ (U V f.2)).drew)(q:∀d:Z,d.cell? ⟨a,0,T⟩=X (U V f.1)->d.cell? ⟨a,1,T⟩=X (U V f.2)->(jR fn g).run j4 d= .ok (jO #[Y T 0 0,jK T,jG #[U V f.1,U V f.2]]) d):bodyPost j4 fn (AhO h w0) Exit.ret { tmps:=g,defers:= [] } b:=by
 have i:=(R.set 0 (U V f.1)).set 1 (U V f.2);have j:=(n.setCell (p:=⟨a,0,T⟩) (Nat.le_refl a) (U V f.1)).setCell (p:=⟨a,1,T⟩) (Nat.le_refl a) (U V f.2);have e:Ag b a #[U V f.1,U V f.2] 58/\Below a w0 b:=by
  rcases o with rfl|rfl
  ·exact⟨i,j⟩
  ·exact⟨⟨i.out⟩,j.drew⟩
 exact jN (q b (e.1.cell 0) (e.1.cell 1)) rfl (.inr ⟨hq,⟨_,_,rfl,hf⟩,by rw[m];exact e.2⟩)
theorem Oq (a b:Option jD)(n c m d:Nat)(N:List Nd)(L:List St)(bX:∀x∈N,AY x=jA)(w0:Z)(bY:GY w0 a n c N)(bc:Jl w0 b m d L)(Es:List Ex)(bZ:Es.length=n)(b0:∀j,(h:j<Es.length)->Cg N j Es[j])(c6:n<=4000)(hm:m<=600)(b6:Vd Es L)(b7:Dl Es L<=4000):
  jE j4 20 #[Y a n c,Y b m d] w0 (AhO (AI Es (AO,[],[]) L) w0):=by
 obtain⟨c7,c8,c9,da,db⟩:=info_parts Kr;obtain⟨dc,dd,de,df,dg⟩:=info_parts Jc;have bd:=Ab (fun (lb:Nat) (ns:List ByteArray) (ts tt:List Int) (ae lv dh:R)=>AfK a n c N bX w0 bY (w0.heap.size+3) (by omega) Es bZ b0 c6 lb ns ts tt ae lv dh);have di:=Ab b6;have dj:=Ab b7;have b8:=Ab bc.len;have bf:=((Ag.new w0 #[U V 0,U V 0] 58).alloc (jF #[Y T 0 0,Y T 0 0] 87)).alloc (jF #[U V 0,U V 0] 58);have aU:=(Ag.new (w0.alloc (jF #[U V 0,U V 0] 58)) #[Y T 0 0,Y T 0 0] 87).alloc (jF #[U V 0,U V 0] 58);have az:=Ag.new ((w0.alloc (jF #[U V 0,U V 0] 58)).alloc (jF #[Y T 0 0,Y T 0 0] 87)) #[U V 0,U V 0] 58;have bg:=(((Av w0 (jF #[U V 0,U V 0] 58)).alloc (by simp) (jF #[Y T 0 0,Y T 0 0] 87)).alloc (by simp;omega) (jF #[U V 0,U V 0] 58))
 have aV:(((w0.alloc (jF #[U V 0,U V 0] 58)).alloc (jF #[Y T 0 0,Y T 0 0] 87)).alloc (jF #[U V 0,U V 0] 58)).heap.size=w0.heap.size+3:=by simp
 simp only[jW]at aU az;clear bX bY b0 bZ b6 b7;go_enter func20,ntmps20
 go_wp2_with fail
 generalize (((w0.alloc (jF #[U V 0,U V 0] 58)).alloc (jF #[Y T 0 0,Y T 0 0] 87)).alloc (jF #[U V 0,U V 0] 58))=dk at bf aU az bg aV|-;have ah:w0.heap.size<w0.heap.size+1/\w0.heap.size+1<w0.heap.size+1+1/\w0.heap.size+1+1<w0.heap.size+3:=by omega
 have bh:Lm (w0.heap.size+3) (w0.heap.size+1) [] [] [] (Y T 0 0) (Y T 0 0) (Y T 0 0) dk:=⟨aU,jX _ _ _ _,jX _ _ _ _,jX _ _ _ _,by omega,fun q h=>(by cases h)⟩
 clear aU;generalize dl:w0.heap.size+1=lb at ah bh az|-;generalize dm:lb+1=D at ah az|-;generalize dn:w0.heap.size+3=B at ah bh bd aV|-;generalize aW:w0.heap.size=g at ah bf bg|-;have J:=Ab aW;have dp:=Ab (show g<=lb/\w0.heap.size<=B by omega);clear dl dm dn aW;go_loopw [8,17] (fun v i wr=>∃ (k:Nat) (ns:List ByteArray) (ts tt:List Int) (ae lv:R) (bi bj:Int),k<=m/\i=U V k/\Hid (AI Es (AO,[],[]) (L.take k)=X (AO++ns,ts,tt)/\ns.length=ts.length)/\Lm B lb ns ts tt ae lv v wr/\Ag wr D #[U V bi,U V bj] 58/\Ag wr g #[U V 0,U V 0] 58/\Below g w0 wr/\B<=wr.heap.size) (fun _ i _=>m-(jI i).toNat)
 case atStart=>exact⟨0,[],[],[],_,_,0,0,zD _,rfl,Ab ⟨by rw[Z3];rfl,rfl⟩,bh,az,bf,bg,by omega⟩
 case round=>
  obtain⟨k,ns,ts,tt,ae,lv,bi,bj,ek,rfl,ar,aX,b9,aA,ai,ca⟩:=hrel;obtain⟨bk,bl,rfl,_⟩:=Ae aX.types;by_cases bm:k<m
  ·have el:(k:Int)<(m:Int):=by omega
   have aj:k<L.length:=by rw[Aa b8];exact bm
   have aW:=Aa J;obtain⟨bs,os,rfl,dq,cb,cc,ce,cf⟩:=bc.cells k aj;have cg:=(ai.cell (p:=⟨bs,os+k*4,T⟩) (by show bs<g;omega)).trans cb;have c1:=(ai.cell (p:=⟨bs,os+k*4+1,T⟩) (by show bs<g;omega)).trans cc;have c2:=(ai.cell (p:=⟨bs,os+k*4+2,T⟩) (by show bs<g;omega)).trans ce;have c3:=(ai.cell (p:=⟨bs,os+k*4+3,T⟩) (by show bs<g;omega)).trans cf;have ch:=bc.sizes _ (zH aj);clear cb cc ce cf dq;obtain⟨l1,bn,ci⟩:=FQ (Aa ar).1;have room:=Tc Es L k aj;have cj:∀t∈ts,1<=t/\t<=4:=ci (fun t h=>by cases h);have ck:tt.length=Dl Es (L.take k):=by simpa using l1
   have dr:ts.length<=k:=by rw[zr]at bn;simp at bn;omega
   obtain⟨aB,P⟩:=Aa di k aj;rw[<-ck]at aB P room;have bo:=Ab (show ∀bp,Bp Es (AO++ns,ts,tt) L[k]=X bp->AI Es (AO,[],[]) (L.take (k+1))=X bp from fun bp e=>by rw[zQ aj,EJ,(Aa ar).1];exact e);have ak:=Ab (show Bp Es (AO++ns,ts,tt) L[k]=T->AI Es (AO,[],[]) L=T from fun e=>KJ Es L _ (k+1) (by rw[zQ aj,EJ,(Aa ar).1];exact e));have aY:=Ab bm;have bq:=Ab (Aa ar).2;have ds:=Aa dj;have aC:=Ab (show tt.length+(Bj Es L[k].cond+Bj Es L[k].grant)<=4000 by omega);have af:=Ab (show ts.length<=600 by omega);have aD:=Ab cj;clear l1 bn ci ck dr room cj ds ar bm aW;generalize L[k]=s at cg c1 c2 c3 ch aB P bo ak aC;clear aj;obtain⟨A,nm,cd,G⟩:=s;dsimp only at cg c1 c2 c3 ch aB P aC;have w:Ls B g lb D wr.heap.size ns ts tt ae lv (Y bk tt.length bl) #[U V A,Q nm,U V cd,U V G] bi bj w0 (wr.alloc (PN A nm cd G)):=⟨aX.below (BRN.alloc NLN _),b9.alloc _,aA.alloc _,Ag.new wr _ _,ai.alloc (by omega) _,⟨ah.1,ah.2.1,ah.2.2,ca⟩⟩
   have dt:B<=wr.heap.size:=ca;clear aX b9 aA ai;go_upto_if 23 with fail
   generalize wr.alloc (PN A nm cd G)=wz at w|-;generalize wr.heap.size=du at w dt|-;have dv:=Ab (show tt.length+Bj Es cd+Bj Es G<=4000 by have:=Aa aC;omega);have cm:=Ab w;clear w;go_cut [8] (fun v dw=>∃ (H:List ByteArray) (C K:List Int) (aE aF:R) (co cp:Int),Hid (CdZ Es ns ts tt ⟨A,nm,cd,G⟩ H C K)/\Ls B g lb D du H C K aE aF v #[U V A,Q nm,U V cd,U V G] co cp w0 dw)
   case first=>
    have w:=Aa cm;obtain⟨aV,dx,dy,dz,dA⟩:=A6 w.S;rcases aB with hc|⟨I,e,hc,he,hp,cq⟩
    ·subst hc;have ag:=Ab (show CdZ Es ns ts tt ⟨A,nm,-1,G⟩ ns ts tt from⟨if_pos rfl,Aa bq,Aa aD,by have:=Aa af;omega,by have:=Aa dv;rw[show Bj Es (-1)=0 from rfl]at this;omega,by rw[show Bj Es (-1)=0 from rfl,zX]at P;exact P⟩);go_wp2_with fail
     go_meet
     exact⟨ns,ts,tt,ae,lv,_,_,ag,w⟩
    ·subst hc;have dB:=Ab (Aa bd lb ns ts tt ae lv (Y bk tt.length bl) (Aa aD) (by have:=Aa af;omega) (by have:=Aa aC;omega) I e he hp cq);have cr:=Ab (show AQ Es (AO++ns,ts,tt) ⟨A,nm,I,G⟩=RP A nm (AO++ns,ts,tt) (Al ts e) (A7 ts e)from AcX he);have dC:=Ab (Fx (k:=(I:Int)) rfl he);rw[Fx (k:=(I:Int)) rfl he]at P;have aZ:=bq;have em:(0 :Int)<=(I:Int):=by omega
     clear he cq;go_wp2_with fail
     refine(Aa dB _ (by show Below _ _ _;rw[Aa J];exact w.low) w.M w.size).mono ?_;rintro au en (⟨a0,dD,aG,rfl,br,cs,b2⟩|⟨aG,⟨dD,a1,bt,rfl,dE,bu⟩,b2⟩)
     ·have aH:=w.tree br cs b2;obtain⟨eo,ep,rfl,_⟩:=Ae br;have bv:=Ab aG;clear br cs aG;obtain⟨a2,bw⟩:∃l,l=tt++a0:=⟨_,rfl⟩
      rw[<-bw]at aH|-;have a3:=Ab bw;clear bw;obtain⟨eq,er⟩:=CD aH.F;have es:=fun j=>aH.F.frozen j;have et:=fun j=>(aH.F.set 0 (U V 0)).frozen j;have X2:=aH.fault 0 0;obtain⟨eu,ev⟩:=CD X2.F;obtain⟨u20,u21,u22,u23,ew⟩:=A6 X2.S;dsimp only;obtain⟨aa,a4,a5⟩:=AfJ (Aa bv);obtain⟨ex,rfl,ey,ez⟩:=X2.M.read (i:=I) (t:=aa) (by rw[Aa a3,a5];exact Abm hp a4);have ct:tt.length+e.cnt=a2.length:=by rw[Aa a3,zC,a5,Ct]
      rw[ct]at P;have a6:=Ab (show a2.length+Bj Es G<=4000 by have:=Aa aC;have:=Aa dC;omega);have dF:=Ab (MV (Aa aD) e aa a4);have aI:=Ab (show AQ Es (AO++ns,ts,tt) ⟨A,nm,I,G⟩=RP A nm (AO++ns,ts,tt) (X aa) a0 by rw[Aa cr,a4,a5]);clear a5 a4 ct;by_cases av:A=1
      ·subst av;by_cases al:nm∈(AO:List ByteArray)
       ·have a7:=(Ip nm AO 0 (Z6 0)).2 al;have ao:=Ab (Aa ak (by rw[Bp,Aa aI,Ud (Z7 _ al)];rfl));clear al;go_wp2_with fail
        refine(Ly _ _).mono ?_;rintro au cu ⟨rfl,b4⟩;have y:=X2.below b4;obtain⟨cv,cw,cx,cy,cz⟩:=A6 y.S;generalize DE nm AO 0=cA at a7|-;dsimp only;have z:=y.below BRN.drew;obtain⟨aJ,aK⟩:=CD z.Rr;have aL:=fun j=>z.Rr.frozen j;obtain⟨bx,bz,bA,bB,bC⟩:=A6 z.S;obtain⟨bD,bE⟩:=CD y.Rr;have bF:=fun j=>y.Rr.frozen j;go_wp2_with fail
        go_region
        all_goals
         go_wp2_with fail
         exact AcY (f:=(8,I)) y.Rr (by rw[Aa J]) y.low (Aa ao) (by simp) (.inr rfl) fun aM g0 g1=>by simp[jR,results20,go_sem,g0,g1]
       ·have a7: ¬ (0<=DE nm AO 0):=fun h=>al ((Ip nm AO 0 (Z6 0)).1 h);obtain⟨ap,cn,rfl,_⟩:=Ae X2.M.names;by_cases aw:nm∈ns
        ·have bG:=(Ip nm ns 0 (Z6 0)).2 aw;have ao:=Ab (Aa ak (by rw[Bp,Aa aI,Ud (List.mem_append_right _ aw)];rfl));clear al aw;go_wp2_with fail
         refine(Ly _ _).mono ?_;rintro au cu ⟨rfl,b4⟩;have y:=X2.below b4;obtain⟨cv,cw,cx,cy,cz⟩:=A6 y.S;generalize DE nm AO 0=cA at a7|-;dsimp only;go_wp2_with fail
         refine(Yf lb ap ns.length cn ns nm _ y.M.nmsAt.2 y.M.row.lt rfl (by have:=Aa aZ;have:=Aa af;omega) y.M.nmsAt.1).mono ?_;rintro au ab ⟨rfl,b5⟩;have o:=y.below b5;obtain⟨dG,dH,dI,dJ,dK⟩:=A6 o.S;generalize DE nm ns 0=dL at bG|-;dsimp only;have z:=o.below BRN.drew;obtain⟨aJ,aK⟩:=CD z.Rr;have aL:=fun j=>z.Rr.frozen j;obtain⟨bx,bz,bA,bB,bC⟩:=A6 z.S;obtain⟨bD,bE⟩:=CD o.Rr;have bF:=fun j=>o.Rr.frozen j;go_wp2_with fail
         go_region
         all_goals
          go_wp2_with fail
          exact AcY (f:=(8,I)) o.Rr (by rw[Aa J]) o.low (Aa ao) (by simp) (.inr rfl) fun aM g0 g1=>by simp[jR,results20,go_sem,g0,g1]
        ·have bG: ¬ (0<=DE nm ns 0):=fun h=>aw ((Ip nm ns 0 (Z6 0)).1 h);have ac:=Ab ((Aa aI).trans (Aba (st:=(AO++ns,ts,tt)) (t:=aa) (ys:=a0) (fun h=>(zN.1 h).elim al aw)));clear al aw;go_wp2_with fail
         refine(Ly _ _).mono ?_;rintro au cu ⟨rfl,b4⟩;have y:=X2.below b4;obtain⟨cv,cw,cx,cy,cz⟩:=A6 y.S;generalize DE nm AO 0=cA at a7|-;dsimp only;go_wp2_with fail
         refine(Yf lb ap ns.length cn ns nm _ y.M.nmsAt.2 y.M.row.lt rfl (by have:=Aa aZ;have:=Aa af;omega) y.M.nmsAt.1).mono ?_;rintro au ab ⟨rfl,b5⟩;have o:=y.below b5;obtain⟨dG,dH,dI,dJ,dK⟩:=A6 o.S;generalize DE nm ns 0=dL at bG|-;dsimp only;obtain⟨dM,cl,rfl,_⟩:=Ae o.M.lets;obtain⟨eA,eB⟩:=CD o.M.row;have z:=o.below BRN.drew;obtain⟨eC,eD⟩:=CD z.M.row;obtain⟨eE,eF,eG,eH,eI⟩:=A6 z.S;have eJ:B<=ab.heap.size:=o.size;have eK:ns.length<=1000:=by have:=Aa aZ;have:=Aa af;omega
         have eL:ts.length<=1000:=by have:=Aa af;omega
         have eM:lb<ab.heap.size:=o.M.row.lt;have cB:g<=lb:=by have:=o.ord;omega
         have eN:g<=B:=by have:=o.ord;omega
         go_wp2_with fail
         have cC:(ab.alloc (jF #[Q nm] 9)).drew.ownsRow B 9 1 (Y ap ns.length cn) ns.length (ns.map Q):=(o.M.names.alloc _).drew;go_region_law (refine step_append_lies _ rfl _ _ 46 rfl B 9 dc (Q ByteArray.empty) 1 16 underlying46 dd de df dg rfl (by decide) (Y ap ns.length cn) ns.length (ns.map Q) rfl cC ⟨ab.heap.size,0,T⟩ 1 1 [Q nm] rfl rfl (A5 ab _ _ _ rfl) (by intro u aN;simp at aN;subst aN;rfl) (by decide) (by unfold maxLen;omega) (by omega) (by simp;omega) _ rfl ?_;intro b1 c1 aO cD O hat eO;have bH:Ag aO lb #[Y ap ns.length cn,Y dM ts.length cl] 87:=⟨(O.block lb (by simp;omega) (fun e=>Ac o.M.row o.M.names (by decide) e.symm)).trans (o.M.row.alloc (jF #[Q nm] 9)).out⟩;have dN:aO.cell? ⟨lb,0,T⟩=X (Y ap ns.length cn)/\aO.frozen? ⟨lb,0,T⟩=jC:=⟨bH.cell 0,bH.frozen 0⟩;obtain⟨dO,dP⟩:=dN)
         all_goals
          have bI:(ab.alloc (jF #[Q nm] 9)).grownBy aO (Y ap ns.length cn).ownBlock:=⟨O.os,O.tape,O.output,O.size,O.block⟩
          obtain⟨_,cE,cF,eP⟩:=o.M.pushN o.size cD bI (hat.imp id (fun e=>by rw[e];show(ab.alloc _).heap.size=_;simp));have cG:=(((Below.refl g ab).alloc (by omega) (jF #[Q nm] 9)).grown bI (by simp;omega) (fun q hq=>by have:=(o.M.names.lt q hq).1;omega)).setCell (p:=⟨lb,0,T⟩) cB (Y (X ⟨b1,0,T⟩) (ns.length+1) c1);have ad:=o.of_kept o.M.names (by decide) (by decide) cE cF cG;clear O bI hat cD cC bH cE cF cG dO dP;generalize aO.setCell ⟨lb,0,T⟩ (Y (X ⟨b1,0,T⟩) (ns.length+1) c1)=a8 at ad|-;obtain⟨eQ,eR⟩:=CD ad.M.row;have eS:B<=a8.heap.size:=ad.size;go_wp2_with (at_builtin;refine wpList_append_lies _ rfl _ _ 24 rfl B 3 c7 (U V 0) 1 8 underlying24 c8 c9 da db rfl (by decide) _ _ _ rfl (World.ownsRow.alloc ad.M.lets _) ⟨a8.heap.size,0,T⟩ 1 1 [U V aa] rfl rfl ?c1 ?c2 (by decide) ?c3 ?c4 ?c5 (a8.heap.size+1) (by simp) ?_)
          case c1=>exact A5 _ _ _ _ (by simp)
          case c2=>intro u aN;simp at aN;subst aN;rfl
          case c3=>unfold maxLen;omega
          case c4=>omega
          case c5=>simp;omega
          intro g7 dQ eT cH O hat eU;obtain⟨cI,cJ,cK,r⟩:=ad.M.pushL ad.size cH O hat;have cL:=(((Below.refl g a8).alloc (by omega) (jF #[U V aa] 3)).grown O (by simp;omega) (fun q hq=>by have:=(ad.M.lets.lt q hq).1;omega)).setCell (p:=⟨lb,1,T⟩) cB (Y (X ⟨g7,0,T⟩) (ts.length+1) dQ);have cM:=ad.of_kept ad.M.lets (by decide) (by decide) cJ cK cL;obtain⟨eV,eW⟩:=CD cI;have eX:=fun j=>cI.frozen j;obtain⟨eY,eZ,e0,e1,e2⟩:=A6 cM.S;clear O hat cH cJ cK cL;have ag:=Ab (show CdZ Es ns ts tt ⟨1,nm,I,G⟩ (ns++[nm]) (ts++[aa]) a2 from⟨by rw[Aa ac,Aa a3];simp only[zT],by rw[zC,zC,Aa aZ];rfl,fun d h=>(zN.1 h).elim (Aa aD d) (fun h=>by simp at h;subst h;exact Aa dF),by rw[zC];have:=Aa af;simp;omega,Aa a6,P⟩);go_wp2_with fail
          go_meet
          exact⟨_,_,_,_,_,_,_,ag,cM⟩
      ·have e4:(A==1)=jC:=zA.2 av;by_cases a9:aa=1
       ·subst a9;have ac:=Ab ((Aa aI).trans (Xr (nm:=nm) (st:=(AO++ns,ts,tt)) (ys:=a0) av));have ag:=Ab (show CdZ Es ns ts tt ⟨A,nm,I,G⟩ ns ts a2 from⟨by rw[Aa ac,Aa a3],Aa bq,Aa aD,by have:=Aa af;omega,Aa a6,P⟩);clear av ac;go_wp2_with fail
        go_meet
        exact⟨_,_,_,_,_,_,_,ag,X2⟩
       ·have e5:(aa !=1)=jA:=zc.2 a9;have ao:=Ab (Aa ak (by rw[Bp,Aa aI,AcW av a9];rfl));clear av a9;have z:=X2.below BRN.drew;obtain⟨aJ,aK⟩:=CD z.Rr;have aL:=fun j=>z.Rr.frozen j;obtain⟨bx,bz,bA,bB,bC⟩:=A6 z.S;obtain⟨bD,bE⟩:=CD X2.Rr;have bF:=fun j=>X2.Rr.frozen j;go_wp2_with fail
        go_region
        all_goals
         go_wp2_with fail
         exact AcY (f:=(9,I)) X2.Rr (by rw[Aa J]) X2.low (Aa ao) (by simp) (.inr rfl) fun aM g0 g1=>by simp[jR,results20,go_sem,g0,g1]
     ·have bJ:=w.F.below b2 w.ord.2.2.1;have dR:=w.Rr.below b2 (by have:=w.ord;omega);have dS:=w.low.trans (b2.mono (by have:=w.ord;omega));have e6:(a1 !=0)=jA:=zc.2 bu;have dT:=Ab bu;have bv:=Ab aG;clear bu aG;have bK:g≠D:=by have:=w.ord;omega
      obtain⟨cN,cO⟩:=CD bJ;have cP:=fun j=>bJ.frozen j;have bL:=(dS.setCell (p:=⟨D,0,T⟩) (by have:=w.ord;show g<=D;omega) (U V a1)).setCell (p:=⟨D,1,T⟩) (by have:=w.ord;show g<=D;omega) (U V bt);obtain⟨bM,W,bN,aP⟩:=Yk bJ dR bK (U V a1) (U V bt);obtain⟨dU,dV⟩:=CD bM;obtain⟨dW,dX⟩:=CD W;have dY:=fun j=>W.frozen j;obtain⟨dZ,d0⟩:=CD bN;obtain⟨aJ,aK⟩:=CD aP;have aL:=fun j=>aP.frozen j;dsimp only;rcases dE with rfl|⟨_,_,_,rfl⟩
      all_goals
       go_wp2_with fail
       go_region
      all_goals
       go_wp2_with fail
       exact AcY (f:=(a1,bt)) W (by rw[Aa J]) bL (Aa ak (by rw[Bp,Aa cr,Yj (Aa bv),Yl];rfl)) (Aa dT) (by first|exact .inr rfl|exact .inl rfl) fun aM g0 g1=>by simp[jR,results20,go_sem,g0,g1]
   case rest=>
    obtain⟨H,C,K,aE,aF,co,cp,ag,r⟩:=hcut;obtain⟨cQ,cR,cS,cT,bO,cU⟩:=Aa ag;dsimp only at bO cU;have ac:=Ab cQ;have cV:=Ab cR;have d1:=Ab cS;have d2:=Ab cT;have a6:=Ab bO;obtain⟨d3,d4,rfl,_⟩:=Ae r.M.types;obtain⟨aV,dx,dy,dz,dA⟩:=A6 r.S;clear cQ cR cS cT bO ag aB P cm;rcases cU with hg|⟨aq,e3,hg,aQ,cW,cX⟩
    ·subst hg;have bP:(H).length=(C).length:=Aa cV;go_wp2_with fail
     go_roundw
     case rel=>exact⟨k+1,H,C,K,aE,aF,_,_,Aa aY,by go_num,Ab ⟨Aa bo _ (by rw[Bp,Aa ac];rfl),bP⟩,r.M,r.F,r.Rr,r.low,r.size⟩
     case measure=>have:=Aa aY;simp[jI];omega
    ·subst hg;have d5:=Ab (Aa bd lb H C K aE aF (Y d3 K.length d4) (Aa d1) (by have:=Aa d2;omega) (by have:=Aa a6;omega) aq e3 aQ cW cX);have d6:=Ab (show Al C e3=T->AU Es (AO++H,C,K) ⟨A,nm,cd,aq⟩=T from fun h=>by rw[LA aQ,h];rfl);have d7:=Ab (show ∀t,Al C e3=X t->t≠4->AU Es (AO++H,C,K) ⟨A,nm,cd,aq⟩=T from fun t h h4=>by rw[LA aQ,h];exact if_neg h4);have d8:=Ab (show Al C e3=X 4->AU Es (AO++H,C,K) ⟨A,nm,cd,aq⟩=X (AO++H,C,K++A7 C e3)from fun h=>by rw[LA aQ,h];rfl);have e7:(0 :Int)<=(aq:Int):=by omega
     clear aQ cX;go_wp2_with fail
     refine(Aa d5 _ (by show Below _ _ _;rw[Aa J];exact r.low) r.M r.size).mono ?_;rintro au e8 (⟨d9,ea,aR,rfl,bQ,cY,b3⟩|⟨aR,⟨ea,ba,bR,rfl,eb,bS⟩,b3⟩)
     ·have aS:=r.tree bQ cY b3;obtain⟨e9,fa,rfl,_⟩:=Ae bQ;have bT:=Ab aR;clear bQ cY aR;obtain⟨ec,bU⟩:∃l,l=K++d9:=⟨_,rfl⟩
      rw[<-bU]at aS|-;have cZ:=Ab bU;clear bU;obtain⟨fb,fc⟩:=CD aS.F;have fd:=fun j=>aS.F.frozen j;have fe:=fun j=>(aS.F.set 0 (U V 0)).frozen j;have E:=aS.fault 0 0;obtain⟨ff,fg⟩:=CD E.F;obtain⟨u30,u31,u32,u33,fh⟩:=A6 E.S;dsimp only;obtain⟨aT,ax,bV⟩:=AfJ (Aa bT);obtain⟨fi,rfl,gc,fj⟩:=E.M.read (i:=aq) (t:=aT) (by rw[Aa cZ,bV];exact Abm cW ax);have ed:=Ab bV;have c0:=Ab ax;clear bV ax;by_cases ay:aT=4
      ·have ee:=Ab (Aa d8 (by rw[<-ay];exact Aa c0));have bP:(H).length=(C).length:=Aa cV;have ef:(aT !=4)=jC:=by rw[ay];rfl
       clear ay;go_wp2_with fail
       go_roundw
       case rel=>exact⟨k+1,H,C,ec,aE,aF,_,_,Aa aY,by go_num,Ab ⟨Aa bo _ (by rw[Bp,Aa ac,Aa cZ,Aa ed];exact Aa ee),bP⟩,E.M,E.F,E.Rr,E.low,E.size⟩
       case measure=>have:=Aa aY;simp[jI];omega
      ·have ax:=Aa c0;have ef:(aT !=4)=jA:=zc.2 ay;have ao:=Ab (Aa ak (by rw[Bp,Aa ac];exact Aa d7 aT ax ay));clear ay ax;have z:=E.below BRN.drew;obtain⟨aJ,aK⟩:=CD z.Rr;have aL:=fun j=>z.Rr.frozen j;obtain⟨bx,bz,bA,bB,bC⟩:=A6 z.S;obtain⟨bD,bE⟩:=CD E.Rr;have bF:=fun j=>E.Rr.frozen j;go_wp2_with fail
       go_region
       all_goals
        go_wp2_with fail
        exact AcY (f:=(9,aq)) E.Rr (by rw[Aa J]) E.low (Aa ao) (by simp) (.inr rfl) fun aM g0 g1=>by simp[jR,results20,go_sem,g0,g1]
     ·have bW:=r.F.below b3 r.ord.2.2.1;have bb:=r.Rr.below b3 (by have:=r.ord;omega);have eg:=r.low.trans (b3.mono (by have:=r.ord;omega));have fk:(ba !=0)=jA:=zc.2 bS;have eh:=Ab bS;have bT:=Ab aR;clear bS aR;have bK:g≠D:=by have:=r.ord;omega
      obtain⟨cN,cO⟩:=CD bW;have cP:=fun j=>bW.frozen j;have bL:=(eg.setCell (p:=⟨D,0,T⟩) (by have:=r.ord;show g<=D;omega) (U V ba)).setCell (p:=⟨D,1,T⟩) (by have:=r.ord;show g<=D;omega) (U V bR);obtain⟨bM,W,bN,aP⟩:=Yk bW bb bK (U V ba) (U V bR);obtain⟨dU,dV⟩:=CD bM;obtain⟨dW,dX⟩:=CD W;have dY:=fun j=>W.frozen j;obtain⟨dZ,d0⟩:=CD bN;obtain⟨aJ,aK⟩:=CD aP;have aL:=fun j=>aP.frozen j;dsimp only;rcases eb with rfl|⟨_,_,_,rfl⟩
      all_goals
       go_wp2_with fail
       go_region
      all_goals
       go_wp2_with fail
       exact AcY (f:=(ba,bR)) W (by rw[Aa J]) bL (Aa ak (by rw[Bp,Aa ac];exact Aa d6 (Yj (Aa bT)))) (Aa eh) (by first|exact .inr rfl|exact .inl rfl) fun aM g0 g1=>by simp[jR,results20,go_sem,g0,g1]
  ·have e:k=m:=by omega
   subst e;have ei:=Ab (show AI Es (AO,[],[]) L=X (AO++ns,ts,tt) by rw[<-(Aa ar).1,<-Aa b8,Z2]);obtain⟨cN,cO⟩:=CD aA;have cP:=fun j=>aA.frozen j;have bb:=aA.set 0 (U V 0);have fl:=fun j=>bb.frozen j;have W:=bb.set 1 (U V 0);have ej:((wr.setCell ⟨g,0,T⟩ (U V 0)).setCell ⟨g,1,T⟩ (U V 0)).cell? ⟨g,0,T⟩=X (U V 0):=W.cell 0;have s1:((wr.setCell ⟨g,0,T⟩ (U V 0)).setCell ⟨g,1,T⟩ (U V 0)).cell? ⟨g,1,T⟩=X (U V 0):=W.cell 1;go_wp2_with fail
   refine jN (v:= jO #[Y bk tt.length bl,jK (X ⟨lb,0,T⟩),jG #[U V 0,U V 0]]) (by simp[jR,results20,go_sem,ej,s1]) rfl (.inl ⟨B,lb,ns,ts,tt,ae,lv,_,Aa ei,rfl,?_,?_,?_⟩)
   ·exact(aX.set ⟨g,0,T⟩ _ (by show g<B;omega) (by show g≠lb;omega)).set ⟨g,1,T⟩ _ (by show g<B;omega) (by show g≠lb;omega)
   ·rw[Aa J];exact(Aa dp).1
   ·show Below _ _ _;rw[Aa J];exact(ai.setCell (p:=⟨g,0,T⟩) (Nat.le_refl g) _).setCell (p:=⟨g,1,T⟩) (Nat.le_refl g) _
set_option maxHeartbeats 1600000
def OQ (N:List Nd) (L:List St) (T:List Int) (b:Bool):Prop:=
 (Bn N L=jC/\b=jC)\/(Bn N L=jA/\∃Es:List Ex,Es.length=N.length/\(∀j,(h:j<Es.length)->Cg N j Es[j])/\b=(match AI Es (AO,[],[]) L with
  |none=>jC
  |some st=>decide (st.2.2=T)))
theorem Jk (a b e:Option jD)(n c m d k f:Nat)(w:Z):
  jE j4 27 #[jG #[Y a n c,Y b m d,Y e k f]] w fun i w'=>i=jH (jG #[Y a n c,Y b m d])/\Below w.heap.size w w':=by
 have g:=Av w (Fo a n c b m d e k f);have j:=g.alloc g.size (jF #[Y a n c,Y b m d] 68);have h:=Ag.new (w.alloc (Fo a n c b m d e k f)) #[Y a n c,Y b m d] 68;simp only[jW]at h;obtain⟨l,o⟩:=CD h;go_enter func27,ntmps27
 go_wp2_with fail
 refine jN (v:= jG #[Y a n c,Y b m d]) (by simp[jR,results27,go_sem,l,o]) rfl ?_
 exact⟨rfl,j⟩
theorem VS (h:AI Es (AO,[],[]) L=X st)(hc:Dl Es L<=4000):st.2.2.length<=4000:=by
 have:=(FQ h).1;simp at this;omega
theorem PS (a b e:Option jD)(n c m d k f:Nat)(N:List Nd)(L:List St)(T:List Int)(aT ag ah:jD)(w:Z)(h1:GY w a n c N)(h2:Jl w b m d L)(h3:AK w e k f T)(ai:Ko w)(aj:N9 w aT)(o:RL w ag ah):
  jE j4 24 #[jG #[Y a n c,Y b m d,Y e k f]] w fun h w'=>(∃v,h=jH (.bool v)/\OQ N L T v)/\Below w.heap.size w w':=by
 have ak:=Ab h1.len;have al:=Ab h2.len;have ao:=Ag.new w #[Y a n c,Y b m d,Y e k f] 31;have i:=Av w (Fo a n c b m d e k f);have ap:=h1.below i NLN;have aq:=h2.below i NLN;have ar:=h3.below i NLN;have au:=ai.below i NLN;have av:=aj.below i NLN;have aw:=o.below i NLN;clear h1 h2 h3 ai aj o;go_enter func24,ntmps24
 go_wp2_with fail
 refine(Jk _ _ _ _ _ _ _ _ _ _).mono ?_;rintro h bo ⟨rfl,j⟩;dsimp only;have K:=ap.below j NLN;have O:=aq.below j NLN;have ax:=ar.below j NLN;have ay:=au.below j NLN;have az:=av.below j NLN;have aA:=aw.below j NLN;have aB:=ao.after j NLN;have P:=i.trans (j.mono i.size);clear ap aq ar au av aw ao i j;go_wp2_with fail
 refine(OR _ _ _ _ _ _ N L _ K O ay).mono ?_;rintro h B ⟨rfl,l⟩;dsimp only;have aV:=K.below l NLN;have aW:=O.below l NLN;have aX:=ax.below l NLN;have aC:=az.below l NLN;have aY:=aA.below l NLN;have S:=aB.after l NLN;have q:=P.trans (l.mono P.size);clear K O ax ay az aA aB P l;cases r:Bn N L with
 |false=>
  have s:=Ab r;clear r;go_wp2_with fail
  go_ret
  exact⟨⟨_,rfl,.inl ⟨Aa s,rfl⟩⟩,q⟩
 |true=>
  have s:=Ab r;have x:=Ab (BJ r);clear r;go_wp2_with fail
  refine(Jm aT _ aC).mono ?_;rintro h aZ ⟨y,W,rfl,a0,aD,aE,D⟩;dsimp only;have aF:=aW.below D NLN;have aa:=S.after D NLN;have aG:Cm B.heap.size y W AO [] [] (Y none 0 0) (Y none 0 0) aZ:=⟨aD,aE,a0⟩
  obtain⟨a1,a2,a3,_⟩:=PJ aa;have a4:=S.lt;clear S;go_wp2_with fail
  refine(Jk _ _ _ _ _ _ _ _ _ _).mono ?_;rintro h a5 ⟨rfl,E⟩;dsimp only;have aH:=aF.below E NLN;have ab:=D.trans (E.mono D.size);have F:=aG.below E;have aI:=aa.after E NLN;have aJ:=Ab (GZ a b n c m d N L B a5 aV ab aH Ex.typed (VT (Aa x)) (by rw[<-Aa ak];exact(Aa x).roots));clear a1 a2 a3 aa aF aD aE;go_wp2_with fail
  refine(Aa aJ).mono ?_;rintro h a6 ⟨⟨v,Es,rfl,aK,o,hf,ac⟩,G⟩;dsimp only;have H:=Ab (show Es.length=N.length by rw[aK,Aa ak]);have aL:=Ab o;have a7:=Ab (AhV (Aa x) (Aa H) o hf);have aM:=Ab (Age (Aa s) (Aa H) o);have aN:=Ab (show 1<=m/\m<=600 by rw[<-Aa al];exact⟨(Aa x).m0,(Aa x).m⟩);obtain⟨bp,a8,rfl,hx⟩:=Ae ac;obtain⟨g,rfl,hg,aO⟩:=hx (by have:=Aa aN;omega);obtain⟨a9,aP,bq⟩:=Gp ac;have g1:g≠y:=by have:=F.C.row.lt;omega
  have g2:g≠W:=by have:=F.M.lt;omega
  have ba:=F.below G;have z:=ab.trans (G.mono ab.size);have bb:=aI.after G NLN;have bc:=Ab (PT B.heap.size y W (AO,[],[]) (Y none 0 0) (Y none 0 0) B aT ag ah aC aY NLN Es L m g a8 a9 a6 (Aa al) (fun t I=>by cases I) (by have:=Aa aN;simp;omega) (Aa a7) (by have:=Aa aM;simp;omega) z ba aP (fun h u bd=>by rw[<-aP.cell];exact aO h u bd) g1 g2 (by simp[ja]) (by simp[ja]));clear aK o hf hx aO aJ ac G aG F aH aI;go_wp2_with fail
  refine(Aa bc).mono ?_;rintro h ad (⟨ns,ts,tt,lv,br,p,rfl,ae,J⟩|⟨p,⟨bs,bt,rfl⟩,bf⟩)
  ·have af:=Ab p;have I:=VS p (Aa aM);clear p;dsimp only;have bg:=aX.below (z.trans J.low) NLN;have bh:=bb.below J.low a4;obtain⟨aQ,aR,rfl,_⟩:=Ae ae.C.types;have bi:=BS ae.C.types (by have:tt.length<=4000:=I;omega);have bj:=ae.C.row;have A:Below ad.heap.size ad ad.drew:=BRN.drew;have keep:∀w',Below ad.heap.size ad w'->w'.cell? ⟨y,2,none⟩=X (Y aQ tt.length aR)/\w'.cell? ⟨w.heap.size,2,none⟩=X (Y e k f):=fun w' aS=>⟨(bj.after aS NLN).cell 2,(bh.after aS NLN).cell 2⟩
   have bk:=Ab keep;have bu:=keep _ A;have bl:=bi.below A NLN;have bm:=bg.below A NLN;clear keep I;go_wp2_with fail
   go_region_held3 (fun w'=>w'.cell? ⟨y,2,none⟩=X (Y aQ tt.length aR)/\w'.cell? ⟨w.heap.size,2,none⟩=X (Y e k f)) (first|assumption|go_keep)
    ((go_at_call 55;refine(PP _ _ _ _ _ _ _ _ _ bl bm).mono ?_;rintro h bv ⟨rfl,bn⟩;have aU:=A.trans (bn.mono A.size);have bw:=Aa bk _ aU))
   go_wp2_with fail
   go_ret
   exact⟨⟨_,rfl,.inr ⟨Aa s,Es,Aa H,Aa aL,by rw[Aa af]⟩⟩,q.trans ((z.trans (J.low.trans (aU.mono (z.trans J.low).size))).mono q.size)⟩
  ·have af:=Ab p;clear p;dsimp only;go_wp2_with fail
   go_region
   all_goals
    go_wp2_with fail
    go_ret
    exact⟨⟨_,rfl,.inr ⟨Aa s,Es,Aa H,Aa aL,by rw[Aa af]⟩⟩,q.trans ((z.trans bf.drew).mono q.size)⟩
set_option maxHeartbeats 32000000
theorem Oe (L:List Nd):L.all AY=jA↔∀j,(h:j<L.length)->AY L[j]=jA:=by
 rw[z1];constructor
 ·intro h j a;exact h _ (zH a)
 ·intro h x hx;obtain⟨j,a,rfl⟩:=zy hx;exact h j a
theorem V7 (h:N.all AY=jA):∀ks∈N.map Nd.kids,ks.length<=3:=by
 intro ks a;obtain⟨x,hx,rfl⟩:=zg.1 a;have:=z1.1 h x hx;rw[AY,zF,zI]at this;have:CI x.op<=3:=by unfold CI;repeat' split<;>try decide
 omega
def EK (n m:Nat) (N:List Nd) (L:List St) (e:Ending):Prop:=∃b:Bool,e=jH (.bool b)/\(b=jA↔(n<=4000/\1<=m/\m<=600)/\N.all AY=jA/\KQ N L)
theorem Ea {n m:Nat}(h: ¬ ((n<=4000/\1<=m/\m<=600)/\N.all AY=jA/\KQ N L)):EK n m N L (jH (.bool jC)):=⟨jC,rfl,by constructor<;>intro k;cases k;exact absurd k h⟩
theorem Td {s:ByteArray}(h:s.size=0):s.toList.isEmpty=jA:=z3.2 ((Cs s).2 h)
theorem P5 {s:ByteArray}(h:s.size≠0):s.toList.isEmpty=jC:=by rw[zv];intro k;exact h ((Cs s).1 (z3.1 k))
theorem V8 {e:TypeId}{size:Nat}{v:R}{b:List R}(h:w.ownsRow a e size v n b):v.ownBlock≠X w.heap.size:=fun k=>by have:=(h.lt _ k).2;omega
theorem Uw (a b:Option jD)(n c m d:Nat)(N:List Nd)(L:List St)(w:Z)(h1:GY w a n c N)(h2:Jl w b m d L):
  jE j4 42 #[Y a n c,Y b m d,.bool jA] w fun e w'=>EK n m N L e/\Below w.heap.size w w':=by
 have s1:=h1.small;have s2:=h2.small;have aj:=Ab h1.len;have aF:=Ab h2.len;go_enter func42,ntmps42
 by_cases a5: 4000<n
 ·have bS:(4000 :Int)<(n:Int):=by omega
  have l:=Ab (Ea (n:=n) (m:=m) (N:=N) (L:=L) (fun h=>by omega));clear a5;go_wp2_with fail
  go_ret
  exact⟨Aa l,BRN⟩
 have bS: ¬ ((4000 :Int)<(n:Int)):=by omega
 by_cases hm:m<1
 ·have bT:(m:Int)<1:=by omega
  have l:=Ab (Ea (n:=n) (m:=m) (N:=N) (L:=L) (fun h=>by omega));clear a5 hm;go_wp2_with fail
  go_ret
  exact⟨Aa l,BRN⟩
 have bT: ¬ ((m:Int)<1):=by omega
 by_cases bt: 600<m
 ·have bU:(600 :Int)<(m:Int):=by omega
  have l:=Ab (Ea (n:=n) (m:=m) (N:=N) (L:=L) (fun h=>by omega));clear a5 hm bt;go_wp2_with fail
  go_ret
  exact⟨Aa l,BRN⟩
 have bU: ¬ ((600 :Int)<(m:Int)):=by omega
 have ab:n<=4000:=by omega
 have bV:m<=600:=by omega
 have bW: 1<=m:=by omega
 clear a5 hm bt;go_wp2_with fail
 go_loopw [33] (fun i wr=>∃k:Nat,k<=n/\i=U V k/\Below w.heap.size w wr/\Hid (∀j,(ap:j<N.length)->j<k->AY N[j]=jA)) (fun i _=>n-(jI i).toNat)
 case atStart=>exact⟨0,by omega,rfl,BRN,Ab (fun j ap h=>absurd h (by omega))⟩
 case round=>
  obtain⟨k,ce,rfl,H,aq⟩:=hrel;by_cases ar:k<n
  ·have bi:(k:Int)<(n:Int):=by omega
   have S:k<N.length:=by rw[Aa aj];exact ar
   have ak:=h1.sizes N[k] (zH S);obtain⟨bu,bv,rfl,bw,an,nn,cn,a6,a7,a8,aG,c1,c2,c3,c4,bj,a9⟩:=(h1.below H NLN).cells k S;have r:=Ab (show AY N[k]=jC->EK n m N L (jH (.bool jC))from fun e=>Ea (fun h=>by
    have:=(Oe N).1 h.2.1 k S;rw[this]at e;cases e))
   have z:=Ab (show AY N[k]=jA->∀j,(ap:j<N.length)->j<k+1->AY N[j]=jA from fun e j ap aM=>by
    by_cases aW:j=k
    ·subst aW;exact e
    ·exact Aa aq j ap (by omega))
   have D:=Ab ar;clear aq;generalize N[k]=x at aG c1 c2 c3 c4 bj a9 ak r z;have bx:=Ab a9.len;have bz:=a9.small;have f:=H.alloc H.size (Dw x.op x.num x.text an nn cn a6 a7 a8);have bX:=Av wr (Dw x.op x.num x.text an nn cn a6 a7 a8);have bA:=bj.below bX NLN;clear bj a9;cases hv:AY x
   ·have l:=Ab (Aa r hv);have bk:=Ab hv;clear hv r z;go_wp2_with (go_at_call 75;refine(Km x an nn cn a6 a7 a8 _ bA (Aa bx).symm ak bz).mono ?_;rintro e aN ⟨rfl,C⟩;rw[Aa bk])
    go_ret
    exact⟨Aa l,f.trans (C.mono f.size)⟩
   ·have ac:=Ab (Aa z hv);have bk:=Ab hv;clear hv r z;go_wp2_with (go_at_call 75;refine(Km x an nn cn a6 a7 a8 _ bA (Aa bx).symm ak bz).mono ?_;rintro e aN ⟨rfl,C⟩;rw[Aa bk])
    go_roundw
    case rel=>exact⟨k+1,Aa D,by go_num,f.trans (C.mono f.size),ac⟩
    case measure=>have:=Aa D;simp[jI];omega
  ·have e:k=n:=by omega
   have bB:=Ab (show N.all AY=jA from(Oe N).2 (fun j ap=>Aa aq j ap (by have:=Aa aj;omega)));have aO:=Ab (V7 (Aa bB));have bY:=Ab (show(N.map Nd.kids).length=n by rw[ze];exact Aa aj);subst e;have bl:=Ab H;clear aq ar H;go_wp2_with fail
   go_loopw [9,44] (fun v i wr=>∃ (q:Nat) (O:List Int),q<=m/\i=U V q/\Below w.heap.size w wr/\Hid (∀j,(h:j<L.length)->j<q->P6 L j h=jA)/\Hid (LO (N.map Nd.kids) k ((L.take q).flatMap At)=O)/\O.length<=4*k+2*q/\wr.ownsRow w.heap.size 3 1 v O.length (Aq O)) (fun _ i _=>m-(jI i).toNat)
   case atStart=>exact⟨0,[],by omega,rfl,Aa bl,Ab (fun j h aM=>absurd aM (by omega)),Ab (by simp[LO]),by simp,jX _ _ _ _⟩
   case round=>
    obtain⟨q,O,hq,rfl,H,aq,aP,cf,ba⟩:=hrel;obtain⟨cg,ch,rfl,bm⟩:=Ae ba;by_cases ar:q<m
    ·have bi:(q:Int)<(m:Int):=by omega
     have S:q<L.length:=by rw[Aa aF];exact ar
     have ak:=h2.sizes L[q] (zH S);obtain⟨bu,bv,rfl,bw,aG,c1,c2,c3⟩:=(h2.below H NLN).cells q S;have r:=Ab (show Cu (decide (q+1=m)) L[q]=jC->EK k m N L (jH (.bool jC))from fun e=>Ea (fun h=>by
      have:=(KR L).1 h.2.2.1 q S;rw[P6,Aa aF,e]at this;cases this))
     have z:=Ab (show Cu (decide (q+1=m)) L[q]=jA->∀j,(h:j<L.length)->j<q+1->P6 L j h=jA from fun e j ap aM=>by
      by_cases aW:j=q
      ·subst aW;rw[P6,Aa aF];exact e
      ·exact Aa aq j ap (by omega))
     have B:=Ab (show LO (N.map Nd.kids) k ((L.take (q+1)).flatMap At)=(At L[q]).foldl (fun o A=>Bd (N.map Nd.kids) k A o) O by rw[Qa L q S,V9,Aa aP]);have D:=Ab ar;clear aq aP bm;generalize L[q]=s at aG c1 c2 c3 ak r z B;obtain⟨kind,name,cond,grant⟩:=s;simp only at aG c1 c2 c3 ak;have al:=Ag.new wr #[U V kind,Q name,U V cond,U V grant] 53;have f:=H.alloc H.size (PN kind name cond grant);have aB:=ba.alloc (PN kind name cond grant);have aQ:=V8 ba;have bC:(wr.alloc (PN kind name cond grant)).heap.size=wr.heap.size+1:=by simp
     have E:=Ab (fun A O=>by have:=MZ (K:=N.map Nd.kids) (Aa aO) k A O;rw[Aa bY]at this;exact this);by_cases kl:q+1=m
     ·have bZ:((q:Int)==(m:Int)-1)=jA:=zM.2 (by omega);rw[zL kl]at r z;clear kl;by_cases P:kind=1
      ·have e1:(kind==1)=jA:=zM.2 P;subst P;have l:=Ab (Aa r (by simp[Cu]));clear r z B E;go_wp2_with fail
       go_ret
       exact⟨Aa l,f⟩
      have e1:(kind==1)=jC:=zA.2 P;by_cases ad:kind=2
      ·have e2:(kind==2)=jA:=zM.2 ad;subst ad;clear P;have l:=Ab (Aa r (by simp[Cu]));clear r z B E;go_wp2_with fail
       go_ret
       exact⟨Aa l,f⟩
      have e2:(kind==2)=jC:=zA.2 ad;by_cases au:kind=3
      ·have e3:(kind==3)=jA:=zM.2 au;subst au;clear P ad;by_cases ae:name.size=0
       ·have en:=Td ae;by_cases kc:cond= -1
        ·have ec:(cond== -1)=jA:=zM.2 kc;subst kc;by_cases aH: -1<=grant
         ·by_cases aX: 0<=grant
          ·skip;have ac:=Ab (Aa z (by simp[Cu,ae,aH]));obtain⟨af,aI⟩:∃af,Hid (Bd (N.map Nd.kids) k grant O=af):=⟨_,Ab rfl⟩
           have b0:af.length<=max O.length (k+3*k)+1:=by rw[<-Aa aI];exact Aa E grant O
           have av:=Ab (show LO (N.map Nd.kids) k ((L.take (q+1)).flatMap At)=af by rw[Aa B];rw[<-Aa aI];simp[At,aX]);clear r z B;go_wp2_with (go_at_call 77;refine(F6 _ k c N w w.heap.size h1 NLN ab (Aa aO) k grant O _ _ ab (.inl (Nat.le_of_eq (Aa aj))) (by omega) f f.size aB).mono ?_;rintro e b1 ⟨b2,rfl,aY,bn,K5⟩;rw[Aa aI]at aY;have bo:=f.trans bn)
           go_roundw
           case rel=>exact⟨q+1,af,Aa D,by go_num,bo,ac,av,by omega,aY⟩
           case measure=>have:=Aa D;simp[jI];omega
          ·skip;have ac:=Ab (Aa z (by simp[Cu,ae,aH]));have av:=Ab (show LO (N.map Nd.kids) k ((L.take (q+1)).flatMap At)=O by rw[Aa B];simp[At,aX]);clear r z B;go_wp2_with fail
           go_roundw
           case rel=>exact⟨q+1,O,Aa D,by go_num,f,ac,av,by omega,aB⟩
           case measure=>have:=Aa D;simp[jI];omega
         ·skip;have l:=Ab (Aa r (by simp[Cu,aH]));clear r z B E;go_wp2_with fail
          go_ret
          exact⟨Aa l,f⟩
        ·have ec:(cond== -1)=jC:=zA.2 kc;have l:=Ab (Aa r (by simp[Cu,kc]));clear r z B E;go_wp2_with fail
         go_ret
         exact⟨Aa l,f⟩
       ·have en:=P5 ae;have l:=Ab (Aa r (by simp[Cu,ae]));clear r z B E;go_wp2_with fail
        go_ret
        exact⟨Aa l,f⟩
      have e3:(kind==3)=jC:=zA.2 au;have l:=Ab (Aa r (by simp[Cu,P,ad,au]));clear r z B E;go_wp2_with fail
      go_ret
      exact⟨Aa l,f⟩
     ·have bZ:((q:Int)==(m:Int)-1)=jC:=zA.2 (by omega);rw[zJ kl]at r z;clear kl;by_cases P:kind=1
      ·have e1:(kind==1)=jA:=zM.2 P;subst P;cases hi:Dm name
       ·have Hi:=Ab hi;clear hi;have l:=Ab (Aa r (by simp[Cu,Aa Hi]));clear r z B E;go_wp2_with (go_at_call 76;refine(Gr _ _ ak).mono ?_;rintro e aN ⟨rfl,C⟩;rw[Aa Hi];have aw:=f.trans (C.mono f.size);have aC:=al.after C NLN;have bb:=An aB C NLN;have bc:=C.size;obtain⟨aR,aS,aT,aU,aV⟩:=A6 aC)
        go_ret
        exact⟨Aa l,aw⟩
       ·have Hi:=Ab hi;clear hi;by_cases ax: 0<=cond
        ·by_cases bd:grant= -1
         ·have b3:(grant== -1)=jA:=zM.2 bd;subst bd;have ac:=Ab (Aa z (by simp[Cu,Aa Hi,ax]));obtain⟨F,ag⟩:∃F,Hid (Bd (N.map Nd.kids) k cond O=F):=⟨_,Ab rfl⟩
          have bD:F.length<=max O.length (k+3*k)+1:=by rw[<-Aa ag];exact Aa E cond O
          have av:=Ab (show LO (N.map Nd.kids) k ((L.take (q+1)).flatMap At)=F by rw[Aa B];rw[<-Aa ag];simp[At,ax]);clear r z B;go_wp2_with (first|(go_at_call 76;refine(Gr _ _ ak).mono ?_;rintro e aN ⟨rfl,C⟩;rw[Aa Hi];have aw:=f.trans (C.mono f.size);have aC:=al.after C NLN;have bb:=An aB C NLN;have bc:=C.size;obtain⟨aR,aS,aT,aU,aV⟩:=A6 aC)|(go_at_call 77;refine(F6 _ k c N w w.heap.size h1 NLN ab (Aa aO) k cond O _ aN ab (.inl (Nat.le_of_eq (Aa aj))) (by omega) aw aw.size bb).mono ?_;rintro e bp ⟨aZ,rfl,ah,a0,aD⟩;rw[Aa ag]at ah;have aJ:=aw.trans a0;have a1:=aC.keep aD aQ;have bE:aZ.ownBlock≠X wr.heap.size:=(fun e=>by rcases aD.2.1 _ e with x|x;exact aQ x;(have:=Nat.le_trans (Nat.le_of_eq bC.symm) bc;omega));obtain⟨bF,c4,rfl,_⟩:=Ae ah;obtain⟨bG,bH,bI,bJ,bK⟩:=A6 a1))
          go_roundw
          case rel=>exact⟨q+1,F,Aa D,by go_num,aJ,ac,av,by omega,ah⟩
          case measure=>have:=Aa D;simp[jI];omega
         ·have b3:(grant== -1)=jC:=zA.2 bd;have l:=Ab (Aa r (by simp[Cu,Aa Hi,bd]));clear r z B E;go_wp2_with (go_at_call 76;refine(Gr _ _ ak).mono ?_;rintro e aN ⟨rfl,C⟩;rw[Aa Hi];have aw:=f.trans (C.mono f.size);have aC:=al.after C NLN;have bb:=An aB C NLN;have bc:=C.size;obtain⟨aR,aS,aT,aU,aV⟩:=A6 aC)
          go_ret
          exact⟨Aa l,aw⟩
        ·skip;have l:=Ab (Aa r (by simp[Cu,Aa Hi,ax]));clear r z B E;go_wp2_with (go_at_call 76;refine(Gr _ _ ak).mono ?_;rintro e aN ⟨rfl,C⟩;rw[Aa Hi];have aw:=f.trans (C.mono f.size);have aC:=al.after C NLN;have bb:=An aB C NLN;have bc:=C.size;obtain⟨aR,aS,aT,aU,aV⟩:=A6 aC)
         go_ret
         exact⟨Aa l,aw⟩
      have e1:(kind==1)=jC:=zA.2 P;by_cases ad:kind=2
      ·have e2:(kind==2)=jA:=zM.2 ad;subst ad;clear P;by_cases ae:name.size=0
       ·have en:=Td ae;by_cases ax: 0<=cond
        ·by_cases aH: -1<=grant
         ·by_cases aX: 0<=grant
          ·skip;have ac:=Ab (Aa z (by simp[Cu,ae,ax,aH]));obtain⟨F,ag⟩:∃F,Hid (Bd (N.map Nd.kids) k cond O=F):=⟨_,Ab rfl⟩
           have bD:F.length<=max O.length (k+3*k)+1:=by rw[<-Aa ag];exact Aa E cond O
           obtain⟨af,aI⟩:∃af,Hid (Bd (N.map Nd.kids) k grant F=af):=⟨_,Ab rfl⟩
           have b0:af.length<=max F.length (k+3*k)+1:=by rw[<-Aa aI];exact Aa E grant F
           have av:=Ab (show LO (N.map Nd.kids) k ((L.take (q+1)).flatMap At)=af by rw[Aa B];rw[<-Aa aI,<-Aa ag];simp[At,ax,aX]);clear r z B;go_wp2_with (first|(go_at_call 77;refine(F6 _ k c N w w.heap.size h1 NLN ab (Aa aO) k grant F _ bp ab (.inl (Nat.le_of_eq (Aa aj))) (by omega) aJ aJ.size ah).mono ?_;rintro e b1 ⟨b2,rfl,aY,bn,K5⟩;rw[Aa aI]at aY;have bo:=aJ.trans bn)|(go_at_call 77;refine(F6 _ k c N w w.heap.size h1 NLN ab (Aa aO) k cond O _ _ ab (.inl (Nat.le_of_eq (Aa aj))) (by omega) f f.size aB).mono ?_;rintro e bp ⟨aZ,rfl,ah,a0,aD⟩;rw[Aa ag]at ah;have aJ:=f.trans a0;have a1:=al.keep aD aQ;have bE:aZ.ownBlock≠X wr.heap.size:=(fun e=>by rcases aD.2.1 _ e with x|x;exact aQ x;(have:=bC;omega));obtain⟨bF,c4,rfl,_⟩:=Ae ah;obtain⟨bG,bH,bI,bJ,bK⟩:=A6 a1))
           go_roundw
           case rel=>exact⟨q+1,af,Aa D,by go_num,bo,ac,av,by omega,aY⟩
           case measure=>have:=Aa D;simp[jI];omega
          ·skip;have ac:=Ab (Aa z (by simp[Cu,ae,ax,aH]));obtain⟨F,ag⟩:∃F,Hid (Bd (N.map Nd.kids) k cond O=F):=⟨_,Ab rfl⟩
           have bD:F.length<=max O.length (k+3*k)+1:=by rw[<-Aa ag];exact Aa E cond O
           have av:=Ab (show LO (N.map Nd.kids) k ((L.take (q+1)).flatMap At)=F by rw[Aa B];rw[<-Aa ag];simp[At,ax,aX]);clear r z B;go_wp2_with (go_at_call 77;refine(F6 _ k c N w w.heap.size h1 NLN ab (Aa aO) k cond O _ _ ab (.inl (Nat.le_of_eq (Aa aj))) (by omega) f f.size aB).mono ?_;rintro e bp ⟨aZ,rfl,ah,a0,aD⟩;rw[Aa ag]at ah;have aJ:=f.trans a0;have a1:=al.keep aD aQ;have bE:aZ.ownBlock≠X wr.heap.size:=(fun e=>by rcases aD.2.1 _ e with x|x;exact aQ x;(have:=bC;omega));obtain⟨bF,c4,rfl,_⟩:=Ae ah;obtain⟨bG,bH,bI,bJ,bK⟩:=A6 a1)
           go_roundw
           case rel=>exact⟨q+1,F,Aa D,by go_num,aJ,ac,av,by omega,ah⟩
           case measure=>have:=Aa D;simp[jI];omega
         ·skip;have l:=Ab (Aa r (by simp[Cu,aH]));clear r z B E;go_wp2_with fail
          go_ret
          exact⟨Aa l,f⟩
        ·skip;have l:=Ab (Aa r (by simp[Cu,ax]));clear r z B E;go_wp2_with fail
         go_ret
         exact⟨Aa l,f⟩
       ·have en:=P5 ae;have l:=Ab (Aa r (by simp[Cu,ae]));clear r z B E;go_wp2_with fail
        go_ret
        exact⟨Aa l,f⟩
      have e2:(kind==2)=jC:=zA.2 ad;by_cases au:kind=3
      ·have e3:(kind==3)=jA:=zM.2 au;subst au;clear P ad;have l:=Ab (Aa r (by simp[Cu]));clear r z B E;go_wp2_with fail
       go_ret
       exact⟨Aa l,f⟩
      have e3:(kind==3)=jC:=zA.2 au;have l:=Ab (Aa r (by simp[Cu,P,ad,au]));clear r z B E;go_wp2_with fail
      go_ret
      exact⟨Aa l,f⟩
    ·have e:q=m:=by omega
     subst e;have bL:L.take q=L:=zY (by rw[Aa aF];exact NLN);rw[bL]at aP;clear bL;have b4:=Ab (show F9 L=jA from(KR L).2 (fun j h=>Aa aq j h (by have:=Aa aF;omega)));have bf:=Ab (show KQ N L↔F9 L=jA/\O.length=k/\good O/\∀A∈L.flatMap At,BL (N.map Nd.kids) k A<=64 by
      rw[KQ,Aa aj];rw[<-Aa aP];exact Iff.rfl)
     have bM:=Ab bm;clear aq bm;by_cases a2:O.length=k
     case neg=>
      have b5:((O.length:Int)!=(k:Int))=jA:=zc.2 (by omega);have l:=Ab (Ea (n:=k) (m:=q) (N:=N) (L:=L) (fun h=>a2 ((Aa bf).1 h.2.2).2.1));clear a2;go_wp2_with fail
      go_ret
      exact⟨Aa l,H⟩
     have b5:((O.length:Int)!=(k:Int))=jC:=by rw[a2];simp
     have bN:=Ab a2;clear a2;go_wp2_with fail
     go_loop [138] (fun i=>∃j:Nat,j<=O.length/\i=U V j/\Hid (∀p,(h:p<O.length)->p<j->O[p]=(p:Int))) (fun i=>O.length-(jI i).toNat)
     case atStart=>exact⟨0,by omega,rfl,Ab (fun p h aM=>absurd aM (by omega))⟩
     case round=>
      obtain⟨j,ap,rfl,bg⟩:=hrel;by_cases bq:j<O.length
      ·have b6:(j:Int)<(O.length:Int):=by omega
       obtain⟨g,rfl,ci,bO⟩:=Aa bM (by omega);have b7:=bO j _ (show(Aq O)[j]? =X (U V O[j]) by rw[Aq,zZ,zG bq];rfl);have M:=Ab (show O[j]=(j:Int)->∀p,(h:p<O.length)->p<j+1->O[p]=(p:Int)from fun e p h aM=>by
        by_cases aW:p=j
        ·subst aW;exact e
        ·exact Aa bg p h (by omega))
       have J:=Ab (show O[j]≠(j:Int)->EK k q N L (jH (.bool jC))from fun e=>Ea (fun h=>e ((Wb O).1 ((Aa bf).1 h.2.2).2.2.1 j bq)));have bP:=Ab bq;clear bO bg;generalize O[j]=y at b7 M J;by_cases hy:y=(j:Int)
       ·have b8:((j:Int)!=y)=jC:=by rw[hy];simp
        have ay:=Ab (Aa M hy);clear hy M J;go_wp2_with fail
        go_round
        case rel=>exact⟨j+1,Aa bP,by go_num,ay⟩
        case measure=>have:=Aa bP;simp[jI];omega
       ·have b8:((j:Int)!=y)=jA:=zc.2 (fun e=>hy e.symm);have l:=Ab (Aa J hy);clear hy M J;go_wp2_with fail
        go_ret
        exact⟨Aa l,H⟩
      ·have bQ:=Ab (show good O from(Wb O).2 (fun p h=>Aa bg p h (by omega)));have bR:=Ab (YJ (N:=N) (n:=k) (rs:=L.flatMap At) (Aa aj) (by rw[Aa aP];exact Aa bN) (by rw[Aa aP];exact Aa bQ));have b6: ¬ ((j:Int)<(O.length:Int)):=by omega
       have bl:=Ab H;clear bg bM ba H;go_wp2_with fail
       go_loopw [149] (fun i wr=>∃p:Nat,p<=q/\i=U V p/\Below w.heap.size w wr/\Hid (∀A∈(L.take p).flatMap At,BL (N.map Nd.kids) k A<=64)) (fun i _=>q-(jI i).toNat)
       case atStart=>exact⟨0,by omega,rfl,Aa bl,Ab (by simp)⟩
       case round=>
        obtain⟨p,hp,rfl,H,bh⟩:=hrel;by_cases ar:p<q
        ·have bi:(p:Int)<(q:Int):=by omega
         have S:p<L.length:=by rw[Aa aF];exact ar
         obtain⟨bu,bv,rfl,bw,aG,c1,c2,c3⟩:=(h2.below H NLN).cells p S;have W:=Ab (show ∀A∈At L[p],(0<=A/\A<(k:Int))/\A∈L.flatMap At from fun A I=>by
          have hm:A∈L.flatMap At:=List.mem_flatMap.2 ⟨L[p],zH S,I⟩;exact⟨(Aa bR).2 A hm,hm⟩)
         have J:=Ab (show ∀A∈At L[p],¬ BL (N.map Nd.kids) k A<=64->EK k q N L (jH (.bool jC))from fun A I e=>Ea (fun h=>e (((Aa bf).1 h.2.2).2.2.2 A (Aa W A I).2)));have aa:=Ab (show(∀A∈At L[p],BL (N.map Nd.kids) k A<=64)->∀A∈(L.take (p+1)).flatMap At,BL (N.map Nd.kids) k A<=64 from fun e A I=>by
          rw[Qa L p S]at I;rcases zN.1 I with x|x
          ·exact Aa bh A x
          ·exact e A x)
         have D:=Ab ar;clear bh;generalize L[p]=s at aG c1 c2 c3 W J aa;obtain⟨kind,name,cond,grant⟩:=s;simp only at aG c1 c2 c3;have al:=Ag.new wr #[U V kind,Q name,U V cond,U V grant] 53;have f:=H.alloc H.size (PN kind name cond grant);have aE:=Ab (Aa bR).1;have b9:=Ab (M5 (N.map Nd.kids) k);by_cases it: 0<=cond
         ·skip;obtain⟨⟨cj,ck⟩,_⟩:=Aa W cond (by simp[At,it]);obtain⟨t,rfl⟩:∃t:Nat,cond=(t:Int):=⟨cond.toNat,by omega⟩
          obtain⟨a3,az⟩:∃a3,Hid (BL (N.map Nd.kids) k (t:Int)=a3):=⟨_,Ab rfl⟩
          by_cases cl: 64<a3
          ·skip;have ca:(64 :Int)<(a3:Int):=by omega
           have l:=Ab (Aa J (t:Int) (by simp[At,it]) (by rw[Aa az];omega));clear J aa W;go_wp2_with (go_at_call 78;refine(CF _ k c N w h1 (Aa aE) k t _ (by omega) (by omega) (by omega) f).mono ?_;rintro e a4 ⟨rfl,ao⟩;rw[Aa az];have ai:=f.trans (ao.mono f.size))
           go_ret
           exact⟨Aa l,ai⟩
          ·have ca: ¬ ((64 :Int)<(a3:Int)):=by omega
           by_cases aA: 0<=grant
           ·skip;obtain⟨⟨cb,cc⟩,_⟩:=Aa W grant (by simp[At,aA]);obtain⟨u,rfl⟩:∃u:Nat,grant=(u:Int):=⟨grant.toNat,by omega⟩
            obtain⟨G,M⟩:∃G,Hid (BL (N.map Nd.kids) k (u:Int)=G):=⟨_,Ab rfl⟩
            have cm:G<=k+1:=by rw[<-Aa M];exact Aa b9 _
            by_cases cd: 64<G
            ·skip;have br:(64 :Int)<(G:Int):=by omega
             have l:=Ab (Aa J (u:Int) (by simp[At,aA]) (by rw[Aa M];omega));clear J aa W;go_wp2_with (first|(go_at_call 78;refine(CF _ k c N w h1 (Aa aE) k u a4 (by omega) (by omega) (by omega) ai).mono ?_;rintro e bs ⟨rfl,aK⟩;rw[Aa M];have aL:=ai.trans (aK.mono ai.size))|(go_at_call 78;refine(CF _ k c N w h1 (Aa aE) k t _ (by omega) (by omega) (by omega) f).mono ?_;rintro e a4 ⟨rfl,ao⟩;rw[Aa az];have ai:=f.trans (ao.mono f.size);obtain⟨aR,aS,aT,aU,aV⟩:=A6 (al.after ao NLN)))
             go_ret
             exact⟨Aa l,aL⟩
            ·skip;have br: ¬ ((64 :Int)<(G:Int)):=by omega
             have ay:=Ab (Aa aa (by intro A I;simp[At,it,aA]at I;rcases I with rfl|rfl;rw[Aa az];omega;rw[Aa M];omega));clear J aa W;go_wp2_with (first|(go_at_call 78;refine(CF _ k c N w h1 (Aa aE) k u a4 (by omega) (by omega) (by omega) ai).mono ?_;rintro e bs ⟨rfl,aK⟩;rw[Aa M];have aL:=ai.trans (aK.mono ai.size))|(go_at_call 78;refine(CF _ k c N w h1 (Aa aE) k t _ (by omega) (by omega) (by omega) f).mono ?_;rintro e a4 ⟨rfl,ao⟩;rw[Aa az];have ai:=f.trans (ao.mono f.size);obtain⟨aR,aS,aT,aU,aV⟩:=A6 (al.after ao NLN)))
             go_roundw
             case rel=>exact⟨p+1,Aa D,by go_num,aL,ay⟩
             case measure=>have:=Aa D;simp[jI];omega
           ·skip;have ay:=Ab (Aa aa (by intro A I;simp[At,it,aA]at I;rw[I,Aa az];omega));clear J aa W;go_wp2_with (go_at_call 78;refine(CF _ k c N w h1 (Aa aE) k t _ (by omega) (by omega) (by omega) f).mono ?_;rintro e a4 ⟨rfl,ao⟩;rw[Aa az];have ai:=f.trans (ao.mono f.size);obtain⟨aR,aS,aT,aU,aV⟩:=A6 (al.after ao NLN))
            go_roundw
            case rel=>exact⟨p+1,Aa D,by go_num,ai,ay⟩
            case measure=>have:=Aa D;simp[jI];omega
         ·by_cases aA: 0<=grant
          ·skip;obtain⟨⟨cb,cc⟩,_⟩:=Aa W grant (by simp[At,aA]);obtain⟨u,rfl⟩:∃u:Nat,grant=(u:Int):=⟨grant.toNat,by omega⟩
           obtain⟨G,M⟩:∃G,Hid (BL (N.map Nd.kids) k (u:Int)=G):=⟨_,Ab rfl⟩
           by_cases cd: 64<G
           ·skip;have br:(64 :Int)<(G:Int):=by omega
            have l:=Ab (Aa J (u:Int) (by simp[At,aA]) (by rw[Aa M];omega));clear J aa W;go_wp2_with (go_at_call 78;refine(CF _ k c N w h1 (Aa aE) k u _ (by omega) (by omega) (by omega) f).mono ?_;rintro e bs ⟨rfl,aK⟩;rw[Aa M];have aL:=f.trans (aK.mono f.size))
            go_ret
            exact⟨Aa l,aL⟩
           ·skip;have br: ¬ ((64 :Int)<(G:Int)):=by omega
            have ay:=Ab (Aa aa (by intro A I;simp[At,it,aA]at I;rw[I,Aa M];omega));clear J aa W;go_wp2_with (go_at_call 78;refine(CF _ k c N w h1 (Aa aE) k u _ (by omega) (by omega) (by omega) f).mono ?_;rintro e bs ⟨rfl,aK⟩;rw[Aa M];have aL:=f.trans (aK.mono f.size))
            go_roundw
            case rel=>exact⟨p+1,Aa D,by go_num,aL,ay⟩
            case measure=>have:=Aa D;simp[jI];omega
          ·skip;have ay:=Ab (Aa aa (by intro A I;simp[At,it,aA]at I));clear J aa W;go_wp2_with fail
           go_roundw
           case rel=>exact⟨p+1,Aa D,by go_num,f,ay⟩
           case measure=>have:=Aa D;simp[jI];omega
        ·have az:=Ab (show ∀A∈L.flatMap At,BL (N.map Nd.kids) k A<=64 by
          have e:L.take p=L:=zY (by rw[Aa aF];omega);have:=Aa bh;rw[e]at this;exact this)
         have l:=Ab (show EK k q N L (jH (.bool jA))from⟨jA,rfl,⟨fun _=>⟨⟨ab,bW,bV⟩,Aa bB,(Aa bf).2 ⟨Aa b4,Aa bN,Aa bQ,Aa az⟩⟩,fun _=>rfl⟩⟩);have bi: ¬ ((p:Int)<(q:Int)):=by omega
         clear bh;go_wp2_with fail
         go_ret
         exact⟨Aa l,H⟩
set_option maxHeartbeats 3200000
theorem Aah (N:List Nd)(L:List St):Ei N L=jA↔∃S,Cp (N.map Nd.kids) N.length [] 0=X S/\Am S=L.flatMap Aj:=by
 rw[Ei];cases h:Cp (N.map Nd.kids) N.length [] 0 with
 |none=>simp
 |some S=>simp
theorem Ve (h:N.all AY=jA):N.all AD=jA:=by
 rw[z1]at h|-;exact fun x hx=>((Jj x).1 (h x hx)).1
theorem Aai (N:List Nd)(L:List St):(N.length<=4000/\1<=L.length/\L.length<=600)/\N.all AY=jA/\KQ N L↔Bn N L=jA/\N.all AY=jA:=by
 rw[<-ZW,AfB,<-Aah,Bn];simp only[zF,zI];constructor
 ·rintro⟨⟨h1,h2⟩,h4,h3,h5⟩;exact⟨⟨⟨⟨h1,h2,h3⟩,Ve h4⟩,h5⟩,h4⟩
 ·rintro⟨⟨⟨⟨h1,h2,h3⟩,_⟩,h5⟩,h4⟩;exact⟨⟨h1,h2⟩,h4,h3,h5⟩
theorem Ig (b:MU N L):∃Es:List Ex,Es.length=N.length/\∀j,(h:j<Es.length)->Cg N j Es[j]:=by
 have:∀k,k<=N.length->∃Es:List Ex,Es.length=k/\(∀j,(h:j<Es.length)->Cg N j Es[j])/\∀e∈Es,e.typed:=by
  intro k
  induction k with
  |zero=>intro _;exact⟨[],rfl,fun j h=>absurd h (by simp),fun e he=>(by cases he)⟩
  |succ k g=>
   intro m;obtain⟨Es,a,c,hf⟩:=g (by omega);have hx:N[k]? =X (N[k]'(by omega)):=zG _;obtain⟨e,_,i,l⟩:=Up (an:=T) (nn:=0) (cn:=0) hx (b.fields _ (zH _)) (b.kids k _ hx) a c hf;refine⟨Es++[e],by simp[a],fun j h=>?_,fun f hf'=>?_⟩
   ·by_cases d:j<Es.length
    ·rw[zo d];exact c j d
    ·have:j=Es.length:=by simp at h;omega
     subst this;simp only[List.getElem_concat_length];rw[a];exact i
   ·rcases zN.1 hf' with hf'|hf'
    ·exact hf f hf'
    ·simp at hf';subst hf';exact l
 obtain⟨Es,h1,h2,_⟩:=this N.length NLN;exact⟨Es,h1,h2⟩
theorem OQ.one {T:List Int}{b c:Bool}(h:OQ N L T b)(k:OQ N L T c):b=c:=by
 rcases h with⟨h1,rfl⟩|⟨h1,Es,a1,a2,rfl⟩
 ·rcases k with⟨_,rfl⟩|⟨a,_⟩
  ·rfl
  ·rw[h1]at a;cases a
 ·rcases k with⟨a,_⟩|⟨_,d,b1,b2,rfl⟩
  ·rw[h1]at a;cases a
  ·rw[NA a1 b1 a2 b2]
theorem AhA {T:List Int}(h: ¬ (Bn N L=jA/\N.all AY=jA)):OQ N L T jC:=by
 cases a:Bn N L with
 |false=>exact .inl ⟨a,rfl⟩
 |true=>
  obtain⟨Es,h1,h2⟩:=Ig (BJ a);refine .inr ⟨a,Es,h1,h2,?_⟩;cases hc:AI Es (AO,[],[]) L with
  |none=>rfl
  |some st=>exact absurd ⟨a,AaY a h1 h2 hc⟩ h
theorem RJ (a:Bn N L=jA)(h1:Es.length=N.length)(h2:∀j,(h:j<Es.length)->Cg N j Es[j])(hc:AI Es (AO,[],[]) L=X st):st.2.2.length=N.length:=by
 have:=(FQ hc).1;rw[JJ a h1 h2]at this;simpa using this
theorem AfL {T:List Int}(a:Bn N L=jA)(b:T.length≠N.length):OQ N L T jC:=by
 obtain⟨Es,h1,h2⟩:=Ig (BJ a);refine .inr ⟨a,Es,h1,h2,?_⟩;cases hc:AI Es (AO,[],[]) L with
 |none=>rfl
 |some st=>
  have:=RJ a h1 h2 hc;exact(zJ (fun e=>b (by rw[<-e,this]))).symm
theorem QT (a b e:Option jD)(n c m d k f:Nat)(N:List Nd)(L:List St)(T:List Int)(w:Z)(h1:GY w a n c N)(h2:Jl w b m d L)(h3:AK w e k f T):
  jE j4 14 #[jG #[Y a n c,Y b m d,Y e k f]] w fun W w'=>(∃v,W=jH (.bool v)/\OQ N L T v)/\Below w.heap.size w w':=by
 have C:=Ab h1.len;have ak:=Ab h2.len;have aa:=Ab h3.len;have aV:=h1.small;have aW:=h3.small;have al:=Ag.new w #[Y a n c,Y b m d,Y e k f] 31;have p:=Av w (Fo a n c b m d e k f);have ab:=h1.below p NLN;have ac:=h2.below p NLN;have ao:=h3.below p NLN;clear h1 h2 h3;go_enter func14,ntmps14
 go_wp2_with fail
 refine(Uw _ _ _ _ _ _ N L _ ab ac).mono ?_;rintro W aN ⟨⟨v,rfl,hv⟩,q⟩;dsimp only;have ap:=ab.below q NLN;have aq:=ac.below q NLN;have aO:=ao.below q NLN;have ar:=al.after q NLN;have r:=p.trans (q.mono p.size);have M:v=jA↔Bn N L=jA/\N.all AY=jA:=by rw[hv,<-Aai,Aa C,Aa ak]
 clear ab ac ao al p q hv;obtain⟨au,av,aw⟩:=BI ar;cases v with
 |false=>
  have g:=Ab (AhA (T:=T) (fun h=>by have:=M.2 h;cases this));clear M;go_wp2_with fail
  go_ret
  exact⟨⟨jC,rfl,Aa g⟩,r⟩
 |true=>
  have ax:=Ab (M.1 rfl);clear M;by_cases ad:k=n
  ·subst ad;have aP:((k:Int)!=(k:Int))=jC:=by simp
   obtain⟨s,ay⟩:=Aa ax;have D:=BJ s;obtain⟨Es,t,u⟩:=Ig D;have aQ:k<=4000:=by have:=D.n;rw[Aa C]at this;exact this
   have O:=Ab (Oq a b k c m d N L (fun x hx=>z1.1 ay x hx) aN ap aq Es (by rw[t,Aa C]) u aQ (by have:=D.m;rw[Aa ak]at this;exact this) (QU s t u) (by rw[JJ s t u];exact D.n));have E:=Ab (show ∀v,v=(match AI Es (AO,[],[]) L with|none=>jC|some st=>decide (st.2.2=T))->OQ N L T v from fun v e=> .inr ⟨s,Es,t,u,e⟩)
   have P:=Ab (show ∀st,AI Es (AO,[],[]) L=X st->st.2.2.length=k from fun st h=>by rw[RJ s t u h,Aa C]);generalize AI Es (AO,[],[]) L=o at O E P;clear s ay t u D ap aq;go_wp2_with fail
   refine(Aa O).mono ?_;rintro W F (⟨B,lb,ns,ts,tt,aX,lv,aY,rfl,rfl,ae,aZ,z⟩|⟨rfl,⟨af,az,rfl,aA⟩,z⟩)
   ·have G:=r.trans (z.mono r.size);have ag:tt.length=k:=Aa P _ rfl;obtain⟨a0,a1,rfl,_⟩:=Ae ae.types;have ah:=BS ae.types (by omega);have aB:=Ab ag;rw[ag]at ah|-;have aC:=aO.below z NLN;have aD:=ar.after z NLN;have l:=Av F (jF #[U V 0,U V 0] 58);have aE:=Ag.new F #[U V 0,U V 0] 58;obtain⟨aF,aG⟩:=CD aE;have aH:=ah.below l NLN;have aI:=aC.below l NLN;have aJ:=aD.after l NLN;have H:=G.trans (l.mono G.size);clear ae ah aC aD ag z O P au av aw;dsimp only;go_wp2_with fail
    generalize F.alloc (jF #[U V 0,U V 0] 58)=aR at l aE aF aG aH aI aJ H|-;go_loopw [37] (fun i wr=>∃j:Nat,j<=k/\i=U V j/\Below aR.heap.size aR wr/\Hid (tt.take j=T.take j)) (fun i _=>k-(jI i).toNat)
    case atStart=>exact⟨0,zD _,rfl,BRN,Ab rfl⟩
    case round=>
     obtain⟨j,a2,rfl,I,aK⟩:=hrel;have aL:=H.trans (I.mono H.size);by_cases S:j<k
     ·have a3:(j:Int)<(k:Int):=by omega
      have ai:j<tt.length:=by rw[Aa aB];exact S
      have aj:j<T.length:=by rw[Aa aa];exact S
      obtain⟨a4,a5,rfl,a6,aS⟩:=(aH.below I NLN).cells j ai;obtain⟨be,a7,rfl,a8,aT⟩:=(aI.below I NLN).cells j aj;obtain⟨au,av,aw⟩:=BI (aJ.after I NLN);have J:=Ab (show tt[j]=T[j]->tt.take (j+1)=T.take (j+1)from fun h=>by rw[zQ ai,zQ aj,Aa aK,h]);have K:=Ab (show tt[j]≠T[j]->tt≠T from fun h e=>h (by subst e;rfl));have aM:=Ab S;generalize tt[j]=x at aS J K;generalize T[j]=y at aT J K;clear S ai aj;by_cases A:x=y
      ·have aU:(x !=y)=jC:=by rw[A];simp
       have g:=Ab (Aa J A);clear A J K;go_wp2_with fail
       go_roundw
       case rel=>exact⟨j+1,Aa aM,by go_num,I,g⟩
       case measure=>have:=Aa aM;simp[jI];omega
      ·have aU:(x !=y)=jA:=zc.2 A;have g:=Ab (Aa E jC (zJ (Aa K A)).symm);clear A J K;go_wp2_with fail
       go_ret
       exact⟨⟨jC,rfl,Aa g⟩,aL⟩
     ·have e:j=k:=by omega
      subst e;have g:=Ab (Aa E jA (zL (by have:=Aa aK;rwa[zY (by rw[Aa aB];exact NLN),zY (by rw[Aa aa];exact NLN)]at this)).symm);go_wp2_with fail
      go_ret
      exact⟨⟨jA,rfl,Aa g⟩,aL⟩
   ·have ec:(af !=0)=jA:=zc.2 aA;have g:=Ab (Aa E jC rfl);have G:=r.trans (z.mono r.size);have l:=Av F (jF #[U V af,U V az] 58);obtain⟨aF,aG⟩:=CD (Ag.new F #[U V af,U V az] 58);have H:=G.trans (l.mono G.size);clear aA O E P;dsimp only;go_wp2_with fail
    go_ret
    exact⟨⟨jC,rfl,Aa g⟩,H⟩
  ·have aP:((k:Int)!=(n:Int))=jA:=zc.2 (by omega);have g:=Ab (AfL (T:=T) (Aa ax).1 (by rw[Aa aa,Aa C];exact ad));clear ad;go_wp2_with fail
   go_ret
   exact⟨⟨jC,rfl,Aa g⟩,r⟩
theorem Cg.gd (k:∀x∈N,AD x=jA){i:Nat}{e:Ex}(t:Cg N i e):FM e:=by
 have f:∀{i:Nat} {x:Nd},N[i]? =X x->JT x=jA:=fun h=>by
  have:=k _ (zp h);rw[AD,zF]at this;exact this.2
 induction t with
 |int h b d=>trivial
 |@text i x h b d=>
  have hq:=f h;rw[JT,if_neg (by omega),if_neg (by omega),if_neg (by omega),VR,if_neg (by omega),if_pos b]at hq;simp only[zF]at hq;exact hq.1.1
 |bool h b d=>trivial
 |@set i x h b d a n c=>
  have hq:=f h;rw[JT,if_neg (by omega),if_neg (by omega),if_neg (by omega),VR,if_neg (by omega),if_neg (by omega),if_neg (by omega),if_pos b]at hq;simp only[zF]at hq;exact hq.1.1
 |name h b d=>have hq:=f h;rw[JT,if_pos b]at hq;cases hq
 |@attr i x h b d=>
  have hq:=f h;rw[JT,if_neg (by omega),if_pos b]at hq;simp only[zF,zI]at hq;exact hq.1.1
 |lett h b d=>trivial
 |un h b d hi t l=>exact⟨b,l⟩
 |bin h b d hi t u g j=>exact⟨b,g,j⟩
 |ite h b d hi t u v g j m=>exact⟨g,j,m⟩
theorem Cg.ok (j:∀x∈N,Di x.num/\x.names.length<=1048576){i:Nat}{e:Ex}(t:Cg N i e):Ib e:=by
 induction t with
 |int h b d=>exact(j _ (zp h)).1
 |set h b d a n c=>exact(j _ (zp h)).2
 |un h b d hi t k=>exact k
 |bin h b d hi t u f g=>exact⟨f,g⟩
 |ite h b d hi t u v f g l=>exact⟨f,g,l⟩
 |_=>trivial
theorem AaR {p:Nat×Nat} :∀{ks:List (Nat×Nat)},p∈ks->p.2<=DP ks
 |q ::ks,h=>by
  rw[DP];rcases zP.1 h with e|e
  ·rw[e];omega
  ·have:=AaR e;omega
theorem Acf {j:List (Nat×Nat)}(h:Au (N.map Nd.kids) a j b):∀p∈j,∀e,Cg N p.1 e->Bl e<=p.2:=by
 induction h with
 |nil a=>intro p hp;cases hp
 |@cons a t b ks j z o hf s u=>
  intro p hp e he;rcases zP.1 hp with q|q
  ·subst q;dsimp only at he|-;have v:∀{x:Nd},N[t]? =X x->x.kids=Am ks:=fun hx=>by
    rw[zZ,hx]at o;exact jb o
   have d:∀{x:Nd} {k:Nat} {f:Ex},N[t]? =X x->(k:Int)∈x.kids->Cg N k f->Bl f<=DP ks:=fun {x k f} hx hm hf'=>by
    rw[v hx,Am]at hm;obtain⟨p,hp,e⟩:=zg.1 hm;have e2:p.1=k:=by omega
    have:=s p hp f (by rw[e2];exact hf');have:=AaR hp;omega
   have e0:mx 0 (DP ks:Int)=DP ks:=by unfold mx;split<;>omega
   have e1:mx (DP ks:Int) (DP ks)=DP ks:=by unfold mx;split<;>rfl
   cases he with
   |un h r c hi g=>
    have:=d h (by rw[c];simp) g;rw[Bl];have i:=DS (Z6 0) this;rw[e0]at i;omega
   |bin h r c hi g l=>
    have m:=d h (by rw[c];simp) g;have n:=d h (by rw[c];simp) l;rw[Bl];have i:=DS (DS (Z6 0) m) n;rw[e0,e1]at i;omega
   |ite h r c hi g l w=>
    have m:=d h (by rw[c];simp) g;have n:=d h (by rw[c];simp) l;have y:=d h (by rw[c];simp) w;rw[Bl];have i:=DS (DS (DS (Z6 0) m) n) y;rw[e0,e1,e1]at i;omega
   |int=>show(1 :Int)<=_;omega
   |text=>show(1 :Int)<=_;omega
   |bool=>show(1 :Int)<=_;omega
   |set=>show(1 :Int)<=_;omega
   |name=>show(1 :Int)<=_;omega
   |attr=>show(1 :Int)<=_;omega
   |lett=>show(1 :Int)<=_;omega
  ·exact u p q e he
theorem QG {s:ByteArray}(h:s.size=0):s=⟨#[]⟩:=EO h
def Vg (ns:List ByteArray) (X:List Sx):Prop:=(MP X).Nodup/\∀a∈MP X,a ∉ ns
theorem Vg.sub {X b:List Sx}(h:Vg ns X)(hs:(MP b).Sublist (MP X)):Vg ns b:=⟨h.1.sublist hs,fun a c=>h.2 a (hs.subset c)⟩
theorem Mg {x:Sx}{X:List Sx}(h:x.kind=1):MP (x ::X)=x.name ::MP X:=by
 unfold MP;rw[List.filter_cons_of_pos (by exact zL h)];rfl
theorem JH {x:Sx}{X:List Sx}(h:x.kind≠1):MP (x ::X)=MP X:=by
 unfold MP;rw[List.filter_cons_of_neg (by rw[zI];exact h)]
theorem AaS (Es:List Ex):∀(L:List St) (i:Nat),BX L=jA->1<=L.length->I8 (It Es i L)
 |s ::L,i,h,_=>by
  simp only[BX,zF,zM]at h;obtain⟨⟨h1,h2⟩,h3⟩:=h;rw[It];cases L with
  |nil=>exact .inl ⟨of_decide_eq_true (by rw[h2];rfl),rfl⟩
  |cons s2 L=>exact .inr ⟨of_decide_eq_false (by rw[h2];rfl),AaS Es (s2 ::L) (i+1) h3 (by simp)⟩
theorem AaT (Es:List Ex):∀(L:List St) (i:Nat) (ns:List ByteArray) (ts tt:List Int) (f:Gn),AI Es (ns,ts,tt) L=X f->BX L=jA->(∀s∈L,(s.kind≠3->0<=s.cond)/\(s.grant= -1\/0<=s.grant))->
  IE ts (It Es i L)/\nmX (It Es i L)/\Vg ns (It Es i L)
 |[],_,_,_,_,_,_,_,_=>⟨trivial,fun x hx=>(by cases hx),List.nodup_nil,fun a n=>(by cases n)⟩
 |s ::L,i,ns,ts,tt,f,h,hs,hr=>by
  simp only[BX,zF,zM]at hs;obtain⟨⟨b,D⟩,o⟩:=hs;have r:=hr s za;have p:=fun x hx=>hr x (zf _ hx);rw[AI,Bp]at h;have w:∀{s1 s2:Gn},AU Es s1 s=X s2->s2.1=s1.1/\s2.2.1=s1.2.1/\Yo s1.2.1 (CG Es s.grant):=fun {s1 s2} hg=>by
   rw[AU]at hg;unfold CG;split at hg
   ·cases hg;rename_i hm;rw[if_pos hm];exact⟨rfl,rfl,trivial⟩
   ·rename_i hm;rw[if_neg hm];split at hg
    ·rename_i e he;rw[he];unfold ckG at hg;split at hg
     ·rename_i t c;split at hg
      ·rename_i h4;cases hg;exact⟨rfl,rfl,by show Al _ e=X 4;rw[<-h4];exact c⟩
      ·cases hg
     ·cases hg
    ·cases hg
  cases hc:AQ Es (ns,ts,tt) s with
  |none=>rw[hc]at h;cases h
  |some s1=>
   rw[hc]at h;simp only[zm]at h;cases hg:AU Es s1 s with
   |none=>rw[hg]at h;cases h
   |some s2=>
    rw[hg]at h;simp only[zm]at h;obtain⟨g1,g2,g3⟩:=w hg;rw[It];unfold DY at b;split at b
    ·rename_i k;simp only[zF,zI]at b;have z:=r.1 (by omega);rw[AQ,if_neg (by omega)]at hc;split at hc
     ·rename_i e he;unfold RP at hc;rw[if_pos k]at hc;split at hc
      ·rename_i t c;split at hc
       ·cases hc
       ·rename_i u;cases hc;dsimp only at g1 g2 g3 u c;obtain⟨n2,v,g⟩:=s2;dsimp only at g1 g2;subst g1 g2;obtain⟨j,l,d⟩:=AaT Es L (i+1) _ _ g f h o p;have eo:CG Es s.cond=X e:=by rw[CG,if_neg (by omega),he]
        have A:CG Es s.grant=T:=by rw[CG,if_pos b.2]
        refine⟨.inl ⟨k,e,t,eo,c,A,j⟩,fun y hy=>?_,?_⟩
        ·rcases zP.1 hy with q|q
         ·rw[q];exact⟨fun _=>b.1,fun q=>absurd k q⟩
         ·exact l y q
        ·rw[Vg,Mg (show(⟨(i:Int),s.kind,s.name,CG Es s.cond,CG Es s.grant⟩:Sx).kind=1 from k)];refine⟨List.nodup_cons.2 ⟨fun hm=>d.2 _ hm (by simp),d.1⟩,fun a n=>?_⟩;rcases zP.1 n with q|q
         ·rw[q];exact u
         ·exact fun hm=>d.2 a q (Z7 _ hm)
      ·cases hc
     ·cases hc
    ·rename_i m;split at b
     ·rename_i k;have B:=of_decide_eq_true b;have z:=r.1 (by omega);rw[AQ,if_neg (by omega)]at hc;split at hc
      ·rename_i e he;unfold RP at hc;rw[if_neg m]at hc;split at hc
       ·rename_i t c;split at hc
        ·rename_i C;cases hc;dsimp only at g1 g2 g3 c;obtain⟨n2,v,g⟩:=s2;dsimp only at g1 g2;subst g1 g2;obtain⟨j,l,d⟩:=AaT Es L (i+1) _ _ g f h o p;have eo:CG Es s.cond=X e:=by rw[CG,if_neg (by omega),he]
         refine⟨.inr (.inl ⟨k,⟨e,eo,by rw[<-C];exact c⟩,g3,j⟩),fun y hy=>?_,?_⟩
         ·rcases zP.1 hy with q|q
          ·rw[q];exact⟨fun q=>absurd q m,fun _=>QG B⟩
          ·exact l y q
         ·rw[Vg,JH (show(⟨(i:Int),s.kind,s.name,CG Es s.cond,CG Es s.grant⟩:Sx).kind≠1 from m)];exact d
        ·cases hc
       ·cases hc
      ·cases hc
     ·split at b
      ·rename_i k;simp only[zF,zI]at b;rw[AQ,if_pos b.2]at hc;cases hc;dsimp only at g1 g2 g3;obtain⟨n2,v,g⟩:=s2;dsimp only at g1 g2;subst g1 g2;obtain⟨j,l,d⟩:=AaT Es L (i+1) _ _ g f h o p;have eo:CG Es s.cond=T:=by rw[CG,if_pos b.2]
       refine⟨.inr (.inr ⟨k,eo,g3,j⟩),fun y hy=>?_,?_⟩
       ·rcases zP.1 hy with q|q
        ·rw[q];exact⟨fun q=>absurd q m,fun _=>QG b.1⟩
        ·exact l y q
       ·rw[Vg,JH (show(⟨(i:Int),s.kind,s.name,CG Es s.cond,CG Es s.grant⟩:Sx).kind≠1 from m)];exact d
      ·cases b
theorem Ld {N:List Nd} :∀(e:Ex) (b:Nat),FZ N b (DC e b)->FM e->∃f,Cg N (b+e.cnt-1) f/\∀ts,Al ts f=Al ts e/\A7 ts f=A7 ts e
 |.un i op k,b,h,g=>by
  rw[DC]at h;obtain⟨f,h1,h2⟩:=Ld k b h.left g.2;have hx:=h.right (Ax k b) 0 _ rfl;rw[zX]at hx;have c1:=k.cnt1;have g1:=g.1;have e1:b+(Ex.un i op k).cnt-1=b+k.cnt:=by simp only[Ex.cnt];omega
  refine⟨.un (b+k.cnt:Nat) op f,?_,fun ts=>?_⟩
  ·rw[e1];exact Cg.un (k:=b+k.cnt-1) hx g.1 rfl (by omega) h1
  ·obtain⟨d,j⟩:=h2 ts;have e2:Al ts (.un (b+k.cnt:Nat) op f)=Al ts (.un i op k):=by rw[Al,Al,d]
   exact⟨e2,by rw[A7,A7,j,e2]⟩
 |.bin i op l r,b,h,g=>by
  rw[DC]at h;obtain⟨f,h1,h2⟩:=Ld l b h.left.left g.2.1;obtain⟨o,p,q⟩:=Ld r (b+l.cnt) (h.left.right (Ax l b)) g.2.2;have hx:=h.right (k:=l.cnt+r.cnt) (by rw[zC,Ax,Ax]) 0 _ rfl;rw[zX]at hx;have c1:=l.cnt1;have c2:=r.cnt1;have e1:b+(Ex.bin i op l r).cnt-1=b+(l.cnt+r.cnt):=by simp only[Ex.cnt];omega
  refine⟨.bin (b+(l.cnt+r.cnt):Nat) op f o,?_,fun ts=>?_⟩
  ·rw[e1];exact Cg.bin (k:=b+l.cnt-1) (l:=b+l.cnt+r.cnt-1) hx g.1 rfl (by omega) h1 p
  ·obtain⟨d,j⟩:=h2 ts;obtain⟨s,u⟩:=q ts;have e2:Al ts (.bin (b+(l.cnt+r.cnt):Nat) op f o)=Al ts (.bin i op l r):=by rw[Al,Al,d,s]
   exact⟨e2,by rw[A7,A7,j,u,e2]⟩
 |.ite i c t e,b,h,g=>by
  rw[DC]at h;obtain⟨f,h1,h2⟩:=Ld c b h.left.left.left g.1;obtain⟨o,p,q⟩:=Ld t (b+c.cnt) (h.left.left.right (Ax c b)) g.2.1;have h3:FZ N (b+(c.cnt+t.cnt)) (DC e (b+c.cnt+t.cnt)):=h.left.right (by rw[zC,Ax,Ax]);rw[<-Z4]at h3;obtain⟨v,w,x⟩:=Ld e (b+c.cnt+t.cnt) h3 g.2.2;have hx:=h.right (k:=c.cnt+t.cnt+e.cnt) (by rw[zC,zC,Ax,Ax,Ax]) 0 _ rfl;rw[zX]at hx;have c1:=c.cnt1;have c2:=t.cnt1;have c3:=e.cnt1;have e1:b+(Ex.ite i c t e).cnt-1=b+(c.cnt+t.cnt+e.cnt):=by simp only[Ex.cnt];omega
  refine⟨.ite (b+(c.cnt+t.cnt+e.cnt):Nat) f o v,?_,fun ts=>?_⟩
  ·rw[e1];exact Cg.ite (k:=b+c.cnt-1) (l:=b+c.cnt+t.cnt-1) (m:=b+c.cnt+t.cnt+e.cnt-1) hx rfl rfl (by omega) h1 p w
  ·obtain⟨d,j⟩:=h2 ts;obtain⟨s,u⟩:=q ts;obtain⟨y,z⟩:=x ts;have e2:Al ts (.ite (b+(c.cnt+t.cnt+e.cnt):Nat) f o v)=Al ts (.ite i c t e):=by rw[Al,Al,d,s,y]
   exact⟨e2,by rw[A7,A7,j,u,z,e2]⟩
 |.int i n,b,h,g=>⟨_,Cg.int (h 0 _ rfl) rfl rfl,fun ts=>⟨rfl,rfl⟩⟩
 |.text i n,b,h,g=>⟨_,Cg.text (h 0 _ rfl) rfl rfl,fun ts=>⟨rfl,rfl⟩⟩
 |.bool i n,b,h,g=>⟨_,Cg.bool (h 0 _ rfl) rfl rfl,fun ts=>⟨rfl,rfl⟩⟩
 |.set i a n c ss,b,h,g=>⟨_,Cg.set (h 0 _ rfl) rfl rfl T 0 0,fun ts=>⟨rfl,rfl⟩⟩
 |.name i n,b,h,g=>g.elim
 |.attr i n,b,h,g=>⟨_,Cg.attr (h 0 _ rfl) rfl rfl,fun ts=>⟨rfl,rfl⟩⟩
 |.lett i n,b,h,g=>⟨_,Cg.lett (h 0 _ rfl) rfl rfl,fun ts=>⟨rfl,rfl⟩⟩
def Mh (ts:List Int):Option Ex->List Int
 |none=> []
 |some e=>A7 ts e
def IA:List Int->List Sx->List Int
 |_,[]=> []
 |ts,x ::S=>Mh ts x.cond++Mh (if x.kind=1 then ts++[((x.cond.bind (Al ts)).getD 0)]else ts) x.grant++IA (if x.kind=1 then ts++[((x.cond.bind (Al ts)).getD 0)]else ts) S
theorem UM {N:List Nd}{Es:List Ex}(m:Es.length=N.length)(n:∀j,(h:j<Es.length)->Cg N j Es[j]):∀(S:List Sx) (b:Nat) (ns:List ByteArray) (ts tt:List Int),FZ N b (AM b S)->IE ts S->Vg ns S->GdX S->
  ∃n1 l,AI Es (ns,ts,tt) (BK b S)=some (n1,l,tt++IA ts S)
 |[],b,ns,ts,tt,_,_,_,_=>⟨ns,ts,by rw[BK,AI,IA,Z3]⟩
 |x ::S,b,ns,ts,tt,hR,h,hL,hG=>by
  rw[AM]at hR;have v:=hR.left.left;have r2:=hR.left.right (FI x.cond b);have r3:=hR.right (k:=AF x.cond+AF x.grant) (by rw[zC,FI,FI]);rw[<-Z4]at r3;have hx:=hG x za;have p:GdX S:=fun z B=>hG z (zf _ B);have r:∀(o:Option Ex) (c:Nat),FZ N c (Kk o c)->gdO o->∀e,o=some e->∃f,GD o c≠-1/\Es[(GD o c).toNat]? =some f/\∀ts,Al ts f=Al ts e/\A7 ts f=A7 ts e:=fun o c C hg e he=>by
   subst he;obtain⟨f,d,g⟩:=Ld e c C (hg e rfl).1;have D:=d.lt;have e1:GD (some e) c=((c+e.cnt-1 :Nat):Int):=rfl;have w:c+e.cnt-1<Es.length:=by rw[m];exact D
   refine⟨Es[c+e.cnt-1],by rw[e1];omega,by rw[e1,zV];exact zG w,fun ts=>?_⟩;have q:=(n _ w).ty_one d ts;have y:=g ts;exact⟨q.1.trans y.1,q.2.trans y.2⟩
  have s:∀(ns:List ByteArray) (ts tt:List Int),Yo ts x.grant->AU Es (ns,ts,tt) ⟨x.kind,x.name,GD x.cond b,GD x.grant (b+AF x.cond)⟩=some (ns,ts,tt++Mh ts x.grant):=fun ns ts tt hg=>by
   cases A:x.grant with
   |none=>
    rw[AU,if_pos (show GD T (b+AF x.cond)= -1 from rfl)];simp[Mh]
   |some e=>
    obtain⟨f,d,g,i⟩:=r x.grant _ r2 hx.2 e A;rw[A]at d g hg;rw[AU,if_neg d];dsimp only;rw[g];dsimp only;rw[(i ts).1,(i ts).2,show Al ts e=some 4 from hg];rfl
  rw[BK,AI,Bp];rcases h with⟨k,e,t,h1,h2,h3,h4⟩|⟨k,⟨e,h1,h2⟩,h3,h4⟩|⟨k,h1,h3,h4⟩
  ·obtain⟨f,d,g,i⟩:=r x.cond _ v hx.1 e h1;rw[Vg,Mg k]at hL;have E:x.name ∉ ns:=hL.2 _ za;have hc:AQ Es (ns,ts,tt) ⟨x.kind,x.name,GD x.cond b,GD x.grant (b+AF x.cond)⟩=some (ns++[x.name],ts++[t],tt++Mh ts x.cond):=by
    rw[AQ,if_neg d];dsimp only;rw[g];dsimp only;unfold RP;rw[if_pos (show x.kind=1 from k),(i ts).1,(i ts).2,h2];dsimp only;rw[if_neg E,h1];rfl
   rw[hc,zm,s _ _ _ (by rw[h3];trivial),zm];obtain⟨n1,l,hq⟩:=UM m n S _ (ns++[x.name]) (ts++[t]) ((tt++Mh ts x.cond)++Mh (ts++[t]) x.grant) r3 h4 ⟨(List.nodup_cons.1 hL.1).2,fun a u hm=>by
    rcases zN.1 hm with q|q
    ·exact hL.2 a (zf _ u) q
    ·rw[zS.1 q]at u;exact(List.nodup_cons.1 hL.1).1 u⟩ p
   refine⟨n1,l,?_⟩;rw[hq,IA,if_pos k,h1,zm,h2,Option.getD_some,<-h1];simp only[zT]
  ·obtain⟨f,d,g,i⟩:=r x.cond _ v hx.1 e h1;rw[Vg,JH (by omega)]at hL;have hc:AQ Es (ns,ts,tt) ⟨x.kind,x.name,GD x.cond b,GD x.grant (b+AF x.cond)⟩=some (ns,ts,tt++Mh ts x.cond):=by
    rw[AQ,if_neg d];dsimp only;rw[g];dsimp only;unfold RP;rw[if_neg (show ¬ x.kind=1 by omega),(i ts).1,(i ts).2,h2];dsimp only;rw[if_pos rfl,h1];rfl
   rw[hc,zm,s _ _ _ h3,zm];obtain⟨n1,l,hq⟩:=UM m n S _ ns ts ((tt++Mh ts x.cond)++Mh ts x.grant) r3 h4 hL p;refine⟨n1,l,?_⟩;rw[hq,IA,if_neg (by omega)];simp only[zT]
  ·rw[Vg,JH (by omega)]at hL;have hc:AQ Es (ns,ts,tt) ⟨x.kind,x.name,GD x.cond b,GD x.grant (b+AF x.cond)⟩=some (ns,ts,tt++Mh ts x.cond):=by
    rw[h1,AQ,if_pos (show GD T b= -1 from rfl)];simp[Mh]
   rw[hc,zm,s _ _ _ h3,zm];obtain⟨n1,l,hq⟩:=UM m n S _ ns ts ((tt++Mh ts x.cond)++Mh ts x.grant) r3 h4 hL p;refine⟨n1,l,?_⟩;rw[hq,IA,if_neg (by omega)];simp only[zT]
theorem UF:∀(S:List Sx) (ts:List Int),(IA ts S).length=Bu S
 |[],_=>rfl
 |x ::S,ts=>by
  have a:∀(o:Option Ex) (ts:List Int),(Mh ts o).length=AF o:=fun o ts=>by
   cases o with
   |none=>rfl
   |some e=>exact Ct ts e
  rw[IA,zC,zC,a,a,UF S,A4]
section
variable {aS aO aZ aW : jD} {G : Nat -> Prop}
inductive Dr where
 |out (k:Int) (sc:List ByteArray)
 |err (c:Int)
end
end Go.Proofs.YteiieikcjcfkkaaGreatDoor
