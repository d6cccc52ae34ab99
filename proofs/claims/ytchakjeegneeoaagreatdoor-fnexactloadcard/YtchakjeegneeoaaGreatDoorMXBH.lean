/-
  EDE, EDF, EDG. Own work.
-/
import Derived.Test.YtchakjeegneeoaaGreatDoorMXAY
import Derived.Test.YtchakjeegneeoaaGreatDoorMXBE
import Derived.Test.YtchakjeegneeoaaGreatDoorMXAI
import Derived.Test.YtchakjeegneeoaaGreatDoorMXAR
import Derived.Deep.DeepCutAuto
import Derived.Deep.CutBlock
namespace Go.Proofs.YtchakjeegneeoaaGreatDoor
open Go.RowKit
set_option linter.unusedVariables false
def FG (D:List Dc) (e:Ex):Except (Int × Int) (List Int):=match Bc D e with
 | .ok _=> .ok (CL D e)
 | .error f=> .error f
theorem Ds.ty_oneX {N:List Nd}{i:Nat}{e:Ex}(t:Ds N i e):∀ {f:Ex},Ds N i f→∀ ts:List Dc,Bc ts e=Bc ts f∧CL ts e=CL ts f:=by
 induction t with
 |int h d hk=>intro f u ts;rcases u.inv h with ⟨o,r⟩ | ⟨o,r⟩ | ⟨o,r⟩ | ⟨o,r⟩ | ⟨o,r⟩ | ⟨o,r⟩ | ⟨o,r⟩ | ⟨o,r⟩ | ⟨o,r⟩ | ⟨o,r⟩ <;> first | omega | (subst r;exact ⟨rfl,rfl⟩)
 |text h d hk=>intro f u ts;rcases u.inv h with ⟨o,r⟩ | ⟨o,r⟩ | ⟨o,r⟩ | ⟨o,r⟩ | ⟨o,r⟩ | ⟨o,r⟩ | ⟨o,r⟩ | ⟨o,r⟩ | ⟨o,r⟩ | ⟨o,r⟩ <;> first | omega | (subst r;exact ⟨rfl,rfl⟩)
 |bool h d hk=>intro f u ts;rcases u.inv h with ⟨o,r⟩ | ⟨o,r⟩ | ⟨o,r⟩ | ⟨o,r⟩ | ⟨o,r⟩ | ⟨o,r⟩ | ⟨o,r⟩ | ⟨o,r⟩ | ⟨o,r⟩ | ⟨o,r⟩ <;> first | omega | (subst r;exact ⟨rfl,rfl⟩)
 |name h d hk=>intro f u ts;rcases u.inv h with ⟨o,r⟩ | ⟨o,r⟩ | ⟨o,r⟩ | ⟨o,r⟩ | ⟨o,r⟩ | ⟨o,r⟩ | ⟨o,r⟩ | ⟨o,r⟩ | ⟨o,r⟩ | ⟨o,r⟩ <;> first | omega | (subst r;exact ⟨rfl,rfl⟩)
 |attr h d hk=>intro f u ts;rcases u.inv h with ⟨o,r⟩ | ⟨o,r⟩ | ⟨o,r⟩ | ⟨o,r⟩ | ⟨o,r⟩ | ⟨o,r⟩ | ⟨o,r⟩ | ⟨o,r⟩ | ⟨o,r⟩ | ⟨o,r⟩ <;> first | omega | (subst r;exact ⟨rfl,rfl⟩)
 |lett h d hk=>intro f u ts;rcases u.inv h with ⟨o,r⟩ | ⟨o,r⟩ | ⟨o,r⟩ | ⟨o,r⟩ | ⟨o,r⟩ | ⟨o,r⟩ | ⟨o,r⟩ | ⟨o,r⟩ | ⟨o,r⟩ | ⟨o,r⟩ <;> first | omega | (subst r;exact ⟨rfl,rfl⟩)
 |set h d hk a n c=>intro f u ts;rcases u.inv h with ⟨o,r⟩ | ⟨o,r⟩ | ⟨o,r⟩ | ⟨o,r⟩ | ⟨o,r⟩ | ⟨o,r⟩ | ⟨o,r⟩ | ⟨o,r⟩ | ⟨o,r⟩ | ⟨o,r⟩ <;> first | omega | (obtain ⟨_,_,_,r⟩:=r;subst r;exact ⟨rfl,rfl⟩)
 |un h d hk hi t x=>
  intro f u ts;rcases u.inv h with ⟨o,r⟩ | ⟨o,r⟩ | ⟨o,r⟩ | ⟨o,r⟩ | ⟨o,r⟩ | ⟨o,r⟩ | ⟨o,r⟩ | ⟨o,w,e',b,g,r⟩ | ⟨o,r⟩ | ⟨o,r⟩ <;> first | omega | skip
  subst r;rw[hk] at b;obtain rfl:=Int.ofNat.inj (List.cons.inj b).1;obtain ⟨j,k⟩:=x g ts;simp only[CL,Bc,j,k,and_self]
 |bin h d hk hi t u l m=>
  intro f v ts;rcases v.inv h with ⟨o,r⟩ | ⟨o,r⟩ | ⟨o,r⟩ | ⟨o,r⟩ | ⟨o,r⟩ | ⟨o,r⟩ | ⟨o,r⟩ | ⟨o,r⟩ | ⟨o,w,y,e',z,b,g,p,r⟩ | ⟨o,r⟩ <;> first | omega | skip
  subst r;rw[hk] at b;simp only[List.cons.injEq,and_true,Int.natCast_inj] at b;obtain ⟨rfl,rfl⟩:=b;obtain ⟨j,k⟩:=l g ts;obtain ⟨q,s⟩:=m p ts;simp only[CL,Bc,j,k,q,s,and_self]
 |ite h d hk hi t u v l m A=>
  intro f B ts;rcases B.inv h with ⟨o,r⟩ | ⟨o,r⟩ | ⟨o,r⟩ | ⟨o,r⟩ | ⟨o,r⟩ | ⟨o,r⟩ | ⟨o,r⟩ | ⟨o,r⟩ | ⟨o,r⟩ | ⟨o,w,y,F,e',z,H,b,g,p,v',r⟩ <;> first | omega | skip
  subst r;rw[hk] at b;simp only[List.cons.injEq,and_true,Int.natCast_inj] at b;obtain ⟨rfl,rfl,rfl⟩:=b;obtain ⟨j,k⟩:=l g ts;obtain ⟨q,s⟩:=m p ts;obtain ⟨C,E⟩:=A v' ts;simp only[CL,Bc,j,k,q,s,C,E,and_self]
def Dg (D:List Dc):List Ex→Except (Int × Int) (List Int)
 | []=> .ok []
 |e ::r=>(FG D e).bind fun k=>(Dg D r).map fun l=>k ++l
def WA (N:List Nd):List Nat→List Ex→Prop
 | [], []=>True
 |q ::qs,e ::es=>Ds N q e∧WA N qs es
 |_,_=>False
theorem Ds.kidsX {N:List Nd}{i:Nat}{e:Ex}(t:Ds N i e){x:Nd}(hx:N[i]? =some x):∃ d:List Nat,x.kids=d.map (fun (q:Nat)=>(q:Int))∧WA N d e.kids:=by
 have same:∀ {y:Nd},N[i]? =some y→y=x:=fun k=>Option.some.inj (k.symm.trans hx);cases t with
 |int h b hk=>obtain rfl:=same h;exact ⟨[],hk,trivial⟩
 |text h b hk=>obtain rfl:=same h;exact ⟨[],hk,trivial⟩
 |bool h b hk=>obtain rfl:=same h;exact ⟨[],hk,trivial⟩
 |set h b hk a n c=>obtain rfl:=same h;exact ⟨[],hk,trivial⟩
 |name h b hk=>obtain rfl:=same h;exact ⟨[],hk,trivial⟩
 |attr h b hk=>obtain rfl:=same h;exact ⟨[],hk,trivial⟩
 |lett h b hk=>obtain rfl:=same h;exact ⟨[],hk,trivial⟩
 |@un _ k _ _ h b hk hi t=>obtain rfl:=same h;exact ⟨[k],hk,t,trivial⟩
 |@bin _ k l _ _ _ h b hk hi t u=>obtain rfl:=same h;exact ⟨[k,l],hk,t,u,trivial⟩
 |@ite _ k l m _ _ _ _ h b hk hi t u v=>obtain rfl:=same h;exact ⟨[k,l,m],hk,t,u,v,trivial⟩
theorem Zw (D:List Dc):∀ (e:Ex),FG D e=(Dg D e.kids).bind fun l=>match Bc D e with
  | .ok t=> .ok (l ++ [t])
  | .error f=> .error f
 | .int .. | .text .. | .bool .. | .set .. | .attr .. | .lett .. =>rfl
 | .name i s=>by
  simp only[Ex.kids,Dg,FG,CL];cases h:Bc D (.name i s) <;> rfl
 | .un i op k=>by
  cases h:Bc D k with
  |error f=>simp[Ex.kids,Dg,FG,Bc,h,Except.bind]
  |ok a=>
   simp only[Ex.kids,Dg,FG,CL,h];cases h2:Bc D (.un i op k) <;> simp[Except.bind,Except.map,gX]
 | .bin i op l r=>by
  cases h:Bc D l with
  |error f=>simp[Ex.kids,Dg,FG,Bc,h,Except.bind]
  |ok a=>
   cases h1:Bc D r with
   |error f=>simp[Ex.kids,Dg,FG,Bc,h,h1,Except.bind,Except.map]
   |ok b=>
    simp only[Ex.kids,Dg,FG,CL,h,h1];cases h2:Bc D (.bin i op l r) <;> simp[Except.bind,Except.map,gX]
 | .ite i c t e=>by
  cases h:Bc D c with
  |error f=>simp[Ex.kids,Dg,FG,Bc,h,Except.bind]
  |ok a=>
   cases h1:Bc D t with
   |error f=>simp[Ex.kids,Dg,FG,Bc,h,h1,Except.bind,Except.map]
   |ok b=>
    cases h3:Bc D e with
    |error f=>simp[Ex.kids,Dg,FG,Bc,h,h1,h3,Except.bind,Except.map]
    |ok d=>
     simp only[Ex.kids,Dg,FG,CL,h,h1,h3];cases h2:Bc D (.ite i c t e) <;> simp[Except.bind,Except.map,gX]
theorem Ds.pos {N:List Nd}{i:Nat}{e:Ex}(t:Ds N i e):e.pos=i:=by
 cases t <;> rfl
theorem XI (D:List Dc):∀ (e:Ex) {l:List Int} {f:Int × Int},Dg D e.kids= .ok l→Bc D e= .error f→f.2=e.pos
 | .int ..,_,_,_,h=>by cases h
 | .text ..,_,_,_,h=>by cases h
 | .bool ..,_,_,_,h=>by cases h
 | .set ..,_,_,_,h=>by cases h
 | .name i s,_,_,_,h=>by rw[CU h];rfl
 | .attr ..,_,_,_,h=>by cases h;rfl
 | .lett ..,_,_,_,h=>by cases h;rfl
 | .un i op k,l,f,hk,h=>by
  simp only[Ex.kids,Dg,FG] at hk;rw[Bc] at h;cases h1:Bc D k with
  |error g=>rw[h1] at hk;cases hk
  |ok a=>rw[h1] at h;rw[CU h];rfl
 | .bin i op k m,l,f,hk,h=>by
  simp only[Ex.kids,Dg,FG] at hk;rw[Bc] at h;cases h1:Bc D k with
  |error g=>rw[h1] at hk;cases hk
  |ok a=>
   rw[h1] at h hk;cases h2:Bc D m with
   |error g=>rw[h2] at hk;cases hk
   |ok b=>rw[h2] at h;rw[CU h];rfl
 | .ite i k m n,l,f,hk,h=>by
  simp only[Ex.kids,Dg,FG] at hk;rw[Bc] at h;cases h1:Bc D k with
  |error g=>rw[h1] at hk;cases hk
  |ok a=>
   rw[h1] at h hk;cases h2:Bc D m with
   |error g=>rw[h2] at hk;cases hk
   |ok b=>
    rw[h2] at h hk;cases h3:Bc D n with
    |error g=>rw[h3] at hk;cases hk
    |ok d=>rw[h3] at h;rw[CU h];rfl
theorem Vi {N:List Nd}{Es:List Ex}(m:Es.length=N.length)(n:∀ j,(h:j < Es.length)→Ds N j Es[j])(ts:List Dc){a b:Nat}{d:List (Nat × Nat)}(h:Ax (N.map Nd.kids) a d b):∀ (c:List Ex),WA N (d.map (fun p=>p.1)) c→Du a ((List.range' a (b - a)).map (FF Es ts))=Dg ts c:=by
 induction h with
 |nil a=>
  intro c g
  match c,g with
  | [],_=>simp[Du,Dg]
 |@cons a t b ks d hk ht hf q r=>
  intro c g
  match c,g with
  |e ::c,⟨he,hr⟩=>
   obtain ⟨x,hx,s⟩:∃ x,N[t]? =some x∧x.kids=Aq ks:=by
    rw[zh] at ht;cases hx:N[t]? with
    |none=>rw[hx] at ht;cases ht
    |some x=>rw[hx] at ht;exact ⟨x,rfl,Option.some.inj ht⟩
   obtain ⟨u,hq,v⟩:=he.kidsX hx;have e1:ks.map (fun p=>p.1)=u:=by
    have:=s.symm.trans hq;rw[Aq] at this;have h2:=congrArg (List.map Int.toNat) this;simpa[List.map_map,Function.comp_def] using h2
   have w:=q e.kids (by rw[e1];exact v);have y:=r c hr;have F:=hk.le;have H:=hf.le;have z:List.range' a (b - a)=List.range' a (t - a) ++t ::List.range' (t+1) (b - (t+1)):=by
    have e2:b - a=(t - a)+(1+(b - (t+1))):=by omega
    rw[e2,← yE,← yE];have e3:a+(t - a)=t:=by omega
    rw[e3];rfl
   have i:t < Es.length:=by rw[m];exact he.lt
   have A:FF Es ts t=cR (Bc ts e):=by
    rw[FF,zH i];exact congrArg cR ((n t i).ty_oneX he ts).1
   have K:=Zw ts e;have B:a+(List.map (FF Es ts) (List.range' a (t - a))).length=t:=by simp;omega
   rw[z,zU,List.map_cons,NC,w,A,B];simp only[Dg];rw[K];cases C:Dg ts e.kids with
   |error f=>rfl
   |ok l=>
    cases E:Bc ts e with
    |error f=>
     have hp:=XI ts e C E;rw[he.pos] at hp;show (Except.error (f.1,(t:Int)):Except (Int × Int) (List Int))= .error f;rw[← hp]
    |ok o=>
     show (Except.map (l ++ ·) ((Du (t+1) ((List.range' (t+1) (b - (t+1))).map (FF Es ts))).map (o :: ·)))=(Dg ts c).map fun k=>(l ++ [o]) ++k;rw[y];cases Dg ts c <;> simp[Except.map]
theorem EO {N:List Nd}{Es:List Ex}(k:Es.length=N.length)(f:∀ j,(h:j < Es.length)→Ds N j Es[j]){a b:Nat}{S:List (Nat × Nat)}(d:Ax (N.map Nd.kids) a S b)(l:b≤N.length):a+((Aq S).map (Bh Es)).sum=b:=by
 have c:∀ q∈S,q.1 < Es.length:=fun q hq=>by have:=(d.lt q hq).2;omega
 have g:=Ju d (S.attach.map (fun q=>Es[q.1.1]'(c q.1 q.2))) (by simp) (fun j h1 h2=>by
  have:=f (S[j]).1 (c _ (zO h1));simpa using this)
 have e2:(Aq S).map (Bh Es)=(S.attach.map (fun q=>Es[q.1.1]'(c q.1 q.2))).map Ex.cnt:=by
  apply List.ext_getElem
  ·simp[Aq]
  ·intro j h1 h2;have i:j < S.length:=by simpa[Aq] using h1
   have hq:=c S[j] (zO i);simp only[Aq,List.getElem_map,List.getElem_attach];exact EI rfl (zH hq)
 rw[e2];exact g
def Zx (Es:List Ex) (f:Nat) (e:Ex):Prop:=∀ D,Du f ((List.range' f e.cnt).map (FF Es D))=FG D e
def MK (Es:List Ex) (c:Nat) (k:Int):Prop:=k= -1∨∃ (mm:Nat) (e:Ex),k=mm∧Es[mm]? =some e∧c+e.cnt=mm+1∧Zx Es c e
theorem ND {N:List Nd}{Es:List Ex}(b:Es.length=N.length)(a:∀ j,(h:j < Es.length)→Ds N j Es[j]){S:List (Nat × Nat)}(l:Ax (N.map Nd.kids) 0 S N.length){d m:List Int}{x:Int}(h:Aq S=d ++x ::m):MK Es ((d.map (Bh Es)).sum) x:=by
 rw[Aq] at h;obtain ⟨S1,r,rfl,h1,h2⟩:=List.map_eq_append_iff.1 h;obtain ⟨p,s,rfl,h3,h4⟩:=List.map_eq_cons_iff.1 h2;obtain ⟨c,n,f⟩:=l.split;have hc:=EO b a n (by have:=f.le;omega);have hp:=(f.lt p (zT ..)).2;have e1:c=(d.map (Bh Es)).sum:=by rw[← h1];rw[Aq] at hc;omega
 have g:p.1 < Es.length:=by omega
 have i:Ax (N.map Nd.kids) c [p] (p.1+1):=by
  cases f with
  |cons hk ht hf=>exact .cons hk ht (.nil _)
 have o:=EO b a i (by omega);have t:Bh Es (p.1:Nat)=Es[p.1].cnt:=EI rfl (zH g);have q:c+Es[p.1].cnt=p.1+1:=by
  simp only[Aq,List.map_cons,z8,List.sum_cons,List.sum_nil] at o;omega
 rw[← e1];refine .inr ⟨p.1,Es[p.1],h3.symm,zH g,q,fun ts=>?_⟩;have k:=Vi b a ts i [Es[p.1]] ⟨a p.1 g,trivial⟩;rw[show p.1+1 - c=Es[p.1].cnt by omega] at k;rw[k,Dg,Dg];cases FG ts Es[p.1] <;> simp[Except.bind,Except.map]
theorem GR {N:List Nd}{L:List St}(h:Bo N L=true):∃ S,Ax (N.map Nd.kids) 0 S N.length∧Aq S=L.flatMap Ak:=by
 simp only[Bo,zI,zG] at h;obtain ⟨⟨⟨h1,⟨h2,h3⟩,h4⟩,h5⟩,h6⟩:=h;obtain ⟨S,b,ht⟩:∃ S,CB (N.map Nd.kids) N.length [] 0=some S∧Aq S=L.flatMap Ak:=by
  rw[Ey] at h6;cases hq:CB (N.map Nd.kids) N.length [] 0 with
  |none=>rw[hq] at h6;cases h6
  |some S=>rw[hq] at h6;exact ⟨S,rfl,of_decide_eq_true h6⟩
 obtain ⟨a,_⟩:=EM N.length (.nil 0) (fun p hp=>(by cases hp)) b;rw[zX] at a;exact ⟨S,a,ht⟩
theorem Jx {N:List Nd}{L:List St}(W:AcJ N L)(Es:List Ex):∀ s∈L,Bh Es s.cond+Bh Es s.grant=((Ak s).map (Bh Es)).sum:=fun s hs=>by
 have b:Bh Es s.grant=((if s.grant≠-1 then [s.grant] else []).map (Bh Es)).sum:=by
  by_cases g:s.grant= -1
  ·rw[if_neg (fun k=>k g),g];rfl
  ·rw[if_pos g];simp
 rw[Ak,zU,List.sum_append,← b]
 congr 1
 by_cases a:s.kind=3
 ·rw[if_neg (fun k=>k a)];rcases W.stm s hs with q | q | q
  ·omega
  ·omega
  ·rw[q.2];rfl
 ·rw[if_pos a];simp
theorem Gt {N:List Nd}{L:List St}(h:Bo N L=true){Es:List Ex}(a:Es.length=N.length)(b:∀ j,(h:j < Es.length)→Ds N j Es[j]):Dt Es L=N.length:=by
 obtain ⟨S,c,ht⟩:=GR h;have h1:=EO a b c NLN;rw[EL Es L (Jx (Fv h) Es),← ht];omega
def Vj (Es:List Ex) (L:List St):Prop:=∀ k,(h:k < L.length)→MK Es (Dt Es (L.take k)) L[k].cond∧MK Es (Dt Es (L.take k)+Bh Es L[k].cond) L[k].grant
theorem PU {N:List Nd}{L:List St}(h:Bo N L=true){Es:List Ex}(b:Es.length=N.length)(c:∀ j,(h:j < Es.length)→Ds N j Es[j]):Vj Es L:=fun k hk=>by
 obtain ⟨S,d,ht⟩:=GR h;have W:=Fv h;have i:L=L.take k ++L[k] ::L.drop (k+1):=by rw[List.getElem_cons_drop,z1]
 have e1:Dt Es (L.take k)=(((L.take k).flatMap Ak).map (Bh Es)).sum:=EL Es _ (fun s hs=>Jx W Es s (List.mem_of_mem_take hs));have e2:Aq S=(L.take k).flatMap Ak ++(Ak L[k] ++(L.drop (k+1)).flatMap Ak):=by
  rw[ht]
  conv=>lhs;rw[i]
  rw[List.flatMap_append,zn]
 have hs:=zO hk;generalize L[k]=s at e2 hs ⊢;have f:s.cond= -1∨s.kind≠3:=by
  rcases W.stm s hs with q | q | q
  ·right;omega
  ·right;omega
  ·exact .inl q.2
 rw[e1];refine ⟨?_, ?_⟩
 ·rcases f with q | q
  ·exact .inl q
  ·rw[Ak,if_pos q] at e2;exact ND b c d e2
 ·by_cases g:s.grant= -1
  ·exact .inl g
  ·have q2:Ak s=(if s.kind≠3 then [s.cond] else []) ++ [s.grant]:=by rw[Ak,if_pos g]
   have e3:Aq S=((L.take k).flatMap Ak ++(if s.kind≠3 then [s.cond] else [])) ++s.grant ::(L.drop (k+1)).flatMap Ak:=by
    rw[e2,q2];simp
   have r:=ND b c d e3;have e4:(((L.take k).flatMap Ak ++(if s.kind≠3 then [s.cond] else [])).map (Bh Es)).sum=(((L.take k).flatMap Ak).map (Bh Es)).sum+Bh Es s.cond:=by
    rw[zU,List.sum_append]
    congr 1
    by_cases a:s.kind=3
    ·rw[if_neg (fun k=>k a)];rcases f with q | q
     ·rw[q];rfl
     ·exact absurd a q
    ·rw[if_pos a];simp
   rw[e4] at r;exact r
theorem XJ (D:List Dc):∀ (e:Ex),∃ l,CL D e=l ++ [gX (Bc D e)]
 | .int .. | .text .. | .bool .. | .set .. | .name .. | .attr .. | .lett .. =>⟨[],rfl⟩
 | .un _ _ _=>⟨_,rfl⟩
 | .bin _ _ _ _=>⟨_,rfl⟩
 | .ite _ _ _ _=>⟨_,rfl⟩
theorem WB {D:List Dc}{a:List Int}{e:Ex}{b:Nat}{t:Int}(h:a.length+e.cnt=b+1)(ht:Bc D e= .ok t):(a ++CL D e)[b]? =some t:=by
 obtain ⟨l,c⟩:=XJ D e;have h2:=CT D e;rw[c] at h2 ⊢;rw[zA,z7] at h2;rw[← zC,Z7 (by rw[zA];omega),zA,show b - (a.length+l.length)=0 by omega,ht];rfl
theorem WC {D:List Dc}{e:Ex}{ys:List Int}(h:FG D e= .ok ys):∃ t,Bc D e= .ok t∧ys=CL D e:=by
 unfold FG at h;cases ht:Bc D e with
 |error f=>rw[ht] at h;cases h
 |ok t=>rw[ht] at h;cases h;exact ⟨t,rfl,rfl⟩
theorem Ta {D:List Dc}{e:Ex}{f:Int × Int}(h:FG D e= .error f):Bc D e= .error f:=by
 unfold FG at h;cases ht:Bc D e with
 |error g=>rw[ht] at h;cases h;rfl
 |ok t=>rw[ht] at h;cases h
theorem AbG {nm:ByteArray}{st:Cs}{i t:Int}{ys:List Int}(h:De st.1 nm=none):DH 1 nm st i (.ok t) ys= .ok (st.1 ++ [⟨nm,true,st.2.1.length,t⟩],st.2.1 ++ [t],st.2.2 ++ys):=by
 simp[DH,Nl,h]
theorem PV {nm:ByteArray}{st:Cs}{i t:Int}{ys:List Int}(h:(De st.1 nm).isSome):DH 1 nm st i (.ok t) ys= .error (8,i):=by
 simp[DH,Nl,h]
theorem Zy {a:Int}{nm:ByteArray}{st:Cs}{i:Int}{ys:List Int}(hk:a≠1):DH a nm st i (.ok 1) ys= .ok (st.1,st.2.1,st.2.2 ++ys):=by
 simp[DH,Ed,hk]
theorem XK {a:Int}{nm:ByteArray}{st:Cs}{i t:Int}{ys:List Int}(hk:a≠1)(ht:t≠1):DH a nm st i (.ok t) ys= .error (9,i):=by
 simp[DH,Ed,hk,ht]
theorem AbH {a:Int}{nm:ByteArray}{st:Cs}{i:Int}{f:Int × Int}{ys:List Int} :DH a nm st i (.error f) ys= .error f:=by
 unfold DH;split <;> rfl
theorem XL {c:Int}{D:List Dc}{ts a ys:List Int}{i:Int} :Ed c D ts a i (.ok c) ys= .ok (D,ts,a ++ys):=by
 simp[Ed]
def FY (Es:List Ex) (st:Cs) (s:St):Except (Int × Int) Cs:=E8 st ⟨0,s.kind,s.name,Cn Es s.cond,Cn Es s.grant⟩
def DC (Es:List Ex) (st:Cs) (s:St):Except (Int × Int) Cs:=DA st ⟨0,s.kind,s.name,Cn Es s.cond,Cn Es s.grant⟩
def Eg (Es:List Ex) (st:Cs) (s:St):Except (Int × Int) Cs:=(FY Es st s).bind fun s1=>DC Es s1 s
def DE (Es:List Ex):Cs→List St→Except (Int × Int) Cs
 |st, []=> .ok st
 |st,s ::L=>(Eg Es st s).bind fun s1=>DE Es s1 L
theorem ML (Es:List Ex):∀ (L:List St) (i:Nat) (st:Cs),EK st (Id Es i L)=DE Es st L
 | [],i,st=>rfl
 |s ::L,i,st=>by
  rw[Id,EK,DE];show (Eg Es st s).bind _=_
  congr 1
  funext s1
  exact ML Es L (i+1) s1
theorem NE (Es:List Ex):∀ (L M:List St) (st:Cs),DE Es st (L ++M)=(DE Es st L).bind fun a=>DE Es a M
 | [],M,st=>rfl
 |x ::L,M,st=>by
  rw[List.cons_append,DE,DE];cases Eg Es st x with
  |error f=>rfl
  |ok a=>exact NE Es L M a
theorem Lc (Es:List Ex)(s:St)(L:List St)(st:Cs):DE Es st (L ++ [s])=(DE Es st L).bind fun a=>Eg Es a s:=by
 rw[NE]
 congr 1
 funext a
 rw[DE];cases Eg Es a s <;> rfl
theorem Vk (Es:List Ex)(L:List St)(st:Cs)(k:Nat){f:Int × Int}(h:DE Es st (L.take k)= .error f):DE Es st L= .error f:=by
 have e:=NE Es (L.take k) (L.drop k) st;rw[z1,h] at e;exact e
theorem JW {Es:List Ex}{L:List St}{st a:Cs}(h:DE Es st L= .ok a):a.2.2.length=st.2.2.length+Dt Es L∧a.2.1.length≤st.2.1.length+L.length∧(Wst st→Wst a):=by
 rw[← ML Es L 0] at h;have:=Np h;rw[JT,MH] at this;exact this
theorem Tb {Es:List Ex}{st:Cs}{b:Int}{nm:ByteArray}{a:Nat}{c:Int}{e:Ex}(he:Es[a]? =some e):FY Es st ⟨b,nm,a,c⟩=DH b nm st e.pos (Bc st.1 e) (CL st.1 e):=by
 have:Cn Es (a:Int)=some e:=by rw[Cn,if_neg (by omega),zj,he]
 simp only[FY,E8,this]
theorem Tc {Es:List Ex}{st:Cs}{a:Int}{nm:ByteArray}{cd:Int} :DC Es st ⟨a,nm,cd,-1⟩= .ok st:=by
 have:Cn Es (-1)=none:=rfl;simp only[DC,DA,this]
theorem IM {Es:List Ex}{st:Cs}{b:Int}{nm:ByteArray}{a:Nat}{cd:Int}{e:Ex}(he:Es[a]? =some e):DC Es st ⟨b,nm,cd,a⟩=Ed 4 st.1 st.2.1 st.2.2 e.pos (Bc st.1 e) (CL st.1 e):=by
 have:Cn Es (a:Int)=some e:=by rw[Cn,if_neg (by omega),zj,he]
 simp only[DC,DA,this]
theorem AbI {ns:List ByteArray}{ts:List Int}{nm:ByteArray}(h:nm∈(BU:List ByteArray)):(De (Ep ns ts) nm).isSome:=by
 have h0:=(Dv nm BU 0 (Int.le_refl 0)).2 h;rw[Ep,IL];rcases MJ nm with ⟨h1,_⟩ | ⟨j,_,_,h2⟩
 ·rw[h1] at h0;omega
 ·rw[h2];rfl
theorem AbJ {ns:List ByteArray}{ts:List Int}{nm:ByteArray}(a:ns.length=ts.length)(h:nm∈ns):(De (Ep ns ts) nm).isSome:=by
 have h0:=(Dv nm ns 0 (Int.le_refl 0)).2 h;rw[Ep,IL];cases hf:De Dj nm with
 |some d=>rfl
 |none=>
  rcases NA nm ns ts 0 a with ⟨h1,_⟩ | ⟨j,t,_,_,h2⟩
  ·have b:AE nm ns 0= -1:=h1;rw[b] at h0;omega
  ·show (De (XE 0 ns ts) nm).isSome;rw[h2];rfl
theorem AbK {ns:List ByteArray}{ts:List Int}{nm:ByteArray}(a:ns.length=ts.length)(h1:nm ∉ (BU:List ByteArray))(h2:nm ∉ ns):De (Ep ns ts) nm=none:=by
 rw[Ep,IL];rcases MJ nm with ⟨_,e1⟩ | ⟨j,_,e1,_⟩
 ·rw[e1];rcases NA nm ns ts 0 a with ⟨_,e2⟩ | ⟨j,t,e2,_,_⟩
  ·exact e2
  ·exact absurd ((Dv nm ns 0 (Int.le_refl 0)).1 (by have b:AE nm ns 0=((0+j:Nat):Int):=e2;rw[b];omega)) h2
 ·exact absurd ((Dv nm BU 0 (Int.le_refl 0)).1 (by rw[e1];omega)) h1
theorem Td (nm:ByteArray)(t:Int):∀ (ns:List ByteArray) (ts:List Int) (k:Nat),ns.length=ts.length→XE k (ns ++ [nm]) (ts ++ [t])=XE k ns ts ++ [⟨nm,true,((k+ts.length:Nat):Int),t⟩]
 | [], [],k,_=>rfl
 |n ::ns,x ::ts,k,h=>by
  rw[List.cons_append,List.cons_append,XE,XE,Td nm t ns ts (k+1) (by simpa using h),List.cons_append,List.length_cons]
  congr 4
  omega
 | [],_ ::_,_,h=>by cases h
 |_ ::_, [],_,h=>by cases h
theorem Te {ns:List ByteArray}{ts:List Int}{nm:ByteArray}{t:Int}(a:ns.length=ts.length):Ep ns ts ++ [⟨nm,true,ts.length,t⟩]=Ep (ns ++ [nm]) (ts ++ [t]):=by
 rw[Ep,Ep,Td nm t ns ts 0 a,zC,zX]
theorem AbL:Ep [] []=Dj:=by simp[Ep,XE]
theorem Lm.readX {B d:Nat}{ns:List ByteArray}{ts a:List Int}{f lv:Value}{b:Option Addr}{k j:Nat}{w:World}(h:Lm B d ns ts a f lv (.slice b k j) w){i:Nat}{t:Int}(ht:a[i]? =some t):∃ g,b=some ⟨g,0,none⟩∧w.cell? ⟨g,i,none⟩=some (.int .i64 t)∧(i:Int) < k:=by
 have hi:=(ze.1 ht).1;obtain ⟨x,c,e,hx⟩:=Ad h.types;cases e;obtain ⟨g,l,_,hc⟩:=hx (by omega);exact ⟨g,l,hc i _ (by rw[Ar,zh,ht];rfl),by omega⟩
theorem Lm.nmsAtX {B a:Nat}{ns:List ByteArray}{ts d:List Int}{x:Option Addr}{n c:Nat}{lv f:Value}{w:World}(h:Lm B a ns ts d (.slice x n c) lv f w):XF w x ns∧w.cell? ⟨a,0,none⟩=some (.slice x n c):=by
 obtain ⟨y,l,e,hx⟩:=Ad h.names;cases e;refine ⟨fun j i=>?_,h.row.cell 0⟩;obtain ⟨g,b,_,hc⟩:=hx (by omega);have k:=(h.names.lt g (by rw[b];rfl)).2;exact ⟨g,0,b,k,by rw[zX];exact hc j _ (by rw[zh,zH i];rfl)⟩
theorem Lm.nmsX {B d:Nat}{ns:List ByteArray}{ts f:List Int}{a lv i:Value}{w:World}(h:Lm B d ns ts f a lv i w):∃ x c,a= .slice x ns.length c∧XF w x ns:=by
 obtain ⟨x,c,e,hx⟩:=Ad h.names;refine ⟨x,c,e,fun j k=>?_⟩;obtain ⟨g,b,_,hc⟩:=hx (by omega);have l:=(h.names.lt g (by rw[e,b];rfl)).2;exact ⟨g,0,b,l,by rw[zX];exact hc j _ (by rw[zh,zH k];rfl)⟩
theorem Ls.sizeX {B a b c d:Nat}{ns:List ByteArray}{ts f:List Int}{g lv i:Value}{S:Array Value}{j k:Int}{l w:World}(h:Ls B a b c d ns ts f g lv i S j k l w):B≤w.heap.size:=by have:=h.S.lt;have:=h.ord;omega
def CkM (o:Except (Int × Int) Cs) (w:World) (r:Ending) (w':World):Prop:=
 (∃ (B lb:Nat) (ns:List ByteArray) (ts tt:List Int) (nv lv tv:Value),o= .ok (Ep ns ts,ts,tt)∧ns.length=ts.length∧r= .returned (.tuple #[tv,.pointer (some ⟨lb,0,none⟩),.agg #[.int .i64 0,.int .i64 0]])∧Lm B lb ns ts tt nv lv tv w'∧w.heap.size≤lb∧Below w.heap.size w w')∨
 (∃ f:Int × Int,o= .error f∧r= .returned (.tuple #[.slice none 0 0,.pointer none,.agg #[.int .i64 f.1,.int .i64 f.2]])∧f.1≠0∧Below w.heap.size w w')
theorem XM (a:Option Addr)(n c:Nat)(N:List Nd)(q:∀ x∈N,As x=true)(i:World)(r:GQ i a n c N)(B:Nat)(hB:i.heap.size≤B)(Es:List Ex)(s:Es.length=n)(t:∀ j,(h:j < Es.length)→Ds N j Es[j])(u:n≤4000)
  (m:Nat)(ns:List ByteArray)(ts f:List Int)(v lv o:Value)(w:∀ d∈Ep ns ts,1≤d.typ∧d.typ≤4)(y:ns.length=ts.length)(L:ts.length≤1000)(z:f.length≤4000)(k:Nat)(e:Ex)(he:Es[k]? =some e)(h1:f.length+e.cnt=k+1)(hs:Zx Es f.length e)(W:World)(A:Below i.heap.size i W)(b:Lm B m ns ts f v lv o W)(C:B≤W.heap.size):
  Calls Tryz.prog 50 #[.slice a n c,.int .i64 f.length,.int .i64 k,.pointer (some ⟨m,0,none⟩),o] W (TrX B o f (FG (Ep ns ts) e) W):=by
 obtain ⟨E,F,rfl,H⟩:=Ad b.lets;obtain ⟨I,J,rfl,K⟩:=b.nmsX;have M:k < Es.length:=(ze.1 he).1;have e1:(k:Int)=((f.length+e.cnt:Nat):Int) - 1:=by omega
 rw[← hs (Ep ns ts),e1];refine SZ a n c N q i r B hB m I ns.length J ns E ts.length F ts w Es s t f.length e.cnt (by omega) (by omega) u o f z W A C ⟨b.row.cell 0,b.row.cell 1,b.row.lt,K,rfl,by omega,EJ b.lets (by omega),y⟩ (fun e=>Ae b.row b.types (by decide) e.symm) (fun x hx e=>?_) (fun x hx e=>Gu b.names b.types (by decide) x.block (by rw[hx];rfl) e.symm) b.types;by_cases h0:ts.length=0
 ·have h2:m < W.heap.size:=b.row.lt;rcases b.lets.2 with ⟨l,_⟩ | ⟨g,cap,O,l,_⟩
  ·rw[hx] at l;cases l
  ·rw[hx] at l;cases l;exact b.apart g (by rw[hx];rfl) e.symm
 ·obtain ⟨g,p,_⟩:=H (by omega);rw[p] at hx;cases hx;exact b.apart g (by rw[p];rfl) e.symm
set_option maxRecDepth 100000
set_option maxHeartbeats 6400000
structure CdR (Es:List Ex) (ns:List ByteArray) (ts tt:List Int) (s:St) (ns7:List ByteArray) (ts7 tt7:List Int):Prop where
 cd:FY Es (Ep ns ts,ts,tt) s= .ok (Ep ns7 ts7,ts7,tt7)
 len:ns7.length=ts7.length
 typ:∀ d∈Ep ns7 ts7,1≤d.typ∧d.typ≤4
 few:ts7.length≤601
 room:tt7.length+Bh Es s.grant≤4000
 sp:MK Es tt7.length s.grant
theorem WD {W:World}{b a:Nat}{i j c d:Value}{t:TypeId}(F:Al W a #[i,j] t)(R:Al W b #[c,d] t)(h:b≠a)(x y:Value):Al ((W.setCell ⟨a,0,none⟩ x).setCell ⟨a,1,none⟩ y) a #[x,y] t∧Al ((W.setCell ⟨a,0,none⟩ x).setCell ⟨a,1,none⟩ y) b #[c,d] t∧Al ((W.setCell ⟨a,0,none⟩ x).setCell ⟨a,1,none⟩ y).drew a #[x,y] t∧Al ((W.setCell ⟨a,0,none⟩ x).setCell ⟨a,1,none⟩ y).drew b #[c,d] t:=by
 have f:=(F.set 0 x).set 1 y;have g:=(R.setFar (p:=⟨a,0,none⟩) h x).setFar (p:=⟨a,1,none⟩) h y;exact ⟨f,g,⟨f.out⟩,⟨g.out⟩⟩
theorem XN {d:Func}{g:Array Value}{r:Except (Int × Int) Cs}{c W b:World}{a:Nat}{f:Int × Int}{j k:Value}(R:Al W a #[j,k] 28)(l:c.heap.size=a)(D:Below a c W)(hq:r= .error f)(hf:f.1≠0)(m:b=(W.setCell ⟨a,0,none⟩ (.int .i64 f.1)).setCell ⟨a,1,none⟩ (.int .i64 f.2)∨b=((W.setCell ⟨a,0,none⟩ (.int .i64 f.1)).setCell ⟨a,1,none⟩ (.int .i64 f.2)).drew)(n:∀ V:World,V.cell? ⟨a,0,none⟩=some (.int .i64 f.1)→V.cell? ⟨a,1,none⟩=some (.int .i64 f.2)→(results d g).run Tryz.prog V= .ok (.tuple #[.slice none 0 0,.pointer none,.agg #[.int .i64 f.1,.int .i64 f.2]]) V):bodyPost Tryz.prog d (CkM r c) Exit.ret { tmps:=g,defers:= [] } b:=by
 have h:=(R.set 0 (.int .i64 f.1)).set 1 (.int .i64 f.2);have i:=(D.setCell (p:=⟨a,0,none⟩) (Nat.le_refl a) (.int .i64 f.1)).setCell (p:=⟨a,1,none⟩) (Nat.le_refl a) (.int .i64 f.2);have e:Al b a #[.int .i64 f.1,.int .i64 f.2] 28∧Below a c b:=by
  rcases m with rfl | rfl
  ·exact ⟨h,i⟩
  ·exact ⟨⟨h.out⟩,i.drew⟩
 exact bodyPost_ret (n b (e.1.cell 0) (e.1.cell 1)) rfl (.inr ⟨f,hq,rfl,hf,by rw[l];exact e.2⟩)
theorem QX (a b:Option Addr)(n c m d:Nat)(N:List Nd)(L:List St)(b0:∀ x∈N,As x=true)(w:World)(b6:GQ w a n c N)(bh:KN w b m d L)(Es:List Ex)(b7:Es.length=n)(bi:∀ j,(h:j < Es.length)→Ds N j Es[j])(c9:n≤4000)(er:m≤600)(b8:Vj Es L)(b9:Dt Es L≤4000):
  Calls Tryz.prog 30 #[.slice a n c,.slice b m d] w (CkM (DE Es (Dj, [], []) L) w):=by
 obtain ⟨da,db,dc,dd,de⟩:=info_parts Jk;obtain ⟨df,dg,dh,di,dj⟩:=info_parts M8;have bj:=Ab (fun (y:Nat) (ns:List ByteArray) (ts o:List Int) (ag lv dk:Value)=>XM a n c N b0 w b6 (w.heap.size+3) (by omega) Es b7 bi c9 y ns ts o ag lv dk);have dl:=Ab b8;have ca:=Ab (show ∀ (A:Nat) (e:Ex),Es[A]? =some e→e.pos=A from fun A e h=>by obtain ⟨dm,dn⟩:=ze.1 h;rw[← dn];exact (bi A dm).pos);have dp:=Ab b9;have cb:=Ab bh.len;have bk:=((Al.new w #[.int .i64 0,.int .i64 0] 28).alloc (.cells #[.slice none 0 0,.slice none 0 0] 93)).alloc (.cells #[.int .i64 0,.int .i64 0] 28);have a1:=(Al.new (w.alloc (.cells #[.int .i64 0,.int .i64 0] 28)) #[.slice none 0 0,.slice none 0 0] 93).alloc (.cells #[.int .i64 0,.int .i64 0] 28);have aE:=Al.new ((w.alloc (.cells #[.int .i64 0,.int .i64 0] 28)).alloc (.cells #[.slice none 0 0,.slice none 0 0] 93)) #[.int .i64 0,.int .i64 0] 28;have bl:=((((Below.refl w.heap.size w).alloc NLN (.cells #[.int .i64 0,.int .i64 0] 28)).alloc (by simp) (.cells #[.slice none 0 0,.slice none 0 0] 93)).alloc (by simp;omega) (.cells #[.int .i64 0,.int .i64 0] 28))
 have a2:(((w.alloc (.cells #[.int .i64 0,.int .i64 0] 28)).alloc (.cells #[.slice none 0 0,.slice none 0 0] 93)).alloc (.cells #[.int .i64 0,.int .i64 0] 28)).heap.size=w.heap.size+3:=by simp
 simp only[World.size_alloc] at a1 aE;clear b0 b6 bi b7 b8 b9;go_enter Tryz.func30,Tryz.ntmps30
 go_wp2_with fail
 generalize (((w.alloc (.cells #[.int .i64 0,.int .i64 0] 28)).alloc (.cells #[.slice none 0 0,.slice none 0 0] 93)).alloc (.cells #[.int .i64 0,.int .i64 0] 28))=dq at bk a1 aE bl a2 ⊢;have al:w.heap.size < w.heap.size+1∧w.heap.size+1 < w.heap.size+1+1∧w.heap.size+1+1 < w.heap.size+3:=by omega
 have bm:Lm (w.heap.size+3) (w.heap.size+1) [] [] [] (.slice none 0 0) (.slice none 0 0) (.slice none 0 0) dq:=⟨a1,World.ownsRow_nil _ _ _ _,World.ownsRow_nil _ _ _ _,World.ownsRow_nil _ _ _ _,by omega,fun q h=>(by cases h)⟩
 clear a1;generalize dr:w.heap.size+1=y at al bm aE ⊢;generalize ds:y+1=P at al aE ⊢;generalize dt:w.heap.size+3=B at al bm bj a2 ⊢;generalize a3:w.heap.size=g at al bk bl ⊢;have X:=Ab a3;have du:=Ab (show g≤y∧w.heap.size≤B by omega);clear dr ds dt a3;go_loopw [8,17] (fun v i wr=>∃ (k:Nat) (ns:List ByteArray) (ts o:List Int) (ag lv:Value) (bn bo:Int),k≤m∧i= .int .i64 k∧Hid (DE Es (Dj, [], []) (L.take k)= .ok (Ep ns ts,ts,o)∧ns.length=ts.length)∧Lm B y ns ts o ag lv v wr∧Al wr P #[.int .i64 bn,.int .i64 bo] 28∧Al wr g #[.int .i64 0,.int .i64 0] 28∧Below g w wr∧B≤wr.heap.size) (fun _ i _=>m - (intOf i).toNat)
 case atStart=>exact ⟨0, [], [], [],_,_,0,0,zF _,rfl,Ab ⟨by rw[AbL];rfl,rfl⟩,bm,aE,bk,bl,by omega⟩
 case round=>
  obtain ⟨k,ns,ts,o,ag,lv,bn,bo,hk,rfl,ao,a4,cc,aF,ap,ce⟩:=hrel;obtain ⟨bp,bq,rfl,_⟩:=Ad a4.types;by_cases br:k < m
  ·have es:(k:Int) < (m:Int):=by omega
   have aq:k < L.length:=by rw[Aa cb];exact br
   have a3:=Aa X;obtain ⟨ah,os,rfl,dv,cf,cg,ch,ci⟩:=bh.cells k aq;have c0:=(ap.cell (p:=⟨ah,os+k * 4,none⟩) (by show ah < g;omega)).trans cf;have c1:=(ap.cell (p:=⟨ah,os+k * 4+1,none⟩) (by show ah < g;omega)).trans cg;have c2:=(ap.cell (p:=⟨ah,os+k * 4+2,none⟩) (by show ah < g;omega)).trans ch;have c3:=(ap.cell (p:=⟨ah,os+k * 4+3,none⟩) (by show ah < g;omega)).trans ci;have cj:=bh.sizes _ (zO aq);clear cf cg ch ci dv;obtain ⟨ck,bs,cl⟩:=JW (Aa ao).1;have room:=XO Es L k aq;have cm:∀ d∈Ep ns ts,1≤d.typ∧d.typ≤4:=cl SN;have cn:o.length=Dt Es (L.take k):=by simpa using ck
   have dw:ts.length≤k:=by rw[zb] at bs;simp at bs;omega
   obtain ⟨aG,ab⟩:=Aa dl k aq;rw[← cn] at aG ab room;have bt:=Ab (show ∀ bu,Eg Es (Ep ns ts,ts,o) L[k]= .ok bu→DE Es (Dj, [], []) (L.take (k+1))= .ok bu from fun bu e=>by rw[zf aq,Lc,(Aa ao).1];exact e);have ar:=Ab (show ∀ f,Eg Es (Ep ns ts,ts,o) L[k]= .error f→DE Es (Dj, [], []) L= .error f from fun f e=>Vk Es L _ (k+1) (by rw[zf aq,Lc,(Aa ao).1];exact e));have a5:=Ab br;have a6:=Ab (Aa ao).2;have dx:=Aa dp;have az:=Ab (show o.length+(Bh Es L[k].cond+Bh Es L[k].grant)≤4000 by omega);have ai:=Ab (show ts.length≤600 by omega);have aH:=Ab cm;clear ck bs cl cn dw room cm dx ao br a3;generalize L[k]=s at c0 c1 c2 c3 cj aG ab bt ar az;clear aq;obtain ⟨O,nm,cd,U⟩:=s;dsimp only at c0 c1 c2 c3 cj aG ab az;have H:Ls B g y P wr.heap.size ns ts o ag lv (.slice bp o.length bq) #[.int .i64 O,.string nm,.int .i64 cd,.int .i64 U] bn bo w (wr.alloc (.cells #[.int .i64 O,.string nm,.int .i64 cd,.int .i64 U] 60)):=⟨a4.below (BRN.alloc NLN _),cc.alloc _,aF.alloc _,Al.new wr _ _,ap.alloc (by omega) _,⟨al.1,al.2.1,al.2.2,ce⟩⟩
   have dy:B≤wr.heap.size:=ce;clear a4 cc aF ap;go_upto_if 23 with fail
   generalize wr.alloc (.cells #[.int .i64 O,.string nm,.int .i64 cd,.int .i64 U] 60)=et at H ⊢;generalize wr.heap.size=dz at H dy ⊢;have dA:=Ab (show o.length+Bh Es cd+Bh Es U≤4000 by have:=Aa az;omega);have co:=Ab H;clear H;go_cut [8] (fun v dB=>∃ (I:List ByteArray) (C Y:List Int) (aI aJ:Value) (cp cq:Int),Hid (CdR Es ns ts o ⟨O,nm,cd,U⟩ I C Y)∧Ls B g y P dz I C Y aI aJ v #[.int .i64 O,.string nm,.int .i64 cd,.int .i64 U] cp cq w dB)
   case first=>
    have H:=Aa co;obtain ⟨a2,dC,dD,dE,dF⟩:=Bv H.S;rcases aG with hc | ⟨A,e,hc,he,hp,cr⟩
    ·subst hc;have aj:=Ab (show CdR Es ns ts o ⟨O,nm,-1,U⟩ ns ts o from ⟨rfl,Aa a6,Aa aH,by have:=Aa ai;omega,by have:=Aa dA;rw[show Bh Es (-1)=0 from rfl] at this;omega,by rw[show Bh Es (-1)=0 from rfl,zZ] at ab;exact ab⟩);go_wp2_with fail
     go_meet
     exact ⟨ns,ts,o,ag,lv,_,_,aj,H⟩
    ·subst hc;have dG:=Ab (Aa bj y ns ts o ag lv (.slice bp o.length bq) (Aa aH) (Aa a6) (by have:=Aa ai;omega) (by have:=Aa az;omega) A e he hp cr);have cs:=Ab (show FY Es (Ep ns ts,ts,o) ⟨O,nm,A,U⟩=DH O nm (Ep ns ts,ts,o) A (Bc (Ep ns ts) e) (CL (Ep ns ts) e) by rw[Tb he,Aa ca A e he]);have ct:=Ab (EI (k:=(A:Int)) rfl he);rw[EI (k:=(A:Int)) rfl he] at ab;have ak:=a6;have eu:(0 :Int)≤(A:Int):=by omega
     have ev:A≤4000:=by have:=Aa az;have:=Aa ct;omega
     clear he cr;go_wp2_with fail
     refine (Aa dG _ (by rw[Aa X];exact H.low) H.M H.sizeX).mono ?_;rintro r w2 (⟨a7,dH,aK,rfl,bv,cu,b2⟩ | ⟨⟨aL,a8⟩,dH,aK,rfl,dI,bw,b2⟩)
     ·have aM:=H.tree bv cu b2;obtain ⟨ew,ex,rfl,_⟩:=Ad bv;have bx:=Ab aK;clear bv cu aK;obtain ⟨a9,bz⟩:∃ l,l=o ++a7:=⟨_,rfl⟩
      rw[← bz] at aM ⊢;have ba:=Ab bz;clear bz;obtain ⟨ey,ez⟩:=Ba aM.F;have eA:=fun j=>aM.F.frozen j;have eB:=fun j=>(aM.F.set 0 (.int .i64 0)).frozen j;have Q:=aM.fault 0 0;obtain ⟨eC,eD⟩:=Ba Q.F;obtain ⟨u20,u21,u22,u23,eE⟩:=Bv Q.S;dsimp only;obtain ⟨ae,bb,aN⟩:=WC (Aa bx);obtain ⟨eF,rfl,eG,eH⟩:=Q.M.readX (i:=A) (t:=ae) (by rw[Aa ba,aN];exact WB hp bb);have cv:o.length+e.cnt=a9.length:=by rw[Aa ba,zA,aN,CT]
      rw[cv] at ab;have aO:=Ab (show a9.length+Bh Es U≤4000 by have:=Aa az;have:=Aa ct;omega);have eI:=Ab aN;have dJ:=Ab (KS (Aa aH) e ae bb);have aP:=Ab (show FY Es (Ep ns ts,ts,o) ⟨O,nm,A,U⟩=DH O nm (Ep ns ts,ts,o) A (.ok ae) a7 by rw[Aa cs,bb,aN]);clear aN bb cv;by_cases aA:O=1
      ·subst aA;by_cases au:nm∈(BU:List ByteArray)
       ·have bc:=(Dv nm BU 0 (Int.le_refl 0)).2 au;have av:=Ab (Aa ar (8,(A:Int)) (by rw[Eg,Aa aP,PV (AbI au)];rfl));clear au;go_wp2_with fail
        refine (FE _ _).mono ?_;rintro r cw ⟨rfl,b4⟩;have K:=Q.below b4;obtain ⟨cx,cy,cz,cA,cB⟩:=Bv K.S;generalize AE nm BU 0=cC at bc ⊢;dsimp only;have J:=K.below BRN.drew;obtain ⟨aQ,aR⟩:=Ba J.R;have aS:=fun j=>J.R.frozen j;obtain ⟨bA,bB,bC,bD,bE⟩:=Bv J.S;obtain ⟨bF,bG⟩:=Ba K.R;have bH:=fun j=>K.R.frozen j;go_wp2_with fail
        go_region
        all_goals
         go_wp2_with fail
         exact XN (f:=(8,A)) K.R (by rw[Aa X]) K.low (Aa av) (by simp) (.inr rfl) fun V g0 g1=>by simp[results,Tryz.results30,go_sem,g0,g1]
       ·have bc: ¬ (0≤AE nm BU 0):=fun h=>au ((Dv nm BU 0 (Int.le_refl 0)).1 h);obtain ⟨aw,ax,rfl,_⟩:=Ad Q.M.names;by_cases aB:nm∈ns
        ·have bI:=(Dv nm ns 0 (Int.le_refl 0)).2 aB;have av:=Ab (Aa ar (8,(A:Int)) (by rw[Eg,Aa aP,PV (AbJ (Aa ak) aB)];rfl));clear au aB;go_wp2_with fail
         refine (FE _ _).mono ?_;rintro r cw ⟨rfl,b4⟩;have K:=Q.below b4;obtain ⟨cx,cy,cz,cA,cB⟩:=Bv K.S;generalize AE nm BU 0=cC at bc ⊢;dsimp only;go_wp2_with fail
         refine (JV y aw ns.length ax ns nm _ K.M.nmsAtX.2 K.M.row.lt rfl (by have:=Aa ak;have:=Aa ai;omega) K.M.nmsAtX.1).mono ?_;rintro r ac ⟨rfl,b5⟩;have z:=K.below b5;obtain ⟨dK,dM,dN,dO,dP⟩:=Bv z.S;generalize AE nm ns 0=dQ at bI ⊢;dsimp only;have J:=z.below BRN.drew;obtain ⟨aQ,aR⟩:=Ba J.R;have aS:=fun j=>J.R.frozen j;obtain ⟨bA,bB,bC,bD,bE⟩:=Bv J.S;obtain ⟨bF,bG⟩:=Ba z.R;have bH:=fun j=>z.R.frozen j;go_wp2_with fail
         go_region
         all_goals
          go_wp2_with fail
          exact XN (f:=(8,A)) z.R (by rw[Aa X]) z.low (Aa av) (by simp) (.inr rfl) fun V g0 g1=>by simp[results,Tryz.results30,go_sem,g0,g1]
        ·have bI: ¬ (0≤AE nm ns 0):=fun h=>aB ((Dv nm ns 0 (Int.le_refl 0)).1 h);have af:=Ab ((Aa aP).trans (AbG (st:=(Ep ns ts,ts,o)) (t:=ae) (ys:=a7) (AbK (Aa ak) au aB)));clear au aB;go_wp2_with fail
         refine (FE _ _).mono ?_;rintro r cw ⟨rfl,b4⟩;have K:=Q.below b4;obtain ⟨cx,cy,cz,cA,cB⟩:=Bv K.S;generalize AE nm BU 0=cC at bc ⊢;dsimp only;go_wp2_with fail
         refine (JV y aw ns.length ax ns nm _ K.M.nmsAtX.2 K.M.row.lt rfl (by have:=Aa ak;have:=Aa ai;omega) K.M.nmsAtX.1).mono ?_;rintro r ac ⟨rfl,b5⟩;have z:=K.below b5;obtain ⟨dK,dM,dN,dO,dP⟩:=Bv z.S;generalize AE nm ns 0=dQ at bI ⊢;dsimp only;obtain ⟨dR,dS,rfl,_⟩:=Ad z.M.lets;obtain ⟨eJ,eK⟩:=Ba z.M.row;have eL:=fun j=>z.M.row.frozen j;have J:=z.below BRN.drew;obtain ⟨eM,eN⟩:=Ba J.M.row;have eO:=fun j=>J.M.row.frozen j;obtain ⟨eP,eQ,eR,eS,eU⟩:=Bv J.S;have eV:B≤ac.heap.size:=z.sizeX;have eW:ns.length≤1000:=by have:=Aa ak;have:=Aa ai;omega
         have eX:ts.length≤1000:=by have:=Aa ai;omega
         have eY:y < ac.heap.size:=z.M.row.lt;have cD:g≤y:=by have:=z.ord;omega
         have eZ:g≤B:=by have:=z.ord;omega
         go_wp2_with fail
         have dT:(ac.alloc (.cells #[.string nm] 9)).drew.frozen? ⟨y,0,none⟩=false:=(z.M.row.alloc _).frozen 0;have cE:(ac.alloc (.cells #[.string nm] 9)).drew.ownsRow B 9 1 (.slice aw ns.length ax) ns.length (ns.map Value.string):=(z.M.names.alloc _).drew;go_region_law (refine step_append_lies _ rfl _ _ 56 rfl B 9 df (.string ByteArray.empty) 1 16 Tryz.underlying56 dg dh di dj rfl (by decide) (.slice aw ns.length ax) ns.length (ns.map Value.string) rfl cE ⟨ac.heap.size,0,none⟩ 1 1 [.string nm] rfl rfl (Bj ac _ _ _ rfl) (by intro u aT;simp at aT;subst aT;rfl) (by decide) (by unfold maxLen;omega) (by omega) (by simp;omega) _ rfl ?_;intro b1 c1 aU cF Z hat e0;have bJ:Al aU y #[.slice aw ns.length ax,.slice dR ts.length dS] 93:=⟨(Z.block y (by simp;omega) (fun e=>Ae z.M.row z.M.names (by decide) e.symm)).trans (z.M.row.alloc (.cells #[.string nm] 9)).out⟩;have s6:aU.cell? ⟨y,0,none⟩=some (.slice aw ns.length ax)∧aU.frozen? ⟨y,0,none⟩=false:=⟨bJ.cell 0,bJ.frozen 0⟩;obtain ⟨dU,dV⟩:=s6)
         all_goals
          have bK:(ac.alloc (.cells #[.string nm] 9)).grownBy aU (Value.slice aw ns.length ax).ownBlock:=⟨Z.os,Z.tape,Z.output,Z.size,Z.block⟩
          obtain ⟨_,cG,cH,e1⟩:=z.M.pushN z.sizeX cF bK (hat.imp id (fun e=>by rw[e];show (ac.alloc _).heap.size=_;simp));have cI:=(((Below.refl g ac).alloc (by omega) (.cells #[.string nm] 9)).grown bK (by simp;omega) (fun q hq=>by have:=(z.M.names.lt q hq).1;omega)).setCell (p:=⟨y,0,none⟩) cD (.slice (some ⟨b1,0,none⟩) (ns.length+1) c1);have aa:=z.of_kept z.M.names (by decide) (by decide) cG cH cI;clear Z bK hat cF cE bJ cG cH cI dT dU dV;generalize aU.setCell ⟨y,0,none⟩ (.slice (some ⟨b1,0,none⟩) (ns.length+1) c1)=aV at aa ⊢;obtain ⟨e2,e4⟩:=Ba aa.M.row;have e5:=fun j=>aa.M.row.frozen j;have e6:B≤aV.heap.size:=aa.sizeX;have e7:y < aV.heap.size:=aa.M.row.lt;go_wp2_with (at_builtin;refine wpList_append_lies _ rfl _ _ 24 rfl B 3 da (.int .i64 0) 1 8 Tryz.underlying24 db dc dd de rfl (by decide) _ _ _ rfl (World.ownsRow.alloc aa.M.lets _) ⟨aV.heap.size,0,none⟩ 1 1 [.int .i64 ae] rfl rfl ?c1 ?c2 (by decide) ?c3 ?c4 ?c5 (aV.heap.size+1) (by simp) ?_)
          case c1=>exact Bj _ _ _ _ (by simp)
          case c2=>intro u aT;simp at aT;subst aT;rfl
          case c3=>unfold maxLen;omega
          case c4=>omega
          case c5=>simp;omega
          intro g7 dW e8 cJ Z hat e9;obtain ⟨cK,cL,cM,E⟩:=aa.M.pushL aa.sizeX cJ Z hat;have cN:=(((Below.refl g aV).alloc (by omega) (.cells #[.int .i64 ae] 3)).grown Z (by simp;omega) (fun q hq=>by have:=(aa.M.lets.lt q hq).1;omega)).setCell (p:=⟨y,1,none⟩) cD (.slice (some ⟨g7,0,none⟩) (ts.length+1) dW);have cO:=aa.of_kept aa.M.lets (by decide) (by decide) cL cM cN;obtain ⟨fa,fb⟩:=Ba cK;have fc:=fun j=>cK.frozen j;obtain ⟨fd,fe,ff,fg,fh⟩:=Bv cO.S;clear Z hat cJ cL cM cN;have aj:=Ab (show CdR Es ns ts o ⟨1,nm,A,U⟩ (ns ++ [nm]) (ts ++ [ae]) a9 from ⟨by rw[Aa af,Aa ba,← Te (Aa ak)],by rw[zA,zA,Aa ak];rfl,fun d h=>by rw[← Te (Aa ak)] at h;exact (zK.1 h).elim (Aa aH d) (fun h=>by simp at h;subst h;exact Aa dJ),by rw[zA];have:=Aa ai;simp;omega,Aa aO,ab⟩);go_wp2_with fail
          go_meet
          exact ⟨_,_,_,_,_,_,_,aj,cO⟩
      ·have fi:(O== 1)=false:=zB.2 aA;by_cases bd:ae=1
       ·subst bd;have af:=Ab ((Aa aP).trans (Zy (nm:=nm) (st:=(Ep ns ts,ts,o)) (ys:=a7) aA));have aj:=Ab (show CdR Es ns ts o ⟨O,nm,A,U⟩ ns ts a9 from ⟨by rw[Aa af,Aa ba],Aa a6,Aa aH,by have:=Aa ai;omega,Aa aO,ab⟩);clear aA af;go_wp2_with fail
        go_meet
        exact ⟨_,_,_,_,_,_,_,aj,Q⟩
       ·have fj:(ae != 1)=true:=zS.2 bd;have av:=Ab (Aa ar (9,(A:Int)) (by rw[Eg,Aa aP,XK aA bd];rfl));clear aA bd;have J:=Q.below BRN.drew;obtain ⟨aQ,aR⟩:=Ba J.R;have aS:=fun j=>J.R.frozen j;obtain ⟨bA,bB,bC,bD,bE⟩:=Bv J.S;obtain ⟨bF,bG⟩:=Ba Q.R;have bH:=fun j=>Q.R.frozen j;go_wp2_with fail
        go_region
        all_goals
         go_wp2_with fail
         exact XN (f:=(9,A)) Q.R (by rw[Aa X]) Q.low (Aa av) (by simp) (.inr rfl) fun V g0 g1=>by simp[results,Tryz.results30,go_sem,g0,g1]
     ·have bL:=H.F.below b2 H.ord.2.2.1;have dX:=H.R.below b2 (by have:=H.ord;omega);have dY:=H.low.trans (b2.mono (by have:=H.ord;omega));have fk:(aL != 0)=true:=zS.2 bw;have dZ:=Ab bw;have bx:=Ab aK;clear bw aK;have bM:g≠P:=by have:=H.ord;omega
      obtain ⟨cP,cQ⟩:=Ba bL;have cS:=fun j=>bL.frozen j;have bN:=(dY.setCell (p:=⟨P,0,none⟩) (by have:=H.ord;show g≤P;omega) (.int .i64 aL)).setCell (p:=⟨P,1,none⟩) (by have:=H.ord;show g≤P;omega) (.int .i64 a8);obtain ⟨bO,ad,bP,aW⟩:=WD bL dX bM (.int .i64 aL) (.int .i64 a8);obtain ⟨d0,d1⟩:=Ba bO;obtain ⟨d2,d3⟩:=Ba ad;have d4:=fun j=>ad.frozen j;obtain ⟨d5,d6⟩:=Ba bP;obtain ⟨aQ,aR⟩:=Ba aW;have aS:=fun j=>aW.frozen j;dsimp only;rcases dI with rfl | ⟨_,_,_,rfl⟩
      all_goals
       go_wp2_with fail
       go_region
      all_goals
       go_wp2_with fail
       exact XN (f:=(aL,a8)) ad (by rw[Aa X]) bN (Aa ar (aL,a8) (by rw[Eg,Aa cs,Ta (Aa bx),AbH];rfl)) (Aa dZ) (by first | exact .inr rfl | exact .inl rfl) fun V g0 g1=>by simp[results,Tryz.results30,go_sem,g0,g1]
   case rest=>
    obtain ⟨I,C,Y,aI,aJ,cp,cq,aj,E⟩:=hcut;obtain ⟨cT,cU,cV,cW,bQ,cX⟩:=Aa aj;dsimp only at bQ cX;have af:=Ab cT;have bR:=Ab cU;have d7:=Ab cV;have d8:=Ab cW;have aO:=Ab bQ;obtain ⟨d9,ea,rfl,_⟩:=Ad E.M.types;obtain ⟨a2,dC,dD,dE,dF⟩:=Bv E.S;clear cT cU cV cW bQ aj aG ab co;rcases cX with bS | ⟨W,e3,bS,ay,cY,cZ⟩
    ·subst bS;have bT:(I).length=(C).length:=Aa bR;go_wp2_with fail
     go_roundw
     case rel=>exact ⟨k+1,I,C,Y,aI,aJ,_,_,Aa a5,by go_num,Ab ⟨Aa bt _ (by rw[Eg,Aa af];exact Tc),bT⟩,E.M,E.F,E.R,E.low,E.sizeX⟩
     case measure=>have:=Aa a5;simp[intOf];omega
    ·subst bS;have eb:=Ab (Aa bj y I C Y aI aJ (.slice d9 Y.length ea) (Aa d7) (Aa bR) (by have:=Aa d8;omega) (by have:=Aa aO;omega) W e3 ay cY cZ);have ec:=Ab (show ∀ f,Bc (Ep I C) e3= .error f→DC Es (Ep I C,C,Y) ⟨O,nm,cd,W⟩= .error f from fun f h=>by rw[IM ay];show Ed 4 _ _ _ _ (Bc (Ep I C) e3) _=_;rw[h];rfl);have ed:=Ab (show ∀ t,Bc (Ep I C) e3= .ok t→t≠4→DC Es (Ep I C,C,Y) ⟨O,nm,cd,W⟩= .error (9,(W:Int)) from fun t h h4=>by rw[IM ay];show Ed 4 _ _ _ _ (Bc (Ep I C) e3) _=_;rw[h,Aa ca W e3 ay];exact if_neg h4);have ee:=Ab (show Bc (Ep I C) e3= .ok 4→DC Es (Ep I C,C,Y) ⟨O,nm,cd,W⟩= .ok (Ep I C,C,Y ++CL (Ep I C) e3) from fun h=>by rw[IM ay];show Ed 4 _ _ _ _ (Bc (Ep I C) e3) _=_;rw[h];exact XL);have fl:(0 :Int)≤(W:Int):=by omega
     have fm:W≤4000:=by have:=Aa aO;have:=EI (k:=(W:Int)) rfl ay;omega
     clear ay cZ;go_wp2_with fail
     refine (Aa eb _ (by rw[Aa X];exact E.low) E.M E.sizeX).mono ?_;rintro r fn (⟨ef,eg,aX,rfl,bU,c6,b3⟩ | ⟨⟨aY,bf⟩,eg,aX,rfl,eh,bV,b3⟩)
     ·have aZ:=E.tree bU c6 b3;obtain ⟨fo,fp,rfl,_⟩:=Ad bU;have bW:=Ab aX;clear bU c6 aX;obtain ⟨ei,bX⟩:∃ l,l=Y ++ef:=⟨_,rfl⟩
      rw[← bX] at aZ ⊢;have c7:=Ab bX;clear bX;obtain ⟨fq,fr⟩:=Ba aZ.F;have fs:=fun j=>aZ.F.frozen j;have ft:=fun j=>(aZ.F.set 0 (.int .i64 0)).frozen j;have T:=aZ.fault 0 0;obtain ⟨fu,fv⟩:=Ba T.F;obtain ⟨u30,u31,u32,u33,fw⟩:=Bv T.S;dsimp only;obtain ⟨a0,aC,bY⟩:=WC (Aa bW);obtain ⟨fx,rfl,fy,fz⟩:=T.M.readX (i:=W) (t:=a0) (by rw[Aa c7,bY];exact WB cY aC);have ej:=Ab bY;have c8:=Ab aC;clear bY aC;by_cases aD:a0=4
      ·have ek:=Ab (Aa ee (by rw[← aD];exact Aa c8));have bT:(I).length=(C).length:=Aa bR;have el:(a0 != 4)=false:=by rw[aD];rfl
       clear aD;go_wp2_with fail
       go_roundw
       case rel=>exact ⟨k+1,I,C,ei,aI,aJ,_,_,Aa a5,by go_num,Ab ⟨Aa bt _ (by rw[Eg,Aa af,Aa c7,Aa ej];exact Aa ek),bT⟩,T.M,T.F,T.R,T.low,T.sizeX⟩
       case measure=>have:=Aa a5;simp[intOf];omega
      ·have aC:=Aa c8;have el:(a0 != 4)=true:=zS.2 aD;have av:=Ab (Aa ar (9,(W:Int)) (by rw[Eg,Aa af];exact Aa ed a0 aC aD));clear aD aC;have J:=T.below BRN.drew;obtain ⟨aQ,aR⟩:=Ba J.R;have aS:=fun j=>J.R.frozen j;obtain ⟨bA,bB,bC,bD,bE⟩:=Bv J.S;obtain ⟨bF,bG⟩:=Ba T.R;have bH:=fun j=>T.R.frozen j;go_wp2_with fail
       go_region
       all_goals
        go_wp2_with fail
        exact XN (f:=(9,W)) T.R (by rw[Aa X]) T.low (Aa av) (by simp) (.inr rfl) fun V g0 g1=>by simp[results,Tryz.results30,go_sem,g0,g1]
     ·have bZ:=E.F.below b3 E.ord.2.2.1;have bg:=E.R.below b3 (by have:=E.ord;omega);have em:=E.low.trans (b3.mono (by have:=E.ord;omega));have fA:(aY != 0)=true:=zS.2 bV;have en:=Ab bV;have bW:=Ab aX;clear bV aX;have bM:g≠P:=by have:=E.ord;omega
      obtain ⟨cP,cQ⟩:=Ba bZ;have cS:=fun j=>bZ.frozen j;have bN:=(em.setCell (p:=⟨P,0,none⟩) (by have:=E.ord;show g≤P;omega) (.int .i64 aY)).setCell (p:=⟨P,1,none⟩) (by have:=E.ord;show g≤P;omega) (.int .i64 bf);obtain ⟨bO,ad,bP,aW⟩:=WD bZ bg bM (.int .i64 aY) (.int .i64 bf);obtain ⟨d0,d1⟩:=Ba bO;obtain ⟨d2,d3⟩:=Ba ad;have d4:=fun j=>ad.frozen j;obtain ⟨d5,d6⟩:=Ba bP;obtain ⟨aQ,aR⟩:=Ba aW;have aS:=fun j=>aW.frozen j;dsimp only;rcases eh with rfl | ⟨_,_,_,rfl⟩
      all_goals
       go_wp2_with fail
       go_region
      all_goals
       go_wp2_with fail
       exact XN (f:=(aY,bf)) ad (by rw[Aa X]) bN (Aa ar (aY,bf) (by rw[Eg,Aa af];exact Aa ec _ (Ta (Aa bW)))) (Aa en) (by first | exact .inr rfl | exact .inl rfl) fun V g0 g1=>by simp[results,Tryz.results30,go_sem,g0,g1]
  ·have e:k=m:=by omega
   subst e;have eo:=Ab (show DE Es (Dj, [], []) L= .ok (Ep ns ts,ts,o) by rw[← (Aa ao).1,← Aa cb,z3]);obtain ⟨cP,cQ⟩:=Ba aF;have cS:=fun j=>aF.frozen j;have bg:=aF.set 0 (.int .i64 0);have fB:=fun j=>bg.frozen j;have ad:=bg.set 1 (.int .i64 0);have ep:((wr.setCell ⟨g,0,none⟩ (.int .i64 0)).setCell ⟨g,1,none⟩ (.int .i64 0)).cell? ⟨g,0,none⟩=some (.int .i64 0):=ad.cell 0;have eq:((wr.setCell ⟨g,0,none⟩ (.int .i64 0)).setCell ⟨g,1,none⟩ (.int .i64 0)).cell? ⟨g,1,none⟩=some (.int .i64 0):=ad.cell 1;go_wp2_with fail
   refine bodyPost_ret (v:= .tuple #[.slice bp o.length bq,.pointer (some ⟨y,0,none⟩),.agg #[.int .i64 0,.int .i64 0]]) (by simp[results,Tryz.results30,go_sem,ep,eq]) rfl (.inl ⟨B,y,ns,ts,o,ag,lv,_,Aa eo,(Aa ao).2,rfl, ?_, ?_, ?_⟩)
   ·exact (a4.set ⟨g,0,none⟩ _ (by show g < B;omega) (by show g≠y;omega)).set ⟨g,1,none⟩ _ (by show g < B;omega) (by show g≠y;omega)
   ·rw[Aa X];exact (Aa du).1
   ·rw[Aa X];exact (ap.setCell (p:=⟨g,0,none⟩) (Nat.le_refl g) _).setCell (p:=⟨g,1,none⟩) (Nat.le_refl g) _
end Go.Proofs.YtchakjeegneeoaaGreatDoor
