/-
  EDH, EDL. Own work.
-/
import Derived.Test.YtchakjeegneeoaaGreatDoorMXBH
import Derived.Test.YtchakjeegneeoaaGreatDoorMXBK
namespace Go.Proofs.YtchakjeegneeoaaGreatDoor
open Go.RowKit
set_option linter.unusedVariables false
def Pk (D:List Dc) (x:Nd):Nd:=if x.op=5 then (match De D x.text with
 |some d=>⟨if d.isLet then 7 else 6,d.num,⟨#[]⟩, [], []⟩
 |none=>⟨6,0,⟨#[]⟩, [], []⟩) else x
def ndX (N:List Nd) (D:List Dc) (j:Nat):Option Nd:=(N[j]?).map (Pk D)
def Pl (D:List Dc):List Ex→Nat→List Nd
 | [],_=> []
 |e ::r,b=>BH (Ia D e) b ++Pl D r (b+e.cnt)
def L4:Nat→List Ex→List Nat
 |_, []=> []
 |b,e ::r=>(b+e.cnt - 1) ::L4 (b+e.cnt) r
theorem PW {s:ByteArray}(h:s.size=0):s=⟨#[]⟩:=by
 cases s with
 |mk d=>
  have:d.size=0:=h;rw[Array.eq_empty_of_size_eq_zero this]
theorem If {l:List ByteArray}(h:l.length=0):l= []:=zy h
theorem Zz {N:List Nd}(D:List Dc){t:Nat}{e:Ex}{x:Nd}(he:Ds N t e)(hx:N[t]? =some x)(hf:As x=true)(b:Nat)(hk:x.kids=(L4 b e.kids).map (fun (q:Nat)=>(q:Int))):BH (Ia D e) b=Pl D e.kids b ++ [Pk D x]:=by
 have same:∀ {y:Nd},N[t]? =some y→y=x:=fun k=>Option.some.inj (k.symm.trans hx);rw[As,zI,zG] at hf;obtain ⟨_,hf⟩:=hf;cases he with
 |@int _ y h f g=>
  obtain rfl:=same h;rw[if_pos f] at hf;simp only[zI,zG] at hf;obtain ⟨op,num,text,names,kids⟩:=y;dsimp only at *;subst f g;rw[PW hf.1.2,If hf.2];rfl
 |@text _ y h f g=>
  obtain rfl:=same h;rw[if_neg (by omega),if_pos f] at hf;simp only[zI,zG] at hf;obtain ⟨op,num,text,names,kids⟩:=y;dsimp only at *;subst f g;rw[hf.1.2,If hf.2];rfl
 |@bool _ y h f g=>
  obtain rfl:=same h;rw[if_neg (by omega),if_neg (by omega),if_pos f] at hf;simp only[zI,zG] at hf;obtain ⟨op,num,text,names,kids⟩:=y;dsimp only at *;subst f g;rw[PW hf.1.2,If hf.2];rcases hf.1.1 with rfl | rfl <;> rfl
 |@set _ y h f g a n c=>
  obtain rfl:=same h;rw[if_neg (by omega),if_neg (by omega),if_neg (by omega),if_pos f] at hf;simp only[zI,zG] at hf;obtain ⟨op,num,text,names,kids⟩:=y;dsimp only at *;subst f g;rw[hf.1.2,PW hf.2];rfl
 |@name _ y h f g=>
  obtain rfl:=same h;simp only[Ia,rsN,Pk,if_pos f,Ex.kids,Pl,List.nil_append];cases De D y.text with
  |none=>rfl
  |some d=>
   dsimp only;cases d.isLet <;> rfl
 |@attr _ y h f g=>
  obtain rfl:=same h;rw[if_neg (by omega),if_neg (by omega),if_neg (by omega),if_neg (by omega),if_neg (by omega),if_pos (by omega)] at hf;cases hf
 |@lett _ y h f g=>
  obtain rfl:=same h;rw[if_neg (by omega),if_neg (by omega),if_neg (by omega),if_neg (by omega),if_neg (by omega),if_pos (by omega)] at hf;cases hf
 |@un _ k y e1 h f g hi u=>
  obtain rfl:=same h;rw[if_neg (by omega),if_neg (by omega),if_neg (by omega),if_neg (by omega),if_neg (by omega),if_neg (by omega)] at hf;simp only[zI,zG] at hf;simp only[Ia,BH,Ex.kids,Pl,L4,zr,Fw] at hk ⊢;rw[Pk,if_neg (by omega)];obtain ⟨op,num,text,names,kids⟩:=y;dsimp only at *;rw[hf.1.1,PW hf.1.2,If hf.2,hk];rfl
 |@bin _ k l y e1 e2 h f g hi u v=>
  obtain rfl:=same h;rw[if_neg (by omega),if_neg (by omega),if_neg (by omega),if_neg (by omega),if_neg (by omega),if_neg (by omega)] at hf;simp only[zI,zG] at hf;simp only[Ia,BH,Ex.kids,Pl,L4,zr,Fw] at hk ⊢;rw[Pk,if_neg (by omega)];obtain ⟨op,num,text,names,kids⟩:=y;dsimp only at *;rw[hf.1.1,PW hf.1.2,If hf.2,hk];rfl
 |@ite _ k l m y e1 e2 e3 h f g hi u v w=>
  obtain rfl:=same h;rw[if_neg (by omega),if_neg (by omega),if_neg (by omega),if_neg (by omega),if_neg (by omega),if_neg (by omega)] at hf;simp only[zI,zG] at hf;simp only[Ia,BH,Ex.kids,Pl,L4,zr,Fw,zC] at hk ⊢;rw[Pk,if_neg (by omega)];obtain ⟨op,num,text,names,kids⟩:=y;dsimp only at *;subst f;rw[hf.1.1,PW hf.1.2,If hf.2,hk];rfl
theorem XP {N:List Nd}(j:∀ x∈N,As x=true)(D:List Dc){a b:Nat}{d:List (Nat × Nat)}(h:Ax (N.map Nd.kids) a d b):∀ (c:List Ex),WA N (d.map (fun p=>p.1)) c→Pl D c a=(List.range' a (b - a)).filterMap (ndX N D)∧d.map (fun p=>p.1)=L4 a c∧a+(c.map Ex.cnt).sum=b:=by
 induction h with
 |nil a=>
  intro c f
  match c,f with
  | [],_=>simp[Pl,L4]
 |@cons a t b ks d hk ht hf k l=>
  intro c f
  match c,f with
  |e ::c,⟨he,hr⟩=>
   obtain ⟨x,hx,g⟩:∃ x,N[t]? =some x∧x.kids=Aq ks:=by
    rw[zh] at ht;cases hx:N[t]? with
    |none=>rw[hx] at ht;cases ht
    |some x=>rw[hx] at ht;exact ⟨x,rfl,Option.some.inj ht⟩
   obtain ⟨m,hq,n⟩:=he.kidsX hx;have e1:ks.map (fun p=>p.1)=m:=by
    have:=g.symm.trans hq;rw[Aq] at this;have h2:=congrArg (List.map Int.toNat) this;simpa[List.map_map,Function.comp_def] using h2
   obtain ⟨o,q,y⟩:=k e.kids (by rw[e1];exact n);have z:=hk.le;have A:=hf.le;have B:e.cnt=(e.kids.map Ex.cnt).sum+1:=by
    cases e <;> simp[Ex.cnt,Ex.kids] <;> omega
   have i:a+e.cnt=t+1:=by omega
   obtain ⟨r,s,C⟩:=l c hr;have u:List.range' a (b - a)=List.range' a (t - a) ++t ::List.range' (t+1) (b - (t+1)):=by
    have e2:b - a=(t - a)+(1+(b - (t+1))):=by omega
    rw[e2,← yE,← yE];have e3:a+(t - a)=t:=by omega
    rw[e3];rfl
   have v:=Zz D he hx (j _ (z5 hx)) a (by rw[g,Aq,← q,List.map_map];rfl);have w:ndX N D t=some (Pk D x):=by rw[ndX,hx];rfl
   refine ⟨?_, ?_, ?_⟩
   ·rw[Pl,v,o,i,r,u,List.filterMap_append,List.filterMap_cons,w];simp
   ·rw[List.map_cons,L4,i,s];simp
   ·rw[List.map_cons,List.sum_cons];omega
def Aee (N:List Nd) (c:Nat) (e:Ex):Prop:=∀ D,BH (Ia D e) c=(List.range' c e.cnt).filterMap (ndX N D)
def MN (N:List Nd) (Es:List Ex) (c:Nat) (k:Int):Prop:=k= -1∨∃ (mm:Nat) (e:Ex),k=mm∧Es[mm]? =some e∧c+e.cnt=mm+1∧Aee N c e
theorem NF {N:List Nd}(l:∀ x∈N,As x=true){Es:List Ex}(g:Es.length=N.length)(a:∀ j,(h:j < Es.length)→Ds N j Es[j]){S:List (Nat × Nat)}(m:Ax (N.map Nd.kids) 0 S N.length){b n:List Int}{x:Int}(h:Aq S=b ++x ::n):MN N Es ((b.map (Bh Es)).sum) x:=by
 rw[Aq] at h;obtain ⟨S1,s,rfl,h1,h2⟩:=List.map_eq_append_iff.1 h;obtain ⟨p,t,rfl,h3,h4⟩:=List.map_eq_cons_iff.1 h2;obtain ⟨c,o,d⟩:=m.split;have hc:=EO g a o (by have:=d.le;omega);have hp:=(d.lt p (zT ..)).2;have e1:c=(b.map (Bh Es)).sum:=by rw[← h1];rw[Aq] at hc;omega
 have f:p.1 < Es.length:=by omega
 have i:Ax (N.map Nd.kids) c [p] (p.1+1):=by
  cases d with
  |cons hk ht hf=>exact .cons hk ht (.nil _)
 have q:=EO g a i (by omega);have u:Bh Es (p.1:Nat)=Es[p.1].cnt:=EI rfl (zH f);have r:c+Es[p.1].cnt=p.1+1:=by
  simp only[Aq,List.map_cons,z8,List.sum_cons,List.sum_nil] at q;omega
 rw[← e1];refine .inr ⟨p.1,Es[p.1],h3.symm,zH f,r,fun ts=>?_⟩;have k:=(XP l ts i [Es[p.1]] ⟨a p.1 f,trivial⟩).1;rw[show p.1+1 - c=Es[p.1].cnt by omega] at k;rw[← k];simp[Pl]
def ZA (N:List Nd) (Es:List Ex) (L:List St):Prop:=∀ k,(h:k < L.length)→MN N Es (Dt Es (L.take k)) L[k].cond∧MN N Es (Dt Es (L.take k)+Bh Es L[k].cond) L[k].grant
theorem XQ {N:List Nd}{L:List St}(h:Bo N L=true){Es:List Ex}(b:Es.length=N.length)(c:∀ j,(h:j < Es.length)→Ds N j Es[j]):ZA N Es L:=fun k hk=>by
 obtain ⟨S,d,ht⟩:=GR h;have W:=Fv h;have i:L=L.take k ++L[k] ::L.drop (k+1):=by rw[List.getElem_cons_drop,z1]
 have e1:Dt Es (L.take k)=(((L.take k).flatMap Ak).map (Bh Es)).sum:=EL Es _ (fun s hs=>Jx W Es s (List.mem_of_mem_take hs));have e2:Aq S=(L.take k).flatMap Ak ++(Ak L[k] ++(L.drop (k+1)).flatMap Ak):=by
  rw[ht]
  conv=>lhs;rw[i]
  rw[List.flatMap_append,zn]
 have hs:=zO hk;generalize L[k]=s at e2 hs ⊢;have f:s.cond= -1∨s.kind≠3:=by
  rcases W.stm s hs with q | q | q
  ·right;omega
  ·right;omega
  ·exact .inl q.2
 rw[e1];refine ⟨?_, ?_⟩
 ·rcases f with q | q
  ·exact .inl q
  ·rw[Ak,if_pos q] at e2;exact NF W.fields b c d e2
 ·by_cases g:s.grant= -1
  ·exact .inl g
  ·have q2:Ak s=(if s.kind≠3 then [s.cond] else []) ++ [s.grant]:=by rw[Ak,if_pos g]
   have e3:Aq S=((L.take k).flatMap Ak ++(if s.kind≠3 then [s.cond] else [])) ++s.grant ::(L.drop (k+1)).flatMap Ak:=by
    rw[e2,q2];simp
   have r:=NF W.fields b c d e3;have e4:(((L.take k).flatMap Ak ++(if s.kind≠3 then [s.cond] else [])).map (Bh Es)).sum=(((L.take k).flatMap Ak).map (Bh Es)).sum+Bh Es s.cond:=by
    rw[zU,List.sum_append]
    congr 1
    by_cases a:s.kind=3
    ·rw[if_neg (fun k=>k a)];rcases f with q | q
     ·rw[q];rfl
     ·exact absurd a q
    ·rw[if_pos a];simp
   rw[e4] at r;exact r
theorem Tf (Es:List Ex)(s:St):∀ (L:List St) (i:Nat),Id Es i (L ++ [s])=Id Es i L ++ [⟨((i+L.length:Nat):Int),s.kind,s.name,Cn Es s.cond,Cn Es s.grant⟩]
 | [],i=>by simp[Id]
 |x ::L,i=>by
  have e:i+1+L.length=i+(L.length+1):=by omega
  rw[List.cons_append,Id,Id,Tf Es s L (i+1),List.cons_append,List.length_cons,e]
theorem ZB {N:List Nd}{Es:List Ex}{c:Nat}{k:Int}(D:List Dc)(h:MN N Es c k):Gv (Pi D (Cn Es k)) c=(List.range' c (Bh Es k)).filterMap (ndX N D)∧Gp (Pi D (Cn Es k)) c=k:=by
 rcases h with rfl | ⟨a,e,rfl,he,h1,h2⟩
 ·exact ⟨by simp[Cn,Pi,Gv,Bh],rfl⟩
 ·have b:Cn Es (a:Int)=some e:=by rw[Cn,if_neg (by omega),zj,he]
  rw[b,EI rfl he];refine ⟨h2 D, ?_⟩;show (((c+(Ia D e).cnt - 1 :Nat)):Int)=a;rw[Fw];omega
theorem Tg {N:List Nd}{Es:List Ex}{L:List St}(hs:ZA N Es L)(D:List Dc):∀ k,k≤L.length→AK 0 ((Id Es 0 (L.take k)).map (Sm D))=(List.range' 0 (Dt Es (L.take k))).filterMap (ndX N D)∧Cu 0 ((Id Es 0 (L.take k)).map (Sm D))=L.take k
 | 0,_=>by simp[Id,AK,Cu,Dt]
 |k+1,h=>by
  obtain ⟨b,c⟩:=Tg hs D k (by omega);have hk:k < L.length:=by omega
  obtain ⟨d,f⟩:=hs k hk;obtain ⟨a1,a2⟩:=ZB D d;obtain ⟨b1,b2⟩:=ZB D f;have ec:∀ (a:List St) (s:St),Dt Es (a ++ [s])=Dt Es a+(Bh Es s.cond+Bh Es s.grant):=fun a s=>by simp[Dt]
  have g:CI ((Id Es 0 (L.take k)).map (Sm D))=Dt Es (L.take k):=by rw[QW,JT]
  rw[zf hk,Tf,zU,List.map_cons,z8,k9,IP,g,b,c,ec];simp only[zX];have i:∀ m n p:Nat,List.range' 0 (m+(n+p))=List.range' 0 m ++List.range' m n ++List.range' (m+n) p:=fun m n p=>by
   rw[← Nat.add_assoc,← yE,← yE];simp
  generalize L[k]=s at *;refine ⟨?_, ?_⟩
  ·rw[i,List.filterMap_append,List.filterMap_append];show _ ++Gv (Pi D (Cn Es s.cond)) _ ++Gv (Pi D (Cn Es s.grant)) (_+AH (Pi D (Cn Es s.cond)))=_;rw[a1,QV,MI,b1]
  ·show _ ++ [(⟨s.kind,s.name,Gp (Pi D (Cn Es s.cond)) _,Gp (Pi D (Cn Es s.grant)) (_+AH (Pi D (Cn Es s.cond)))⟩:St)]=_;rw[a2,QV,MI,b2]
theorem PX (D:List Dc):∀ (N M:List Nd) (k:Nat),M.drop k=N→(List.range' k N.length).filterMap (ndX M D)=N.map (Pk D)
 | [],M,k,h=>by simp
 |x ::N,M,k,h=>by
  have h1:M[k]? =some x:=by
   have:=congrArg (fun l=>l[0]?) h;simpa[List.getElem?_drop] using this
  have h2:M.drop (k+1)=N:=by
   have:=congrArg List.tail h;simpa[List.tail_drop] using this
  have e:ndX M D k=some (Pk D x):=by rw[ndX,h1];rfl
  rw[List.length_cons,List.range'_succ,List.filterMap_cons,e,List.map_cons];dsimp only;rw[PX D N M (k+1) h2]
theorem ZC (N:List Nd)(D:List Dc):(List.range' 0 N.length).filterMap (ndX N D)=N.map (Pk D):=PX D N N 0 rfl
theorem AbM {N:List Nd}{L:List St}(h:Bo N L=true){Es:List Ex}(a:Es.length=N.length)(b:∀ j,(h:j < Es.length)→Ds N j Es[j])(D:List Dc):AK 0 ((Id Es 0 L).map (Sm D))=N.map (Pk D)∧Cu 0 ((Id Es 0 L).map (Sm D))=L:=by
 have:=Tg (XQ h a b) D L.length NLN;rw[z3,Gt h a b,ZC] at this;exact this
def Jy (N:List Nd) (L:List St) (r:UP):Prop:=
 (Bo N L=false∧r= .error (10,0))∨(Bo N L=true∧∃ Es:List Ex,Es.length=N.length∧(∀ j,(h:j < Es.length)→Ds N j Es[j])∧r=match DE Es (Dj, [], []) L with
  | .error f=> .error f
  | .ok st=> .ok (N.map (Pk st.1),L,st.2.2))
theorem AbB.cn {N:List Nd}{L:List St}{r:UP}(h:AbB N L r):Jy N L r:=by
 rcases h with h | ⟨a,Es,h1,h2,rfl⟩
 ·exact .inl h
 ·refine .inr ⟨a,Es,h1,h2, ?_⟩;rw[ckP,ML];cases DE Es (Dj, [], []) L with
  |error f=>rfl
  |ok st=>
   obtain ⟨e1,e2⟩:=AbM a h1 h2 st.1;dsimp only;rw[e1,e2]
theorem ZD {N:List Nd}{Es a:List Ex}(h1:Es.length=N.length)(h2:a.length=N.length)(i:∀ j,(h:j < Es.length)→Ds N j Es[j])(l:∀ j,(h:j < a.length)→Ds N j a[j]):∀ (L:List St) (st:Cs),DE Es st L=DE a st L:=by
 have m:∀ (k:Int),(Cn Es k=none∧Cn a k=none)∨∃ e f,Cn Es k=some e∧Cn a k=some f∧e.pos=f.pos∧∀ D,Bc D e=Bc D f∧CL D e=CL D f:=fun k=>by
  unfold Cn;by_cases hk:k= -1
  ·rw[if_pos hk,if_pos hk];exact .inl ⟨rfl,rfl⟩
  ·rw[if_neg hk,if_neg hk];by_cases p:k.toNat < N.length
   ·have b:k.toNat < Es.length:=by omega
    have d:k.toNat < a.length:=by omega
    refine .inr ⟨_,_,zH b,zH d, ?_,fun D=>(i _ b).ty_oneX (l _ d) D⟩;rw[(i _ b).pos,(l _ d).pos]
   ·exact .inl ⟨yB (by omega),yB (by omega)⟩
 have n:∀ st s,Eg Es st s=Eg a st s:=fun st s=>by
  have c:FY Es st s=FY a st s:=by
   simp only[FY,E8];rcases m s.cond with ⟨e1,e2⟩ | ⟨e,f,e1,e2,e3,e4⟩
   ·rw[e1,e2]
   ·rw[e1,e2];dsimp only;rw[e3,(e4 st.1).1,(e4 st.1).2]
  have g:∀ st,DC Es st s=DC a st s:=fun st=>by
   simp only[DC,DA];rcases m s.grant with ⟨e1,e2⟩ | ⟨e,f,e1,e2,e3,e4⟩
   ·rw[e1,e2]
   ·rw[e1,e2];dsimp only;rw[e3,(e4 st.1).1,(e4 st.1).2]
  rw[Eg,Eg,c]
  congr 1
  funext s1
  exact g s1
 intro L
 induction L with
 |nil=>intro st;rfl
 |cons s L o=>
  intro st;rw[DE,DE,n]
  congr 1
  funext s1
  exact o s1
theorem Jy.one {N:List Nd}{L:List St}{r q:UP}(h:Jy N L r)(k:Jy N L q):r=q:=by
 rcases h with ⟨h1,rfl⟩ | ⟨h1,Es,h2,h3,rfl⟩
 ·rcases k with ⟨_,rfl⟩ | ⟨a,_⟩
  ·rfl
  ·rw[h1] at a;cases a
 ·rcases k with ⟨a,_⟩ | ⟨_,d,b,c,rfl⟩
  ·rw[h1] at a;cases a
  ·rw[ZD h2 b h3 c]
theorem Th:∀ {os:List Rc} {f:Nat} {K:List Int},Du f os= .ok K→∀ o∈os,∃ t,o= .ok t
 | .error c ::_,f,K,h,o,ho=>by cases h
 | .ok t ::r,f,K,h,o,ho=>by
  obtain ⟨a,h1,_⟩:=Lb h;rcases zE.1 ho with e | e
  ·exact ⟨t,e⟩
  ·exact Th h1 o e
theorem WE {Es:List Ex}{c:Nat}{e:Ex}{D:List Dc}{t:Int}(h:Zx Es c e)(ht:Bc D e= .ok t){j:Nat}(h1:c≤j)(h2:j < c+e.cnt):∃ t,FF Es D j= .ok t:=by
 have hs:=h D;rw[FG,ht] at hs;exact Th hs _ (zQ.2 ⟨j,by rw[List.mem_range'_1];exact ⟨h1,h2⟩,rfl⟩)
theorem ZH {Es:List Ex}{st b:Cs}{s:St}(h:FY Es st s= .ok b):st.1 <+:b.1∧∀ (a:Nat) (e:Ex),s.cond=a→Es[a]? =some e→∃ t,Bc st.1 e= .ok t:=by
 obtain ⟨d,nm,cd,f⟩:=s;refine ⟨?_,fun a e hc he=>?_⟩
 ·simp only[FY,E8] at h;cases c:Cn Es cd with
  |none=>rw[c] at h;cases h;exact List.prefix_refl _
  |some e=>
   rw[c] at h;simp only[DH] at h;split at h
   ·obtain ⟨t,_,_,rfl⟩:=QM h;exact List.prefix_append _ _
   ·obtain ⟨_,rfl⟩:=Gs h;exact List.prefix_refl _
 ·dsimp only at hc;subst hc;rw[Tb he] at h;unfold DH at h;split at h
  ·obtain ⟨t,h1,_,_⟩:=QM h;exact ⟨t,h1⟩
  ·exact ⟨_,(Gs h).1⟩
theorem XS {Es:List Ex}{st b:Cs}{s:St}(h:DC Es st s= .ok b):b.1=st.1∧∀ (a:Nat) (e:Ex),s.grant=a→Es[a]? =some e→∃ t,Bc st.1 e= .ok t:=by
 obtain ⟨f,nm,cd,d⟩:=s;refine ⟨?_,fun a e hc he=>?_⟩
 ·simp only[DC,DA] at h;cases c:Cn Es d with
  |none=>rw[c] at h;cases h;rfl
  |some e=>
   rw[c] at h;obtain ⟨_,rfl⟩:=Gs h;rfl
 ·dsimp only at hc;subst hc;rw[IM he] at h;exact ⟨_,(Gs h).1⟩
theorem L7 {Es:List Ex}{L:List St}(hs:Vj Es L):∀ k,k≤L.length→∀ {st:Cs},DE Es (Dj, [], []) (L.take k)= .ok st→∀ j,j < Dt Es (L.take k)→∃ D t,D <+:st.1∧FF Es D j= .ok t
 | 0,_,st,h,j,hj=>by simp[Dt] at hj
 |k+1,hk,st,h,j,hj=>by
  have o:k < L.length:=by omega
  obtain ⟨b,r⟩:=hs k o;have ec:∀ (c:List St) (s:St),Dt Es (c ++ [s])=Dt Es c+(Bh Es s.cond+Bh Es s.grant):=fun c s=>by simp[Dt]
  rw[zf o] at h hj;rw[Lc] at h;rw[ec] at hj;cases h0:DE Es (Dj, [], []) (L.take k) with
  |error f=>rw[h0] at h;cases h
  |ok d=>
   rw[h0] at h
   change (FY Es d L[k]).bind (fun b=>DC Es b L[k])= .ok st at h
   cases h1:FY Es d L[k] with
   |error f=>rw[h1] at h;cases h
   |ok p=>
    rw[h1] at h
    change DC Es p L[k]= .ok st at h
    obtain ⟨q,c1⟩:=ZH h1;obtain ⟨g,c2⟩:=XS h;by_cases u:j < Dt Es (L.take k)
    ·obtain ⟨D,t,v,ht⟩:=L7 hs k (by omega) h0 j u;exact ⟨D,t,v.trans (by rw[g];exact q),ht⟩
    ·by_cases q2:j < Dt Es (L.take k)+Bh Es L[k].cond
     ·rcases b with a | ⟨i,e,a,he,hc,l⟩
      ·rw[a,show Bh Es (-1)=0 from rfl] at q2;omega
      ·obtain ⟨t,ht⟩:=c1 i e a he;rw[a,EI rfl he] at q2;obtain ⟨m,n⟩:=WE l ht (j:=j) (by omega) q2;exact ⟨d.1,m,by rw[g];exact q,n⟩
     ·rcases r with a | ⟨i,e,a,he,hc,l⟩
      ·rw[a,show Bh Es (-1)=0 from rfl] at hj;omega
      ·obtain ⟨t,ht⟩:=c2 i e a he;rw[a,EI rfl he] at hj;obtain ⟨m,n⟩:=WE l ht (j:=j) (by omega) (by omega);exact ⟨p.1,m,by rw[g];exact List.prefix_refl _,n⟩
theorem Vp {N:List Nd}{L:List St}(h:Bo N L=true){Es:List Ex}(b:Es.length=N.length)(a:∀ j,(h:j < Es.length)→Ds N j Es[j]){st:Cs}(hc:DE Es (Dj, [], []) L= .ok st){j:Nat}{x:Nd}(hx:N[j]? =some x)(i:x.op=5):(De st.1 x.text).isSome:=by
 have f:j < N.length:=(ze.1 hx).1;obtain ⟨D,t,⟨E,g⟩,ht⟩:=L7 (PU h b a) L.length NLN (by rw[z3];exact hc) j (by rw[z3,Gt h b a];exact f);have c:j < Es.length:=by omega
 rw[FF,zH c] at ht;have hi:=a j c;have e:Es[j]= .name j x.text:=by
  rcases hi.inv hx with ⟨o,r⟩ | ⟨o,r⟩ | ⟨o,r⟩ | ⟨o,r⟩ | ⟨o,r⟩ | ⟨o,r⟩ | ⟨o,r⟩ | ⟨o,r⟩ | ⟨o,r⟩ | ⟨o,r⟩ <;> first | omega | exact r
 rw[e] at ht
 change cR (Bc D (.name j x.text))= .ok t at ht
 rw[Bc] at ht;cases hf:De D x.text with
 |none=>rw[hf] at ht;cases ht
 |some d=>rw[← g,IL,hf];rfl
noncomputable def Pf (ns:List ByteArray) (x:Nd):Nd:=if x.op=5 then (if AE x.text BU 0 < 0 then ⟨7,AE x.text ns 0,⟨#[]⟩,x.names,x.kids⟩ else ⟨6,AE x.text BU 0,⟨#[]⟩,x.names,x.kids⟩) else x
theorem Ac9 {ns:List ByteArray}{ts:List Int}(b:ns.length=ts.length){x:Nd}(hf:As x=true)(hs:x.op=5→(De (Ep ns ts) x.text).isSome):Pf ns x=Pk (Ep ns ts) x:=by
 unfold Pf Pk;by_cases a:x.op=5
 ·rw[if_pos a,if_pos a];rw[As,zI,zG] at hf;obtain ⟨h1,hf⟩:=hf;rw[if_neg (by omega),if_neg (by omega),if_neg (by omega),if_neg (by omega),if_pos a] at hf;simp only[zI,zG] at hf;have c:=If hf.2;have hk:x.kids= []:=by
   rw[a] at h1;have:Dn 5=0:=by decide
   rw[this] at h1;exact zy (by omega)
  rw[c,hk];have hs:=hs a;rw[Ep,IL] at hs ⊢;rcases MJ x.text with ⟨e1,e2⟩ | ⟨j,_,e1,e2⟩
  ·rw[e1,if_pos (by decide),e2];rw[e2] at hs;rcases NA x.text ns ts 0 b with ⟨_,e3⟩ | ⟨j,t,e3,_,e4⟩
   ·rw[e3] at hs;cases hs
   ·have d:AE x.text ns 0=((0+j:Nat):Int):=e3;rw[d,e4];rfl
  ·rw[e1,if_neg (by omega),e2];rfl
 ·rw[if_neg a,if_neg a]
end Go.Proofs.YtchakjeegneeoaaGreatDoor
