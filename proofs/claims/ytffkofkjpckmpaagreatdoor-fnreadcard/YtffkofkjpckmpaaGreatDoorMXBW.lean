/-
  PPG, PPH. Own work.
-/
import Derived.Test.YtffkofkjpckmpaaGreatDoorMXBE
import Derived.Test.YtffkofkjpckmpaaGreatDoorMXAY
import Derived.Test.YtffkofkjpckmpaaGreatDoorMXBD
import Derived.Test.YtffkofkjpckmpaaGreatDoorMXBO
namespace Go.Proofs.YtffkofkjpckmpaaGreatDoor
open Go.RowKit
set_option linter.unusedVariables false
theorem Ach {N:List Nd}(g:∀ x∈N,Aw x=true)(k:∀ x∈N,x.num≤9223372036854775807){i:Nat}{e:Ex}(h:DK N i e):e.okW:=by
 have d:∀ {j:Nat} {x:Nd},N[j]? =some x→Aw x=true∧x.num≤9223372036854775807:=fun hx=>⟨g _ (Z7 hx),k _ (Z7 hx)⟩
 induction h with
 |int h b hk=>
  obtain ⟨f1,f2⟩:=d h;rw[Aw,zE,if_pos b] at f1;simp only[zE,zF] at f1;exact ⟨f1.2.1.1,f2⟩
 |text h b hk=>
  obtain ⟨f1,f2⟩:=d h;rw[Aw,zE,if_neg (by omega),if_pos b] at f1;simp only[zE,zF] at f1;exact f1.2.1.1
 |bool h b hk=>trivial
 |set h b hk a n c=>
  obtain ⟨f1,f2⟩:=d h;rw[Aw,zE,if_neg (by omega),if_neg (by omega),if_neg (by omega),if_pos b] at f1;simp only[zE,zF] at f1;exact f1.2.1.1
 |name h b hk=>
  obtain ⟨f1,f2⟩:=d h;rw[Aw,zE,if_neg (by omega),if_neg (by omega),if_neg (by omega),if_neg (by omega),if_pos b] at f1;simp only[zE,zF] at f1;exact f1.2.1.1
 |attr h b hk=>
  obtain ⟨f1,f2⟩:=d h;rw[Aw,zE,if_neg (by omega),if_neg (by omega),if_neg (by omega),if_neg (by omega),if_neg (by omega),if_pos (by omega)] at f1;cases f1.2
 |lett h b hk=>
  obtain ⟨f1,f2⟩:=d h;rw[Aw,zE,if_neg (by omega),if_neg (by omega),if_neg (by omega),if_neg (by omega),if_neg (by omega),if_pos (by omega)] at f1;cases f1.2
 |un h b hk hi t it=>exact ⟨b,it⟩
 |bin h b hk hi t u it f=>exact ⟨b,it,f⟩
 |ite h b hk hi t u v it f l=>exact ⟨it,f,l⟩
theorem AaX {a:List ByteArray}(h:EK a=true):Jp a=a:=by
 have b:=h;rw[EK,zE,zE] at b;exact (Qg (K:=a) ⟨b.2.2,fun x=>Iff.rfl⟩).symm
theorem Nb:∀ (e:Ex),e.okW→∀ T p,LW e T p→p.ex.cnt=e.cnt∧Cf p.ex=Cf e∧(∀ b,Bw p.ex b=Bw e b)∧(∀ q∈p.sets,(Jp q.2).length≤64)
 | .int _ n,_,T,p,h=>by obtain ⟨t,rfl,h1,h2,rfl⟩:=h;exact ⟨rfl,rfl,fun b=>rfl,fun q hq=>by cases hq⟩
 | .text _ s,_,T,p,h=>by obtain ⟨t,rfl,h1,h2,rfl⟩:=h;exact ⟨rfl,rfl,fun b=>rfl,fun q hq=>by cases hq⟩
 | .bool _ b,_,T,p,h=>by obtain ⟨t,rfl,h1,rfl⟩:=h;exact ⟨rfl,rfl,fun b=>rfl,fun q hq=>by cases hq⟩
 | .set _ _ _ _ ss,ho,T,p,h=>by
  obtain ⟨t,c,u,rfl,h1,h2,h3,rfl⟩:=h;have hs:=AaX ho;have E:EK ss=true:=ho;rw[EK,zE,zF] at E;refine ⟨rfl,rfl,fun b=>?_,fun q hq=>?_⟩
  ·show [TD (.set _ none 0 0 (Jp ss))]= [TD (.set _ _ _ _ ss)]
   rw[hs];rfl
  ·rw[Pt.sets,zJ] at hq;subst hq;rw[hs];exact E.1
 | .name _ s,_,T,p,h=>by obtain ⟨t,rfl,h1,h2,rfl⟩:=h;exact ⟨rfl,rfl,fun b=>rfl,fun q hq=>by cases hq⟩
 | .attr ..,_,T,p,h=>by cases h
 | .lett ..,_,T,p,h=>by cases h
 | .un i op k,ho,T,p,h=>by
  have F:=Nb k ho.2;have g:∀ {y:Int} {d:List Ae} {q:Pt},Z8 y k.op (LW k) d q→∃ a,LW k a q:=fun h=>by
   rcases h with ⟨_,h⟩ | ⟨_,t,d,u,_,_,_,h⟩
   ·exact ⟨_,h⟩
   ·exact ⟨_,h⟩
  obtain ⟨t,a,q,hq,rfl⟩:∃ (t:Ae) (a:List Ae) (q:Pt),LW k a q∧p= .un t.at_ op q:=by
   rcases h with ⟨rfl,t,d,q,rfl,h1,h2,rfl⟩ | ⟨rfl,t,d,q,rfl,h1,h2,rfl⟩ | ⟨rfl,t,u,v,d,q,rfl,h1,h2,h3,h4,rfl⟩
   ·obtain ⟨a,h3⟩:=g h2;exact ⟨t,a,q,h3,rfl⟩
   ·obtain ⟨a,h3⟩:=g h2;exact ⟨t,a,q,h3,rfl⟩
   ·exact ⟨t,d,q,h4,rfl⟩
  obtain ⟨f,j,m,o⟩:=F _ _ hq;exact ⟨by simp[Pt.ex,Ex.cnt,f],by simp[Pt.ex,Cf,j],fun b=>by simp[Pt.ex,Bw,f,m],o⟩
 | .bin i op l r,ho,T,p,h=>by
  have g:∀ {k:Ex} {y:Int} {d:List Ae} {q:Pt},Z8 y k.op (LW k) d q→∃ a,LW k a q:=fun h=>by
   rcases h with ⟨_,h⟩ | ⟨_,t,d,u,_,_,_,h⟩
   ·exact ⟨_,h⟩
   ·exact ⟨_,h⟩
  obtain ⟨t,H,I,J,K,rfl,h1,h2,h3,rfl⟩:=h;obtain ⟨N,x⟩:=g h2;obtain ⟨O,z⟩:=g h3;obtain ⟨f,j,m,o⟩:=Nb l ho.2.1 _ _ x;obtain ⟨w,A,B,C⟩:=Nb r ho.2.2 _ _ z;refine ⟨by simp[Pt.ex,Ex.cnt,f,w],by simp[Pt.ex,Cf,j,A],fun b=>by simp[Pt.ex,Bw,f,m,w,B],fun q hq=>?_⟩;rw[Pt.sets,zH] at hq;rcases hq with hq | hq
  ·exact o q hq
  ·exact C q hq
 | .ite i c t e,ho,T,p,h=>by
  obtain ⟨P,Q,R,H,I,S,J,K,U,rfl,a1,a2,a3,b1,b2,b3,rfl⟩:=h;obtain ⟨f,j,m,o⟩:=Nb c ho.1 _ _ b1;obtain ⟨w,A,B,C⟩:=Nb t ho.2.1 _ _ b2;obtain ⟨x,z,L,M⟩:=Nb e ho.2.2 _ _ b3;refine ⟨by simp[Pt.ex,Ex.cnt,f,w,x],by simp[Pt.ex,Cf,j,A,z],fun b=>by simp[Pt.ex,Bw,f,m,w,B,x,L],fun q hq=>?_⟩;rw[Pt.sets] at hq;simp only[zH] at hq;rcases hq with hq | hq | hq
  ·exact o q hq
  ·exact C q hq
  ·exact M q hq
def Sz (Es:List Ex) (s:St):Sw:=⟨s.kind,s.name,Du Es s.cond,Du Es s.grant⟩
theorem Nc {Es:List Ex}{N:List Nd}(hl:Es.length=N.length){k:Int}(h: 0≤k∧k < N.length):∃ e,Du Es k=some e∧e∈Es∧Es[k.toNat]? =some e:=by
 have hk:k.toNat < Es.length:=by omega
 exact ⟨Es[k.toNat],by rw[Du,if_neg (by omega),zM hk],zP hk,zM hk⟩
theorem QC {Es:List Ex}{k:Int}{e:Ex}(h:Du Es k=some e):XS Es k=e.pr:=by
 unfold Du at h;split at h
 ·cases h
 ·rw[XS,h]
theorem AaY {Es:List Ex}{N:List Nd}(hl:Es.length=N.length){k:Int}(h:k= -1∨(0≤k∧k < N.length)):SA Es k=grO (Du Es k):=by
 rcases h with rfl | h
 ·rfl
 ·obtain ⟨e,he,-,-⟩:=Nc hl h;rw[SA,if_neg (by omega),QC he,he];rfl
theorem AcT {N:List Nd}{L:List St}(c:By N L=true)(m:∀ x∈N,x.num≤9223372036854775807){Es:List Ex}(hl:Es.length=N.length)(n:∀ j,(h:j < Es.length)→DK N j Es[j]):∀ s∈L,(Sz Es s).okW∧(Sz Es s).pr=Lm Es s:=by
 have d:=Fk c;have o:BK L=true:=by
  simp only[By,zE] at c;exact c.1.1.2.2
 have ok:∀ e∈Es,e.okW:=fun e he=>by
  obtain ⟨j,p,rfl⟩:=yE he;exact Ach d.fields m (n j p)
 intro s hs;obtain ⟨g,i⟩:=d.roots s hs;have b:=Jf o s hs;have k:okG (Du Es s.grant):=by
  rcases i with e | h
  ·rw[e];trivial
  ·obtain ⟨e,he,hm,-⟩:=Nc hl h;rw[he];exact ok e hm
 have l:=AaY hl i;rcases d.stm s hs with ⟨a,r,f,q⟩ | ⟨a,f⟩ | ⟨a,f⟩
 ·obtain ⟨e,he,hm,-⟩:=Nc hl (g.resolve_left (by omega));rw[CT,if_pos a,zE] at b;refine ⟨.inl ⟨a,b.1,⟨e,he,ok e hm⟩,by show Du Es s.grant=none;rw[q];rfl⟩, ?_⟩;rw[Sw.pr,Lm];show (if s.kind=1 then _ else _) ++_=_;rw[if_pos a,if_pos a,QC he];show _ ++Xm (Du Es s.cond) ++_=_;rw[he];rfl
 ·obtain ⟨e,he,hm,-⟩:=Nc hl (g.resolve_left (by omega));rw[CT,if_neg (by omega),if_pos a,zF] at b;refine ⟨.inr (.inl ⟨a,LA b,⟨e,he,ok e hm⟩,k⟩), ?_⟩;rw[Sw.pr,Lm];show (if s.kind=1 then _ else if s.kind=2 then _ else _) ++_=_;rw[if_neg (by omega),if_pos a,if_neg (by omega),if_pos a,QC he,l];show _ ++Xm (Du Es s.cond) ++_ ++_ ++_=_;rw[he];rfl
 ·rw[CT,if_neg (by omega),if_neg (by omega),if_pos a,zE,zF] at b;refine ⟨.inr (.inr ⟨a,LA b.1,by show Du Es s.cond=none;rw[f];rfl,k⟩), ?_⟩;rw[Sw.pr,Lm];show (if s.kind=1 then _ else if s.kind=2 then _ else _) ++_=_;rw[if_neg (by omega),if_neg (by omega),if_neg (by omega),if_neg (by omega),l];rfl
theorem V4 (Es:List Ex):∀ (L:List St),1≤L.length→BK L=true→VZ (L.map (Sz Es))
 | [],h,_=>by simp at h
 | [s],_,h=>by
  simp only[BK,zE,List.isEmpty_nil,zI,zF] at h;exact h.1.2
 |s ::t ::L,_,h=>by
  simp only[BK,zE] at h;refine ⟨fun e=>?_,V4 Es (t ::L) (by simp) (by simp only[BK,zE];exact h.2)⟩;have h1:=h.1.2;have e':s.kind=3:=e;simp[e'] at h1
theorem Zu {Es:List Ex} :∀ (L:List St),(∀ s∈L,(Sz Es s).pr=Lm Es s)→Aj (Gu Es L)=prX (L.map (Sz Es))
 | [],_=>by simp[Gu,Dl,prX,Aj]
 |s ::L,h=>by
  have a:=Zu (Es:=Es) L (fun x hx=>h x (zS _ hx));rw[Gu] at a;rw[Gu,List.map_cons,Dl,Au,a,List.map_cons,prX,h s (zQ ..)]
theorem Zv {Es:List Ex} :∀ {L:List St} {i:Nat} {x:Sx},x∈Ss Es i L→∃ s∈L,x.cond=Du Es s.cond∧x.grant=Du Es s.grant
 |s ::L,i,x,h=>by
  rw[Ss,zG] at h;rcases h with rfl | h
  ·exact ⟨s,zQ ..,rfl,rfl⟩
  ·obtain ⟨s',h1,h2⟩:=Zv h;exact ⟨s',zS _ h1,h2⟩
structure Ady (x y:Sx):Prop where
 kind:x.kind=y.kind
 name:x.name=y.name
 c1:AN x.cond=AN y.cond
 c2:AN x.grant=AN y.grant
 f1:∀ b,Fb x.cond b=Fb y.cond b∧EW x.cond b=EW y.cond b
 f2:∀ b,Fb x.grant b=Fb y.grant b∧EW x.grant b=EW y.grant b
 d1:Gt x.cond=Gt y.cond
 d2:Gt x.grant=Gt y.grant
def Xr:List Sx→List Sx→Prop
 | [], []=>True
 |x ::X,y ::Y=>Ady x y∧Xr X Y
 |_,_=>False
theorem Xr.num:∀ {X a:List Sx},Xr X a→∀ b,A7 b X=A7 b a∧Ct b X=Ct b a
 | [], [],_,b=>⟨rfl,rfl⟩
 |x ::X,y ::a,h,b=>by
  obtain ⟨h1,h2⟩:=h;obtain ⟨c,d⟩:=Xr.num h2 (b+AN y.cond+AN y.grant);refine ⟨?_, ?_⟩
  ·rw[A7,A7,h1.c1,h1.c2,c,(h1.f1 b).1,(h1.f2 _).1]
  ·rw[Ct,Ct,h1.c1,h1.c2,d,h1.kind,h1.name,(h1.f1 b).2,(h1.f2 _).2]
theorem V5 {a:Option Ex}(d:okG a){p:Option Pt}(h:AaU a p):AN (p.map Pt.ex)=AN a∧(∀ b,Fb (p.map Pt.ex) b=Fb a b∧EW (p.map Pt.ex) b=EW a b)∧Gt (p.map Pt.ex)=Gt a∧∀ q∈N6 p,(Jp q.2).length≤64:=by
 match a,p,h with
 |none,none,_=>exact ⟨rfl,fun b=>⟨rfl,rfl⟩,rfl,fun q hq=>by cases hq⟩
 |some e,some p,⟨T,h⟩=>
  obtain ⟨c,f,g,i⟩:=Nb e d T p h;exact ⟨c,fun b=>⟨g b,by show ((b+p.ex.cnt - 1 :Nat):Int)=_;rw[c];rfl⟩,f,i⟩
theorem Sw.okG {x:Sw}(h:x.okW):okG x.cond∧okG x.grant:=by
 rcases h with ⟨h1,h2,⟨e,h3,h4⟩,h5⟩ | ⟨h1,h2,⟨e,h3,h4⟩,h5⟩ | ⟨h1,h2,h3,h5⟩
 ·rw[h3,h5];exact ⟨h4,trivial⟩
 ·rw[h3];exact ⟨h4,h5⟩
 ·rw[h3];exact ⟨trivial,h5⟩
theorem V6 (Es:List Ex):∀ (L:List St) (i:Nat) (S:List Ps),(∀ s∈L,(Sz Es s).okW)→AaV (L.map (Sz Es)) S→Xr (S.map Ps.sx) (Ss Es i L)∧∀ q∈S.flatMap Ps.sets,(Jp q.2).length≤64
 | [],_, [],_,_=>⟨trivial,fun q hq=>by cases hq⟩
 |s ::L,i,p ::S,ho,h=>by
  obtain ⟨h1,h2⟩:=h;obtain ⟨a1,a2,a3,a4⟩:=h1;obtain ⟨a,b⟩:=V6 Es L (i+1) S (fun x hx=>ho x (zS _ hx)) h2;obtain ⟨c,d⟩:=Sw.okG (ho s (zQ ..));obtain ⟨b1,b2,b3,b4⟩:=V5 c a3;obtain ⟨c1,c2,c3,c4⟩:=V5 d a4;refine ⟨⟨⟨a1,a2,b1,c1,b2,c2,b3,c3⟩,a⟩,fun q hq=>?_⟩;rw[zi,zH,Ps.sets,zH] at hq;rcases hq with (hq | hq) | hq
  ·exact b4 q hq
  ·exact c4 q hq
  ·exact b q hq
theorem FN (K:List (List Int))(m:Nat)(top:Int):Bm K (m+1) top=((K.getD top.toNat []).foldl (fun d k=>max d (Bm K m k)) 0)+1:=rfl
theorem Zw {N:List Nd}{i:Nat}{e:Ex}(h:DK N i e):∀ n,i < n→((Bm (N.map Nd.kids) n (i:Int):Nat):Int)=Cf e:=by
 have K:∀ {i:Nat} {x:Nd} {ks:List Int},N[i]? =some x→x.kids=ks→(N.map Nd.kids).getD ((i:Int)).toNat []=ks:=fun hx hk=>by
  rw[yI,z0,zd,hx];exact hk
 have d:∀ a b:Nat,((max a b:Nat):Int)=mx (a:Int) (b:Int):=fun a b=>by unfold mx;split <;> omega
 induction h with
 |int h c hk | text h c hk | bool h c hk | set h c hk | name h c hk | attr h c hk | lett h c hk=>
  intro n f;obtain ⟨m,rfl⟩:∃ m,n=m+1:=⟨n - 1,by omega⟩
  rw[FN,K h hk];rfl
 |un h c hk hi t it=>
  intro n f;obtain ⟨m,rfl⟩:∃ m,n=m+1:=⟨n - 1,by omega⟩
  rw[FN,K h hk,List.foldl_cons,zy,zU,d,it m (by omega)];rfl
 |bin h c hk hi t u it g=>
  intro n f;obtain ⟨m,rfl⟩:∃ m,n=m+1:=⟨n - 1,by omega⟩
  rw[FN,K h hk,List.foldl_cons,List.foldl_cons,zy,zU,d,d,it m (by omega),g m (by omega)];rfl
 |ite h c hk hi t u v it g j=>
  intro n f;obtain ⟨m,rfl⟩:∃ m,n=m+1:=⟨n - 1,by omega⟩
  rw[FN,K h hk,List.foldl_cons,List.foldl_cons,List.foldl_cons,zy,zU,d,d,d,it m (by omega),g m (by omega),j m (by omega)];rfl
theorem Pm {N:List Nd}{Es:List Ex}(hl:Es.length=N.length)(a:∀ j,(h:j < Es.length)→DK N j Es[j]){k:Int}(hk:k= -1∨(0≤k∧k < N.length))(b: 0≤k→Bm (N.map Nd.kids) N.length k≤64):Gt (Du Es k)≤64:=by
 rcases hk with rfl | h
 ·show (0 :Int)≤64;decide
 ·obtain ⟨e,he,-,hm⟩:=Nc hl h;obtain ⟨j,c⟩:=zX.1 hm;have:=Zw (a k.toNat j) N.length (by omega);rw[c,show ((k.toNat:Nat):Int)=k by omega] at this;have h6:=b h.1;rw[he];show Cf e≤64;omega
theorem SD:∀ {X a:List Sx},Xr X a→(∀ y∈a,Gt y.cond≤64∧Gt y.grant≤64)→IM X=none
 | [], [],_,_=>rfl
 |x ::X,y ::a,h,hd=>by
  obtain ⟨h1,h2⟩:=h;obtain ⟨d1,d2⟩:=hd y (zQ ..);rw[IM,if_neg (by
   rw[h1.d1,h1.d2];have:=(FD (Gt y.cond) (Gt y.grant)).2.2;omega)]
  exact SD h2 (fun b c=>hd b (zS _ c))
theorem Zx {L:List (Nat × List ByteArray)}(h:∀ q∈L,(Jp q.2).length≤64):Kl L= []:=by
 rw[Kl,List.filterMap_eq_nil_iff];intro q hq;rw[if_neg (by have:=h q hq;omega)]
def EU (a b:List Int):Prop:=∃ l,a.Perm l∧l.Sublist b
theorem EU.app {a b c d:List Int}(h:EU a b)(k:EU c d):EU (a ++c) (b ++d):=by
 obtain ⟨l,h1,h2⟩:=h;obtain ⟨m,f,g⟩:=k;exact ⟨l ++m,h1.append f,h2.append g⟩
theorem EU.mono {a b c:List Int}(h:EU a b)(k:b.Sublist c):EU a c:=by
 obtain ⟨l,h1,h2⟩:=h;exact ⟨l,h1,h2.trans k⟩
theorem EU.mid {a b c:List Int}(i:Int)(h:EU a (b ++c)):EU (a ++ [i]) (b ++i ::c):=by
 obtain ⟨l,h1,h2⟩:=h;obtain ⟨d,f,rfl,g,j⟩:=List.sublist_append_iff.1 h2;refine ⟨d ++i ::f,((h1.append_right [i]).trans ?_),g.append (j.cons_cons i)⟩;exact (List.perm_append_comm (l₁:=d ++f) (l₂:= [i])).trans (by rw[List.singleton_append];exact List.perm_middle.symm)
theorem EU.nodup {a b:List Int}(h:EU a b)(c:b.Nodup):a.Nodup∧∀ i∈a,i∈b:=by
 obtain ⟨l,h1,h2⟩:=h;exact ⟨(h1.nodup_iff).2 (c.sublist h2),fun i hi=>h2.subset ((h1.mem_iff).1 hi)⟩
def V7 (c:List Ae):List Int:=c.map fun t=>(t.at_:Int)
theorem FO (a b:List Ae):V7 (a ++b)=V7 a ++V7 b:=zl ..
theorem Bo (t:Ae)(b:List Ae):V7 (t ::b)=(t.at_:Int) ::V7 b:=rfl
theorem G.places {k:Nat}{c:List Ae}{p:Pt}(g:G k c p):EU (E7 p.ex) (V7 c):=by
 induction g with
 |up hk g f=>exact f
 |@ite t u v a b d r s w ht hu l x y z m n id=>
  have h:=EU.mid (b:= []) (c:=(V7 a ++V7 b) ++V7 d) (t.at_:Int) ((m.app n).app id);refine EU.mono h ?_;rw[Bo,FO,Bo,FO,Bo,List.nil_append,zC];exact .cons_cons _ ((List.Sublist.refl _).append (.cons _ ((List.Sublist.refl _).append (.cons _ (.refl _)))))
 |bin hk o ht q i j=>rw[FO,Bo];exact EU.mid _ (i.app j)
 |cmp o ht q i j=>rw[FO,Bo];exact EU.mid _ (i.app j)
 |not ht g f=>rw[Bo];exact EU.mid (b:= []) _ f
 |neg ht g f=>rw[Bo];exact EU.mid (b:= []) _ f
 |par ht g hu f=>rw[Bo,FO];exact f.mono (.cons _ (List.sublist_append_left _ _))
 |size ht hu g l f=>rw[Bo,Bo,FO];exact EU.mid (b:= []) _ (f.mono (.cons _ (List.sublist_append_left _ _)))
 |@set t u c ht hc hu=>rw[Bo];exact ⟨[(t.at_:Int)],.refl _,.cons_cons _ (List.nil_sublist _)⟩
 |num h | text h | name h | tru h | fls h=>exact ⟨_,.refl _,.refl _⟩
theorem GC.places {c:List Ae}{g:Option Pt}(h:GC c g):EU (Kq (g.map Pt.ex)) (V7 c):=by
 cases h with
 |deny h=>exact ⟨[],.refl _,List.nil_sublist _⟩
 |grant h g=>rw[Bo];exact g.places.mono (.cons _ (.refl _))
theorem SC.places {c:List Ae}{s:Ps}(h:SC c s):EU (Kq s.sx.cond ++Kq s.sx.grant) (V7 c):=by
 cases h with
 |let_ h d he g=>
  rw[Bo,Bo,Bo];show EU (_ ++ []) _;rw[zp];exact g.places.mono (.cons _ (.cons _ (.cons _ (.refl _))))
 |when h b f a=>
  rw[Bo,FO,Bo];exact (b.places.app a.places).mono (.cons _ ((List.Sublist.refl _).append (.cons _ (.refl _))))
 |else_ h a=>
  rw[Bo];exact a.places.mono (.cons _ (.refl _))
theorem PC.places {ts:List Ae}{S:List Ps}(h:PC ts S):EU (CW (S.map Ps.sx)) (V7 ts):=by
 induction h with
 |nil=>exact ⟨[],.refl _,.refl _⟩
 |cons a hu c b=>
  rw[FO,Bo,List.map_cons,CW];exact (a.places.app b).mono ((List.Sublist.refl _).append (.cons _ (.refl _)))
theorem PP {N:List Nd}{L:List St}{t:ByteArray}(a:By N L=true)(m:∀ x∈N,x.num≤9223372036854775807)(ht:IY N L t)(h4:t.size≤4000):
  ∃ S,DP (Ay t).toks (.ok S)∧∃ P,IX t (.ok S)=(N,L,P,0,0)∧P.length=N.length∧P.Nodup∧∀ i∈P,0≤i∧i < t.size:=by
 rcases ht with ⟨h,_⟩ | ⟨_,Es,hl,b,rfl⟩
 ·rw[a] at h;cases h
 have c:=Fk a;have n:BK L=true:=by
  simp only[By,zE] at a;exact a.1.1.2.2
 have so:=AcT a m hl b;obtain ⟨h0,S,o,d⟩:=Zn (X:=L.map (Sz Es)) (Zu L (fun s hs=>(so s hs).2)) h4 (fun x hx=>by
  obtain ⟨s,hs,rfl⟩:=zb.1 hx;exact (so s hs).1) (V4 Es L c.m0 n)
 obtain ⟨f,p⟩:=V6 Es L 0 S (fun s hs=>(so s hs).1) o;have q:=((Pn N L).1 a).2.2;have r:IM (S.map Ps.sx)=none:=SD f (fun y hy=>by
  obtain ⟨s,hs,e1,e2⟩:=Zv hy;rw[e1,e2];have g:∀ k:Int,(k=s.cond∨k=s.grant)→0≤k→Bm (N.map Nd.kids) N.length k≤64:=fun k hk h0=>q.2.2.2 k (List.mem_flatMap.2 ⟨s,hs,by
   rw[AD,zH];rcases hk with rfl | rfl
   ·exact .inl (by rw[if_pos h0];exact zJ.2 rfl)
   ·exact .inr (by rw[if_pos h0];exact zJ.2 rfl)⟩)
  exact ⟨Pm hl b (c.roots s hs).1 (g _ (.inl rfl)),Pm hl b (c.roots s hs).2 (g _ (.inr rfl))⟩)
 have v:(Kl (S.flatMap Ps.sets)).head? =none:=by rw[Zx p];rfl
 obtain ⟨j,w⟩:=f.num 0;obtain ⟨l,z⟩:=AaW a hl b;refine ⟨S,d,CW (S.map Ps.sx),by rw[Mp h0 v r,j,w,l,z],by rw[Ge,← CY _ 0,j,l], ?_⟩;obtain ⟨A,lt⟩:=Xn (Gu Es L);have B:(V7 (Ay (Gu Es L)).toks).Nodup:=by
  rw[V7,List.Nodup,List.pairwise_map];exact A.imp (fun h=>by omega)
 obtain ⟨C,E⟩:=(d.cut S rfl).places.nodup B;refine ⟨C,fun i hi=>?_⟩;obtain ⟨u,hu,rfl⟩:=zb.1 (E i hi);have:=lt u hu;show 0≤(u.at_:Int)∧(u.at_:Int) < _;omega
end Go.Proofs.YtffkofkjpckmpaaGreatDoor
