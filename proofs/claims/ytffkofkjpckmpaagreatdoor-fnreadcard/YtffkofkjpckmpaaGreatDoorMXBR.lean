/-
  HO, HP, HT, HQ, HR0, HR, HR1, HU0. Own work.
-/
import Derived.Test.YtffkofkjpckmpaaGreatDoorMXBQ
import Derived.Test.YtffkofkjpckmpaaGreatDoorMXAU
namespace Go.Proofs.YtffkofkjpckmpaaGreatDoor
open Go.RowKit
set_option linter.unusedVariables false
def Gf (T:List Ae) (lo hi:Nat):List Ae:=(T.take hi).drop lo
theorem EP {T:List Ae}{lo hi:Nat}(h:hi≤T.length):(Gf T lo hi).length=hi - lo:=by simp[Gf];omega
theorem AX {T:List Ae}{lo hi:Nat}{t:Ae}{r:List Ae}(a:hi≤T.length)(h:Gf T lo hi=t ::r):∃ b:lo < T.length,T[lo]=t∧Gf T (lo+1) hi=r∧lo < hi:=by
 have hl:=EP (lo:=lo) a;rw[h,List.length_cons] at hl;have h1:lo < T.length:=by omega
 have e:Gf T lo hi=T[lo] ::Gf T (lo+1) hi:=by
  rw[Gf,zq (by simp;omega)];simp[Gf]
 rw[e] at h;injection h with h2 h3;exact ⟨h1,h2,h3,by omega⟩
theorem It {T:List Ae}{lo hi:Nat}{l r:List Ae}(a:hi≤T.length)(h:Gf T lo hi=l ++r)(b:lo≤hi):Gf T lo (lo+l.length)=l∧Gf T (lo+l.length) hi=r∧lo+l.length≤hi:=by
 have hl:=EP (lo:=lo) a;rw[h,zB] at hl;refine ⟨?_, ?_,by omega⟩
 ·have h2:(Gf T lo hi).take l.length=l:=by rw[h];simp
  rw[Gf,List.drop_take,List.take_take,Nat.min_eq_left (by omega)] at h2;rw[Gf,List.drop_take,show lo+l.length - lo=l.length by omega];exact h2
 ·have:(Gf T lo hi).drop l.length=r:=by rw[h];simp
  rw[← this];simp only[Gf];rw[List.drop_drop]
theorem MP {T:List Ae}{lo hi:Nat}(a:hi≤T.length)(b:lo≤hi):T.drop lo=Gf T lo hi ++T.drop hi:=by
 have e:T=T.take hi ++T.drop hi:=(yG hi T).symm
 conv=>lhs;rw[e]
 rw[List.drop_append_of_le_length (by simp;omega)];rfl
theorem Ab3 {k:Nat}{t:Ae}{op:Int}(h:BZ k t=some op):∃ (s:List UInt8) (p:Nat),t.text=AB s∧FV[p]? =some s∧(∀ j,j < p→FV[j]? ≠some s)∧op=11+(p:Int):=by
 obtain ⟨s,h1,h2⟩:=Eu h;have ht:t.text=AB s:=by simp[see] at h2;exact h2.2
 have a:∃ p:Nat,FV[p]? =some s∧(∀ j,j < p→FV[j]? ≠some s)∧op=11+(p:Int):=by
  match k,h1 with
  | 0,h | 3,h=>cases h
  | 1,h=>revert h;simp only[BR,zG,zf,Prod.mk.injEq,or_false];rintro ⟨rfl,rfl⟩;exact ⟨15,by decide,by decide,rfl⟩
  | 2,h=>revert h;simp only[BR,zG,zf,Prod.mk.injEq,or_false];rintro ⟨rfl,rfl⟩;exact ⟨14,by decide,by decide,rfl⟩
  | 4,h=>
   revert h;simp only[BR,zG,zf,Prod.mk.injEq,or_false];rintro (⟨rfl,rfl⟩ | ⟨rfl,rfl⟩ | ⟨rfl,rfl⟩ | ⟨rfl,rfl⟩ | ⟨rfl,rfl⟩ | ⟨rfl,rfl⟩)
   ·exact ⟨8,by decide,by decide,rfl⟩
   ·exact ⟨9,by decide,by decide,rfl⟩
   ·exact ⟨10,by decide,by decide,rfl⟩
   ·exact ⟨11,by decide,by decide,rfl⟩
   ·exact ⟨12,by decide,by decide,rfl⟩
   ·exact ⟨13,by decide,by decide,rfl⟩
  | 5,h=>
   revert h;simp only[BR,zG,zf,Prod.mk.injEq,or_false];rintro (⟨rfl,rfl⟩ | ⟨rfl,rfl⟩ | ⟨rfl,rfl⟩ | ⟨rfl,rfl⟩)
   ·exact ⟨0,by decide,by decide,rfl⟩
   ·exact ⟨1,by decide,by decide,rfl⟩
   ·exact ⟨5,by decide,by decide,rfl⟩
   ·exact ⟨7,by decide,by decide,rfl⟩
  | 6,h=>
   revert h;simp only[BR,zG,zf,Prod.mk.injEq,or_false];rintro (⟨rfl,rfl⟩ | ⟨rfl,rfl⟩ | ⟨rfl,rfl⟩ | ⟨rfl,rfl⟩)
   ·exact ⟨2,by decide,by decide,rfl⟩
   ·exact ⟨3,by decide,by decide,rfl⟩
   ·exact ⟨4,by decide,by decide,rfl⟩
   ·exact ⟨6,by decide,by decide,rfl⟩
  |k+7,h=>cases h
 obtain ⟨p,e1,e2,e3⟩:=a;exact ⟨s,p,ht,e1,e2,e3⟩
def Pc (B nb ga c:Nat) (T:List Ae) (lo hi:Nat) (p:Pt):Prop:=
 ∀ (N:List Nd) (P:List Int) (nd pl:Value) (nv kv:List Value) (w:World),Ls w nb ga c T→FK w B nb (.slice (some ⟨ga,0,none⟩) T.length c) N P nd pl nv kv→N.length+p.ex.cnt≤65535→P.length+p.ex.cnt≤65535→Calls Tryz.prog 38 #[.pointer (some ⟨nb,0,none⟩),.int .i64 (lo:Int),.int .i64 (hi:Int)] w (L2A B nb (.slice (some ⟨ga,0,none⟩) T.length c) N (Bw p.ex N.length) P (E7 p.ex) nd pl nv kv w)
set_option maxRecDepth 100000
set_option maxHeartbeats 6400000
theorem YQ (w:World)(ks:List Int)(a:Array Value)(n:Nat)(b:a.toList=AF ks)(h:a.size=n)(hm:n≤maxLen):(w.alloc (.cells a 3)).ownsRow w.heap.size 3 1 (.slice (some ⟨w.heap.size,0,none⟩) n n) n (AF ks):=by
 refine ⟨by rw[← b];simp[h],.inr ⟨w.heap.size,n,a,rfl,NLN,heap_alloc_new w _,NLN,hm,by omega, ?_⟩⟩;rw[Nat.mul_one,zk (by simp;omega),b]
theorem JN {w:World}{B a f c:Nat}{T:List Ae}{N:List Nd}{P:List Int}{nd m:Value}{o p:List Value}(v:Ls w a f c T)(x:f < B)(b:FK w B a (.slice (some ⟨f,0,none⟩) T.length c) N P nd m o p)(y:N.length+1≤65535)(z:P.length+1≤65535)
  (ks:List Int)(d:Array Value)(n:Nat)(s:d.toList=AF ks)(h:d.size=n)(hm:n≤maxLen)(op:Int)(i:Nat)(hi:i < T.length):
  Calls Tryz.prog 79 #[.pointer (some ⟨a,0,none⟩),.agg #[.int .i64 op,.int .i64 0,.string ⟨#[]⟩,.slice none 0 0,.slice (some ⟨w.heap.size,0,none⟩) n n],.int .i64 (i:Int)] (w.alloc (.cells d 3)) fun r w'=>r= .returned (.int .i64 (N.length:Int))∧∃ g k,FK w' B a (.slice (some ⟨f,0,none⟩) T.length c) (N ++ [⟨op,0,⟨#[]⟩, [],ks⟩]) (P ++ [(T[i].at_:Int)]) g k (o ++ [.slice none 0 0]) (p ++ [.slice (some ⟨w.heap.size,0,none⟩) n n])∧Nk B a nd m w g k w':=by
 have l:=(Below.refl w.heap.size w).alloc NLN (.cells d 3);have A:ks.length=n:=by
  have:=congrArg List.length s;simp[AF] at this;omega
 have t:B≤w.heap.size:=by have:=b.row.lt;have:=b.low;omega
 subst A;refine (KH (v.below l) x (b.below l) y z ⟨op,0,⟨#[]⟩, [],ks⟩ none 0 (some ⟨w.heap.size,0,none⟩) ks.length w.heap.size t (World.ownsRow_nil _ _ _ _) (YQ w ks d ks.length s h hm) (fun j u q hq e=>by cases e) (fun j u q hq e=>?_) (fun q hq e=>?_) i hi).mono ?_
 ·have h1:w.heap.size=q:=by simpa[Value.ownBlock] using e
  have:=(b.nodes.lts.2.2 j u q hq).2;omega
 ·have h1:w.heap.size=q:=by simpa[Value.ownBlock] using hq
  have:=(b.places.lt q e).2;omega
 ·rintro r w' ⟨h1,g,k,C,E⟩;exact ⟨h1,g,k,C,(Nk.of_all l t).trans E⟩
theorem YR {B Y Z c:Nat}{T:List Ae}(aa:Z < B)(hl:T.length≤4000){lo hi:Nat}(m:hi≤T.length)(bZ:lo≤hi){t u v:Ae}{a b d:List Ae}{h g f:Pt}(hs:Gf T lo hi=t ::(a ++u ::(b ++v ::d)))(ht:see DO t=true)(hu:see BE u=true)(aN:see AK v=true)(aO:G 0 a h)(aP:G 0 b g)(br:G 0 d f)
  (ab:∀ ac O p,O≤T.length→ac≤O→O - ac < hi - lo→G 0 (Gf T ac O) p→Pc B Y Z c T ac O p):Pc B Y Z c T lo hi (.ite t.at_ h g f):=by
 intro N P nd ad ae af w Q ag ay hp;obtain ⟨ah,e1,az,b0⟩:=AX m hs;obtain ⟨f1,f2,bs⟩:=It m az (by omega);obtain ⟨b1,bt,aA,b2⟩:=AX m f2;obtain ⟨g1,g2,g3⟩:=It m aA (by omega);obtain ⟨g4,g5,g6,g7⟩:=AX m g2;have aQ:Ci BE (T.drop (lo+1)) 1 0 ((lo+1 :Nat):Int)=((lo+1+a.length:Nat):Int):=by
  rw[MP m (by omega),az,zC,aO.mat (.inl rfl) _ _ _ _ (by omega) (by omega),List.cons_append,VB hu (by decide)];omega
 have aR:Ci AK (T.drop (lo+1+a.length+1)) 1 0 ((lo+1+a.length+1 :Nat):Int)=((lo+1+a.length+1+b.length:Nat):Int):=by
  rw[MP m (by omega),aA,zC,aP.mat (.inr rfl) _ _ _ _ (by omega) (by omega),List.cons_append,VB aN (by decide)];omega
 have aS:=Ab (G6 Q lo ah DO (AB DO) rfl);rw[e1,ht] at aS;have ai:=Ab (fun (w':World) (aB:Below w.heap.size w w')=>MN (Q.below aB) hl (lo+1) (by omega) BE (AB BE) rfl);have R:=Ab (fun (w':World) (aB:Below w.heap.size w w')=>MN (Q.below aB) hl (lo+1+a.length+1) (by omega) AK (AB AK) rfl);rw[aQ] at ai;rw[aR] at R;have aj:=Ab (ab (lo+1) (lo+1+a.length) h (by omega) (by omega) (by omega) (by rw[f1];exact aO));have S:=Ab (ab (lo+1+a.length+1) (lo+1+a.length+1+b.length) g (by omega) (by omega) (by omega) (by rw[g1];exact aP));have U:=Ab (ab (lo+1+a.length+1+b.length+1) hi f (by omega) (by omega) (by omega) (by rw[g6];exact br));have ak:=Ab Q;have bu:=Ab (And.intro ah e1);have b3:N.length+(h.ex.cnt+g.ex.cnt+f.ex.cnt+1)≤65535:=ay;have b4:P.length+(h.ex.cnt+g.ex.cnt+f.ex.cnt+1)≤65535:=hp;have bv:lo+1+a.length≤4000:=by omega
 have aT:lo+1+a.length+1+b.length+1≤4001:=by omega
 obtain ⟨aC,aU⟩:∃ aC,aC=lo+1+a.length:=⟨_,rfl⟩
 rw[← aU] at ai R aj S U bv aT;obtain ⟨aV,aW⟩:∃ aV,aV=aC+1+b.length:=⟨_,rfl⟩
 rw[← aW] at R S U aT;unfold Pc at aj S U;simp only[zU,Int.natCast_one] at ai R aj S U;have b5:=ay;clear ay hp hs az f1 f2 bs bt aA g1 g2 g3 g5 g6 aQ aR aU aW ht hu aN ab Q e1;have b6:=Below.refl w.heap.size w;go_enter Tryz.func38,Tryz.ntmps38
 go_wp2_with fail
 refine (Aa aS).mono ?_;rintro r b7 ⟨rfl,V⟩;have bw:=ag.below V;dsimp only;go_wp2_with fail
 refine (Aa ai _ V).mono ?_;rintro r b8 ⟨rfl,aX⟩;have al:=V.trans (aX.mono V.size);dsimp only;go_wp2_with fail
 refine (Aa R _ al).mono ?_;rintro r aY ⟨rfl,aZ⟩;have ao:=al.trans (aZ.mono al.size);have a0:=ag.below ao;have a4:=(Aa ak).below ao;have a5:Nk B Y nd ad w nd ad aY:=Nk.of_all ao (by have:=ag.row.lt;have:=ag.low;omega);clear V aX aZ al bw;dsimp only;go_wp2_with fail
 refine (Aa aj N P nd ad ae af aY a4 a0 (by omega) (by omega)).mono ?_;rintro r bx ⟨rfl,bz,bA,aD,aE,ap,a6,a7⟩;have aq:=a5.trans a6;have a8:=(Aa ak).of ap aq.low aa;obtain ⟨a1,A⟩:∃ a1:Int,a1=((N.length+(Bw h.ex N.length).length - 1 :Nat):Int):=⟨_,rfl⟩
 obtain ⟨k,n⟩:∃ M,M=N ++Bw h.ex N.length:=⟨_,rfl⟩
 obtain ⟨W,o⟩:∃ M,M=P ++E7 h.ex:=⟨_,rfl⟩
 obtain ⟨a9,C⟩:∃ M,M=ae ++aD:=⟨_,rfl⟩
 obtain ⟨ba,E⟩:∃ M,M=af ++aE:=⟨_,rfl⟩
 rw[← n,← o,← C,← E] at ap;rw[← A];have i:k.length=N.length+h.ex.cnt:=by rw[n,zB,Al]
 have j:W.length=P.length+h.ex.cnt:=by rw[o,zB,Ba]
 have bB:k.length+(g.ex.cnt+f.ex.cnt+1)≤65535:=by omega
 have bC:W.length+(g.ex.cnt+f.ex.cnt+1)≤65535:=by omega
 have bD:=Ab (And.intro A (And.intro n (And.intro o (And.intro C (And.intro E (And.intro i (And.intro j a7)))))));clear A n o C E i j a7 a5 a6 a0 a4;dsimp only;go_wp2_with fail
 refine (Aa S k W bz bA a9 ba bx a8 ap (by omega) (by omega)).mono ?_;rintro r bE ⟨rfl,MI,bF,aF,aG,ar,bb,bc⟩;have au:=aq.trans bb;have bd:=(Aa ak).of ar au.low aa;obtain ⟨a2,F⟩:∃ a2:Int,a2=((k.length+(Bw g.ex k.length).length - 1 :Nat):Int):=⟨_,rfl⟩
 obtain ⟨l,s⟩:∃ M,M=k ++Bw g.ex k.length:=⟨_,rfl⟩
 obtain ⟨X,x⟩:∃ M,M=W ++E7 g.ex:=⟨_,rfl⟩
 obtain ⟨bf,H⟩:∃ M,M=a9 ++aF:=⟨_,rfl⟩
 obtain ⟨bg,I⟩:∃ M,M=ba ++aG:=⟨_,rfl⟩
 rw[← s,← x,← H,← I] at ar;rw[← F];have i:l.length=k.length+g.ex.cnt:=by rw[s,zB,Al]
 have j:X.length=W.length+g.ex.cnt:=by rw[x,zB,Ba]
 have bG:l.length+(f.ex.cnt+1)≤65535:=by omega
 have bH:X.length+(f.ex.cnt+1)≤65535:=by omega
 have bI:=Ab (And.intro F (And.intro s (And.intro x (And.intro H (And.intro I (And.intro i (And.intro j (And.intro bc aq.low.size))))))));clear F s x H I i j bc aq bb ap a8 bB bC;dsimp only;go_wp2_with fail
 refine (Aa U l X MI bF bf bg bE bd ar (by omega) (by omega)).mono ?_;rintro r av ⟨rfl,b9,ca,aH,aI,aJ,bh,bi⟩;have aK:=au.trans bh;have bJ:=(Aa ak).of aJ aK.low aa;obtain ⟨a3,J⟩:∃ a3:Int,a3=((l.length+(Bw f.ex l.length).length - 1 :Nat):Int):=⟨_,rfl⟩
 obtain ⟨aw,y⟩:∃ M,M=l ++Bw f.ex l.length:=⟨_,rfl⟩
 obtain ⟨aL,z⟩:∃ M,M=X ++E7 f.ex:=⟨_,rfl⟩
 obtain ⟨bK,K⟩:∃ M,M=bf ++aH:=⟨_,rfl⟩
 obtain ⟨bL,L⟩:∃ M,M=bg ++aI:=⟨_,rfl⟩
 rw[← y,← z,← K,← L] at aJ;rw[← J];have i:aw.length=l.length+f.ex.cnt:=by rw[y,zB,Al]
 have j:aL.length=X.length+f.ex.cnt:=by rw[z,zB,Ba]
 have bM:aw.length+1≤65535:=by omega
 have bN:aL.length+1≤65535:=by omega
 have bO:=Ab (And.intro J (And.intro y (And.intro z (And.intro K (And.intro L (And.intro i (And.intro j (And.intro bi au.low.size))))))));clear J y z K L i j bi au bh ar bd bG bH;dsimp only;go_wp2_with fail
 obtain ⟨ah,bP⟩:=Aa bu;refine (JN bJ aa aJ bM bN [a1,a2,a3] _ 3 rfl rfl (by unfold maxLen;omega) 27 lo ah).mono ?_;rintro r bQ ⟨rfl,bR,bS,aM,bj⟩;have bk:=aK.trans bj;rw[bP] at aM;obtain ⟨A,n,o,C,E,i,j,bl⟩:=Aa bD;obtain ⟨F,s,x,H,I,ax,bT,bm,bn⟩:=Aa bI;obtain ⟨J,y,z,K,L,bo,bU,bp,bq⟩:=Aa bO;have bV:=aK.low.size;have bW:=Ab (show L2A B Y (.slice (some ⟨Z,0,none⟩) T.length c) N (Bw (Pt.ite t.at_ h g f).ex N.length) P (E7 (Pt.ite t.at_ h g f).ex) nd ad ae af w (.returned (.int .i64 (aw.length:Int))) bQ from by
  have bX:aw ++ [⟨27,0,⟨#[]⟩, [], [a1,a2,a3]⟩]=N ++Bw (Pt.ite t.at_ h g f).ex N.length:=by
   have e1:a1=((N.length+h.ex.cnt - 1 :Nat):Int):=by rw[A,Al]
   have e2:a2=((N.length+h.ex.cnt+g.ex.cnt - 1 :Nat):Int):=by rw[F,Al,i]
   have e3:a3=((N.length+h.ex.cnt+g.ex.cnt+f.ex.cnt - 1 :Nat):Int):=by rw[J,Al,ax,i]
   rw[e1,e2,e3,y,ax,i,s,i,n,Pt.ex,Bw];simp only[zC]
  have bY:aL ++ [(t.at_:Int)]=P ++E7 (Pt.ite t.at_ h g f).ex:=by
   rw[z,x,o,Pt.ex,E7];simp only[zC]
  refine ⟨by rw[Al,Pt.ex,Ex.cnt,bo,ax,i];congr 2;omega,bR,bS,aD ++aF ++aH ++ [.slice none 0 0],aE ++aG ++aI ++ [.slice (some ⟨av.heap.size,0,none⟩) 3 3], ?_,bk, ?_⟩
  ·rw[← bX,← bY];have e1:ae ++(aD ++aF ++aH ++ [.slice none 0 0])=bK ++ [.slice none 0 0]:=by rw[K,H,C];simp
   have e2:af ++(aE ++aG ++aI ++ [.slice (some ⟨av.heap.size,0,none⟩) 3 3])=bL ++ [.slice (some ⟨av.heap.size,0,none⟩) 3 3]:=by rw[L,I,E];simp
   rw[e1,e2];exact aM
  ·exact CN (CN (CN (Bi bl ao.size) (Bi bm bn)) (Bi bp bq)) (EB (fun q hq=>by
    have:av.heap.size=q:=by simpa[Value.ownBlock] using hq
    omega)))
 clear aM bj bk A n o C E i j bl F s x H I ax bT bm bn J y z K L bo bU bp bq bV;dsimp only;go_wp2_with fail
 go_ret
 exact Aa bW
theorem Cj.kid {w:World}{lo g c:Nat}{N:List Nd}{a d:List Value}(h:Cj w lo (.slice (some ⟨g,0,none⟩) N.length c) N a d)(t:Nat)(ht:t < N.length):
  ∃ x m,w.cell? ⟨g,t * 5+4,none⟩=some (.slice x N[t].kids.length m)∧(∀ j,(f:j < N[t].kids.length)→∃ b,x=some ⟨b,0,none⟩∧b < w.heap.size∧w.cell? ⟨b,j,none⟩=some (.int .i64 (N[t].kids[j])))∧g < w.heap.size:=by
 have h1:t < a.length:=by rw[h.len];exact ht
 have h2:t < d.length:=by rw[h.lenk];exact ht
 have hc:=Qf N a d t ht h1 h2 4 (by omega);have i:=h.kids t ht h2;have k:=h.own;obtain ⟨x,m,l,hx⟩:=Af i;obtain ⟨r,s,n,o⟩:=Af k;obtain ⟨u,e',_,p⟩:=o (by omega);simp only[Value.slice.injEq] at n;obtain ⟨rfl,_,_⟩:=n;simp only[Option.some.injEq,Addr.mk.injEq,and_true] at e';subst e';refine ⟨x,m, ?_,fun j f=>?_,(k.lt g rfl).2⟩
 ·rw[← l];exact p _ _ (hc.trans rfl)
 ·obtain ⟨b,e,_,q⟩:=hx (by omega);refine ⟨b,e,(i.lt b (by rw[l,e];rfl)).2,q j _ ?_⟩;simp[AF,f]
def DpI (ds:List Int) (w:World) (vd vi:Value) (wr:World):Prop:=
 ∃ j:Nat,j≤ds.length∧vi= .int .i64 (j:Int)∧vd= .int .i64 ((ds.take j).foldl mx 0)∧Below w.heap.size w wr
theorem VK:∀ (a:List Int) (d:Int),0≤d∧d≤65535→(∀ x∈a,0≤x∧x≤65535)→0≤a.foldl mx d∧a.foldl mx d≤65535
 | [],d,h,_=>h
 |x ::a,d,h,hd=>by
  rw[List.foldl_cons];refine VK a _ ?_ (fun y hy=>hd y (zS _ hy));have:=hd x (zQ ..);unfold mx;split <;> omega
theorem JO {w:World}{B g c:Nat}{N:List Nd}{K L:List Value}(v:Cj w B (.slice (some ⟨g,0,none⟩) N.length c) N K L)(hs:N.length≤65535)(t:Nat)(ht:t < N.length)(ks a:List Int)(hk:N[t].kids=ks)(n:a.length=ks.length)(h3:ks.length≤3)(f:∀ x∈a,0≤x∧x≤65535)
  (z:∀ j (h:j < ks.length) (Z:j < a.length) (w':World),Below w.heap.size w w'→Calls Tryz.prog 39 #[.slice (some ⟨g,0,none⟩) N.length c,.int .i64 ks[j]] w' fun r M=>r= .returned (.int .i64 a[j])∧Below w'.heap.size w' M):
  Calls Tryz.prog 39 #[.slice (some ⟨g,0,none⟩) N.length c,.int .i64 (t:Int)] w fun r w'=>r= .returned (.int .i64 (a.foldl mx 0+1))∧Below w.heap.size w w':=by
 obtain ⟨x,m,c4,A,aa⟩:=v.kid t ht;subst hk;generalize N[t].kids=ks at *;have ab:(t:Int) < (N.length:Int):=by omega
 have O:=Ab z;have P:=Ab (And.intro n f);have Q:=Ab A;have C:=Ab (show DpI a w (.int .i64 0) (.int .i64 0) w from ⟨0,by omega,rfl,rfl,BRN⟩);clear z A f n v;go_enter Tryz.func39,Tryz.ntmps39
 go_wp2_with fail
 go_loopw [5,15] (fun R q wr=>DpI a w R q wr) (fun _ q _=>a.length - (intOf q).toNat)
 case atStart=>exact Aa C
 case round=>
  clear C;obtain ⟨j,ac,rfl,rfl,d⟩:=hrel;obtain ⟨n,f⟩:=Aa P;have s:=VK (a.take j) 0 (by omega) (fun y hy=>f y (yF hy));by_cases i:j < a.length
  ·have S:(j:Int) < (ks.length:Int):=by omega
   have E:=Ab (FJ a.length j i);have o:=Ab (Aa O j (by omega) i);obtain ⟨b,rfl,F,H⟩:=Aa Q j (by omega);have T:=(d.cell (p:=⟨b,j,none⟩) F).trans H;clear H;have U:=f _ (zP i);have l:=Ab (fun (w':World) (V:Below w.heap.size w w')=>show DpI a w (.int .i64 (mx ((a.take j).foldl mx 0) a[j])) (.int .i64 ((j:Int)+1)) w' from ⟨j+1,by omega,by rw[zU];rfl,by rw[zx i,zo];rfl,V⟩);generalize (a.take j).foldl mx 0=D at s l;generalize a[j]=y at U l o;generalize ks[j]=k at T o;clear n f i F;by_cases I:D < y
   ·rw[show mx D y=y from if_pos I] at l;go_wp2_with fail
    refine (Aa o _ d).mono ?_;rintro r W ⟨rfl,u⟩;dsimp only;go_wp2_with fail
    exact ⟨Aa l _ (d.trans (u.mono d.size)),Aa E⟩
   ·rw[show mx D y=D from if_neg I] at l;go_wp2_with fail
    refine (Aa o _ d).mono ?_;rintro r W ⟨rfl,u⟩;dsimp only;go_wp2_with fail
    exact ⟨Aa l _ (d.trans (u.mono d.size)),Aa E⟩
  ·have S: ¬ ((j:Int) < (ks.length:Int)):=by omega
   have X:=Ab (show a.take j=a from zk (by omega));rw[Aa X] at s ⊢;clear n f i;generalize J:a.foldl mx 0=D at s ⊢;have Y:=Ab J;clear J;go_wp2_with fail
   go_ret
   exact ⟨by rw[Aa Y];rfl,d⟩
theorem Uu (a L C:List Nd)(x:Nd)(h:a.length+L.length < (a ++(L ++ [x] ++C)).length):(a ++(L ++ [x] ++C))[a.length+L.length]=x:=by
 simp
theorem AaE {B g c:Nat}{N:List Nd}{F H:List Value}(hs:N.length≤65535):∀ (e:Ex) (b:Nat) (d C:List Nd),N=d ++(Bw e b ++C)→d.length=b→∀ (w:World),Cj w B (.slice (some ⟨g,0,none⟩) N.length c) N F H→
  Calls Tryz.prog 39 #[.slice (some ⟨g,0,none⟩) N.length c,.int .i64 ((b+e.cnt - 1 :Nat):Int)] w fun r w'=>r= .returned (.int .i64 (Cf e))∧Below w.heap.size w w':=by
 have z:∀ {w w':World},Cj w B (.slice (some ⟨g,0,none⟩) N.length c) N F H→Below w.heap.size w w'→Cj w' B (.slice (some ⟨g,0,none⟩) N.length c) N F H:=fun h q=>h.blocks (fun k _ hk=>q.block k hk);have v:∀ (e:Ex) (b:Nat) (d C:List Nd),(TD e).kids= []→N=d ++([TD e] ++C)→d.length=b→∀ (w:World),Cj w B (.slice (some ⟨g,0,none⟩) N.length c) N F H→
   Calls Tryz.prog 39 #[.slice (some ⟨g,0,none⟩) N.length c,.int .i64 ((b+1 - 1 :Nat):Int)] w fun r w'=>r= .returned (.int .i64 1)∧Below w.heap.size w w':=by
  intro e b d C hk I o w f;have hl:b < N.length:=by rw[I];simp;omega
  exact JO f hs b hl [] [] (by
   have:N[b]=TD e:=by
    subst o;simp only[I];simp
   rw[this,hk]) rfl (by simp) (fun x hx=>by cases hx) (fun j h=>absurd h (by simp))
 intro e
 induction e with
 |int i n=>intro b d C h o w f;exact v (.int i n) b d C rfl h o w f
 |text i s=>intro b d C h o w f;exact v (.text i s) b d C rfl h o w f
 |bool i x=>intro b d C h o w f;exact v (.bool i x) b d C rfl h o w f
 |set i a n m K=>intro b d C h o w f;exact v (.set i a n m K) b d C rfl h o w f
 |name i s=>intro b d C h o w f;exact v (.name i s) b d C rfl h o w f
 |attr i n=>intro b d C h o w f;exact v (.attr i n) b d C rfl h o w f
 |lett i n=>intro b d C h o w f;exact v (.lett i n) b d C rfl h o w f
 |un i op k L=>
  intro b d C h o w f;rw[Bw] at h;have A:=congrArg List.length h;simp only[zB,Al,z9] at A;have e1:b+(Ex.un i op k).cnt - 1=d.length+(Bw k b).length:=by rw[Al,Ex.cnt];omega
  have hl:d.length+(Bw k b).length < N.length:=by rw[Al];omega
  have d1:=AZ k;obtain ⟨p,u⟩:∃ p:Nd,p=⟨op,0,⟨#[]⟩, [], [((b+k.cnt - 1 :Nat):Int)]⟩:=⟨_,rfl⟩
  rw[← u] at h;rw[e1];refine (JO f hs _ hl [((b+k.cnt - 1 :Nat):Int)] [Cf k] (by simp only[h];rw[Uu,u]) rfl (by simp) (fun x hx=>by rw[zJ.1 hx];omega) ?_);intro j E J w' q
  match j,E with
  | 0,_=>exact L b d ([p] ++C) (by rw[h];simp only[zC]) o w' (z f q)
 |bin i op l r M O=>
  intro b d C h o w f;rw[Bw] at h;have A:=congrArg List.length h;simp only[zB,Al,z9] at A;have e1:b+(Ex.bin i op l r).cnt - 1=d.length+(Bw l b ++Bw r (b+l.cnt)).length:=by rw[zB,Al,Al,Ex.cnt];omega
  have hl:d.length+(Bw l b ++Bw r (b+l.cnt)).length < N.length:=by rw[zB,Al,Al];omega
  have d1:=AZ l;have d2:=AZ r;obtain ⟨p,u⟩:∃ p:Nd,p=⟨op,0,⟨#[]⟩, [], [((b+l.cnt - 1 :Nat):Int),((b+l.cnt+r.cnt - 1 :Nat):Int)]⟩:=⟨_,rfl⟩
  rw[← u] at h;rw[e1];refine (JO f hs _ hl [((b+l.cnt - 1 :Nat):Int),((b+l.cnt+r.cnt - 1 :Nat):Int)] [Cf l,Cf r] (by simp only[h];rw[Uu,u]) rfl (by simp) (fun x hx=>by simp only[zG,zf,or_false] at hx;rcases hx with rfl | rfl <;> omega) ?_);intro j E J w' q
  match j,E with
  | 0,_=>exact M b d (Bw r (b+l.cnt) ++([p] ++C)) (by rw[h];simp only[zC]) o w' (z f q)
  | 1,_=>exact O (b+l.cnt) (d ++Bw l b) ([p] ++C) (by rw[h];simp only[zC]) (by rw[zB,Al,o]) w' (z f q)
 |ite i x y t P Q R=>
  intro b d C h o w f;rw[Bw] at h;have A:=congrArg List.length h;simp only[zB,Al,z9] at A;have e1:b+(Ex.ite i x y t).cnt - 1=d.length+(Bw x b ++Bw y (b+x.cnt) ++Bw t (b+x.cnt+y.cnt)).length:=by rw[zB,zB,Al,Al,Al,Ex.cnt];omega
  have hl:d.length+(Bw x b ++Bw y (b+x.cnt) ++Bw t (b+x.cnt+y.cnt)).length < N.length:=by rw[zB,zB,Al,Al,Al];omega
  have d1:=AZ x;have d2:=AZ y;have d3:=AZ t;obtain ⟨p,u⟩:∃ p:Nd,p=⟨27,0,⟨#[]⟩, [], [((b+x.cnt - 1 :Nat):Int),((b+x.cnt+y.cnt - 1 :Nat):Int),((b+x.cnt+y.cnt+t.cnt - 1 :Nat):Int)]⟩:=⟨_,rfl⟩
  rw[← u] at h;rw[e1];refine (JO f hs _ hl [((b+x.cnt - 1 :Nat):Int),((b+x.cnt+y.cnt - 1 :Nat):Int),((b+x.cnt+y.cnt+t.cnt - 1 :Nat):Int)] [Cf x,Cf y,Cf t] (by simp only[h];rw[Uu,u]) rfl (by simp) (fun x hx=>by simp only[zG,zf,or_false] at hx;rcases hx with rfl | rfl | rfl <;> omega) ?_);intro j E J w' q
  match j,E with
  | 0,_=>exact P b d (Bw y (b+x.cnt) ++(Bw t (b+x.cnt+y.cnt) ++([p] ++C))) (by rw[h];simp only[zC]) o w' (z f q)
  | 1,_=>exact Q (b+x.cnt) (d ++Bw x b) (Bw t (b+x.cnt+y.cnt) ++([p] ++C)) (by rw[h];simp only[zC]) (by rw[zB,Al,o]) w' (z f q)
  | 2,_=>exact R (b+x.cnt+y.cnt) (d ++Bw x b ++Bw y (b+x.cnt)) ([p] ++C) (by rw[h];simp only[zC]) (by rw[zB,zB,Al,Al,o]) w' (z f q)
theorem L4 {w:World}{B:Nat}{nd:Value}{a b:List Value}(e:Ex)(N:List Nd)(h:Cj w B nd (N ++Bw e N.length) a b)(hs:N.length+e.cnt≤65535):
  Calls Tryz.prog 39 #[nd,.int .i64 ((N.length+e.cnt - 1 :Nat):Int)] w fun r w'=>r= .returned (.int .i64 (Cf e))∧Below w.heap.size w w':=by
 obtain ⟨x,c,d,hx⟩:=Af h.own;have i:=AZ e;have hl:(N ++Bw e N.length).length=N.length+e.cnt:=by rw[zB,Al]
 obtain ⟨g,f,_,_⟩:=hx (by omega);subst f;subst d;exact AaE (by omega) e N.length N [] (by simp) rfl w h
def mlv:Nat→Nat
 | 0=>1 | 1=>2 | 2=>4 | 3=>5 | _=>6
def glv:Nat→Nat
 | 0=>1 | 1=>2 | 2=>3 | 3=>5 | 4=>6 | _=>7
def LvR (W:World) (gl:Nat):Prop:=gl < W.heap.size∧∀ lv,lv < 5→∃ gb n co,W.cell? ⟨gl,lv,none⟩=some (.slice (some ⟨gb,0,none⟩) n co)∧BL W (some ⟨gb,0,none⟩) n co ((A9 (mlv lv)).map AB)
theorem LvR.below {a d:World}{b:Nat}(h:LvR a b)(c:Below a.heap.size a d):LvR d b:=
 ⟨zY h.1 c.size,fun lv f=>by
  obtain ⟨g,n,i,h1,h2⟩:=h.2 lv f;exact ⟨g,n,i,(c.cell (p:=⟨b,lv,none⟩) h.1).trans h1,h2.below c NLN⟩⟩
def lv1 (w:World):World:=w.alloc (.cells (YH 1) 9)
def lv2 (w:World):World:=(lv1 w).alloc (.cells (YH 2) 9)
def lv3 (w:World):World:=(lv2 w).alloc (.cells (YH 4) 9)
def lv4 (w:World):World:=(lv3 w).alloc (.cells (YH 5) 9)
def lv5 (w:World):World:=(lv4 w).alloc (.cells (YH 6) 9)
def lv6 (w:World):World:=(lv5 w).alloc (.cells #[.slice (some ⟨w.heap.size,0,none⟩) 1 1,.slice (some ⟨w.heap.size+1,0,none⟩) 1 1,.slice (some ⟨w.heap.size+1+1,0,none⟩) 6 6,.slice (some ⟨w.heap.size+1+1+1,0,none⟩) 4 4,.slice (some ⟨w.heap.size+1+1+1+1,0,none⟩) 4 4] 47)
theorem Gg (w:World)(a:Obj):Below w.heap.size w (w.alloc a):=(Below.refl w.heap.size w).alloc NLN a
theorem YS (w:World):LvR (lv6 w) (w.heap.size+5)∧Below w.heap.size w (lv6 w):=by
 have b:(lv1 w).heap.size=w.heap.size+1:=by simp[lv1]
 have c:(lv2 w).heap.size=w.heap.size+1+1:=by simp[lv2,b]
 have d:(lv3 w).heap.size=w.heap.size+1+1+1:=by simp[lv3,c]
 have f:(lv4 w).heap.size=w.heap.size+1+1+1+1:=by simp[lv4,d]
 have g:(lv5 w).heap.size=w.heap.size+5:=by simp[lv5,f]
 have b1:Below w.heap.size w (lv1 w):=Gg w _;have b2:Below (lv1 w).heap.size (lv1 w) (lv2 w):=Gg _ _;have b3:Below (lv2 w).heap.size (lv2 w) (lv3 w):=Gg _ _;have b4:Below (lv3 w).heap.size (lv3 w) (lv4 w):=Gg _ _;have b5:Below (lv4 w).heap.size (lv4 w) (lv5 w):=Gg _ _;have a:Below (lv5 w).heap.size (lv5 w) (lv6 w):=Gg _ _;have h:BL (lv1 w) (some ⟨w.heap.size,0,none⟩) 1 1 ((A9 1).map AB):=EA 1 1 rfl (by decide) (by decide) w;have i:BL (lv2 w) (some ⟨w.heap.size+1,0,none⟩) 1 1 ((A9 2).map AB):=by rw[← b];exact EA 2 1 rfl (by decide) (by decide) _
 have j:BL (lv3 w) (some ⟨w.heap.size+1+1,0,none⟩) 6 6 ((A9 4).map AB):=by rw[← c];exact EA 4 6 rfl (by decide) (by decide) _
 have k:BL (lv4 w) (some ⟨w.heap.size+1+1+1,0,none⟩) 4 4 ((A9 5).map AB):=by rw[← d];exact EA 5 4 rfl (by decide) (by decide) _
 have l:BL (lv5 w) (some ⟨w.heap.size+1+1+1+1,0,none⟩) 4 4 ((A9 6).map AB):=by rw[← f];exact EA 6 4 rfl (by decide) (by decide) _
 have m:=((((h.below b2 NLN).below b3 NLN).below b4 NLN).below b5 NLN).below a NLN;have n:=(((i.below b3 NLN).below b4 NLN).below b5 NLN).below a NLN;have o:=((j.below b4 NLN).below b5 NLN).below a NLN;have p:=(k.below b5 NLN).below a NLN;have q:=l.below a NLN;have R:=Am.new (lv5 w) #[.slice (some ⟨w.heap.size,0,none⟩) 1 1,.slice (some ⟨w.heap.size+1,0,none⟩) 1 1,.slice (some ⟨w.heap.size+1+1,0,none⟩) 6 6,.slice (some ⟨w.heap.size+1+1+1,0,none⟩) 4 4,.slice (some ⟨w.heap.size+1+1+1+1,0,none⟩) 4 4] 47;rw[g] at R;refine ⟨⟨R.lt,fun lv r=>?_⟩,((((b1.trans (b2.mono b1.size)).trans (b3.mono (by omega))).trans (b4.mono (by omega))).trans (b5.mono (by omega))).trans (a.mono (by omega))⟩
 match lv,r with
 | 0,_=>exact ⟨_,_,_,R.cell 0,m⟩
 | 1,_=>exact ⟨_,_,_,R.cell 1,n⟩
 | 2,_=>exact ⟨_,_,_,R.cell 2,o⟩
 | 3,_=>exact ⟨_,_,_,R.cell 3,p⟩
 | 4,_=>exact ⟨_,_,_,R.cell 4,q⟩
theorem Ab9 {lv:Nat}{c:List Ae}{p:Pt}(h5:lv < 5)(g:G (glv lv) c p)(h:lv=2→∀ t r,c=t ::r→see DT t=false):
  (∃ l t r op a b,c=l ++t ::r∧p= .bin t.at_ op a b∧BZ (mlv lv) t=some op∧G 0 l a∧G 0 r b∧∀ i,Lo (mlv lv) c i=i+l.length)∨(G (glv (lv+1)) c p∧∀ i,Lo (mlv lv) c i= -1):=by
 have bin:∀ k,(k=1∨k=2∨k=5∨k=6)→G k c p→(∃ l t r op a b,c=l ++t ::r∧p= .bin t.at_ op a b∧BZ k t=some op∧G 0 l a∧G 0 r b∧∀ i,Lo k c i=i+l.length)∨(G (k+1) c p∧∀ i,Lo k c i= -1):=by
  intro k hk g;rcases g.cutB hk with ⟨l,t,r,op,a,b,rfl,rfl,ht,d,f⟩ | g
  ·exact .inl ⟨l,t,r,op,a,b,rfl,rfl,ht,d.low (by omega),f.low (by omega),fun i=>d.last_at (by omega) ht f (by omega) i⟩
  ·exact .inr ⟨g,fun i=>g.last_no (by omega) i⟩
 match lv,h5 with
 | 0,_=>exact bin 1 (by omega) g
 | 1,_=>exact bin 2 (by omega) g
 | 2,_=>
  rcases (show G 3 c p from g).cut3 with ⟨t,r,q,rfl,rfl,ht,_⟩ | g
  ·have:=h rfl t r rfl;rw[this] at ht;cases ht
  ·rcases g.cut4 with ⟨l,t,r,op,a,b,rfl,rfl,ht,d,f⟩ | g
   ·exact .inl ⟨l,t,r,op,a,b,rfl,rfl,ht,d.low (by omega),f.low (by omega),fun i=>d.last_at (by omega) ht f (by decide) i⟩
   ·exact .inr ⟨g,fun i=>g.last_no (by decide) i⟩
 | 3,_=>exact bin 5 (by omega) g
 | 4,_=>exact bin 6 (by omega) g
theorem G8 {w w':World}{a d c:Nat}{T:List Ae}(f:Ls w a d c T)(g:Below w.heap.size w w')(i:Nat)(hi:i < T.length)(s:List UInt8)(b:Bool)(h:see s T[i]=b):
  Calls Tryz.prog 13 #[.pointer (some ⟨a,0,none⟩),.int .i64 (i:Int),.string (AB s)] w' fun r j=>r= .returned (.bool b)∧Below w'.heap.size w' j:=by
 have:=G6 (f.below g) i hi s (AB s) rfl;rw[h] at this;exact this
theorem Pd {w:World}{B a b c:Nat}{T:List Ae}{N:List Nd}{P:List Int}{nd g:Value}{h k:List Value}(l:Ls w a b c T)(m:b < B)(d:FK w B a (.slice (some ⟨b,0,none⟩) T.length c) N P nd g h k)(n:N.length+1≤65535)(o:P.length+1≤65535)(op num:Int)(f:ByteArray)(i:Nat)(hi:i < T.length):
  Calls Tryz.prog 79 #[.pointer (some ⟨a,0,none⟩),.agg #[.int .i64 op,.int .i64 num,.string f,.slice none 0 0,.slice none 0 0],.int .i64 (i:Int)] w (L2A B a (.slice (some ⟨b,0,none⟩) T.length c) N [⟨op,num,f, [], []⟩] P [(T[i].at_:Int)] nd g h k w):=by
 have x:B≤w.heap.size:=by have:=d.row.lt;have:=d.low;omega
 refine (KH l m d n o ⟨op,num,f, [], []⟩ none 0 none 0 B NLN (World.ownsRow_nil _ _ _ _) (World.ownsRow_nil _ _ _ _) (fun j p q hq e=>by cases e) (fun j p q hq e=>by cases e) (fun q hq e=>by cases hq) i hi).mono ?_;rintro r w' ⟨h1,s,t,u,v⟩;exact ⟨by rw[h1];simp,s,t, [.slice none 0 0], [.slice none 0 0],u,v,EB (fun q hq=>by cases hq)⟩
theorem YT {a h:World}{B b d c:Nat}{T:List Ae}{N:List Nd}{P:List Int}{nd l:Value}{m n:List Value}(s:Ls a b d c T)(t:d < B)(f:FK a B b (.slice (some ⟨d,0,none⟩) T.length c) N P nd l m n)(k:Below a.heap.size a h)(u:N.length+1≤65535)(v:P.length+1≤65535)(K:List ByteArray)(x:Option Addr)(g:Nat)(hu:h.ownsRow a.heap.size 9 1 (.slice x K.length g) K.length (K.map Value.string))(i:Nat)(hi:i < T.length):
  Calls Tryz.prog 79 #[.pointer (some ⟨b,0,none⟩),.agg #[.int .i64 4,.int .i64 0,.string ⟨#[]⟩,.slice x K.length g,.slice none 0 0],.int .i64 (i:Int)] h (L2A B b (.slice (some ⟨d,0,none⟩) T.length c) N [⟨4,0,⟨#[]⟩,K, []⟩] P [(T[i].at_:Int)] nd l m n a):=by
 have o:B≤a.heap.size:=by have:=f.row.lt;have:=f.low;omega
 refine (KH (s.below k) t (f.below k) u v ⟨4,0,⟨#[]⟩,K, []⟩ x g none 0 B NLN (Cx hu o) (World.ownsRow_nil _ _ _ _) (fun j p q hq e=>?_) (fun j p q hq e=>by cases e) (fun q hq e=>by cases hq) i hi).mono ?_
 ·have h1:=(f.nodes.lts.2.1 j p q hq).2;have h2:=(hu.lt q e).1;omega
 ·rintro r w' ⟨h1,w,y,z,A⟩;exact ⟨by rw[h1];simp,w,y, [.slice x K.length g], [.slice none 0 0],z,(Nk.of_all k o).trans A,EB (fun q hq=>by cases hq)⟩
def LvI (T:List Ae) (lo hi:Nat) (p:Pt) (w:World) (gl:Nat) (vi:Value) (wr:World):Prop:=
 ∃ lv:Nat,lv≤5∧vi= .int .i64 (lv:Int)∧G (glv lv) (Gf T lo hi) p∧LvR wr gl∧Below w.heap.size w wr
theorem AbA {w f:World}{B g a:Nat}{op:Int}{t:Ae}{q:Pt}{r nd s h i:Value}{N b:List Nd}{P d:List Int}{k l m c n o:List Value}{a1:Int}(p:a1=((N.length+(Bw q.ex N.length).length - 1 :Nat):Int)∧b=N ++Bw q.ex N.length∧d=P ++E7 q.ex∧n=k ++m∧o=l ++c∧b.length=N.length+q.ex.cnt∧d.length=P.length+q.ex.cnt∧∀ j,(I:j < c.length)→∀ q,c[j].ownBlock=some q→w.heap.size≤q)
  (u:FK f B g r (b ++ [⟨op,0,⟨#[]⟩, [], [a1]⟩]) (d ++ [(t.at_:Int)]) h i (n ++ [.slice none 0 0]) (o ++ [.slice (some ⟨a,0,none⟩) 1 1]))(v:Nk B g nd s w h i f)(J:w.heap.size≤a):
  L2A B g r N (Bw (Pt.un t.at_ op q).ex N.length) P (E7 (Pt.un t.at_ op q).ex) nd s k l w (.returned (.int .i64 (b.length:Int))) f:=by
 obtain ⟨p,x,y,z,A,C,K,E⟩:=p;have F:b ++ [⟨op,0,⟨#[]⟩, [], [a1]⟩]=N ++Bw (Pt.un t.at_ op q).ex N.length:=by
  have e1:a1=((N.length+q.ex.cnt - 1 :Nat):Int):=by rw[p,Al]
  rw[e1,x,Pt.ex,Bw];simp only[zC]
 have H:d ++ [(t.at_:Int)]=P ++E7 (Pt.un t.at_ op q).ex:=by
  rw[y,Pt.ex,E7];simp only[zC]
 refine ⟨by rw[Al,Pt.ex,Ex.cnt,C];congr 2,h,i,m ++ [.slice none 0 0],c ++ [.slice (some ⟨a,0,none⟩) 1 1], ?_,v, ?_⟩
 ·rw[← F,← H];have e1:k ++(m ++ [.slice none 0 0])=n ++ [.slice none 0 0]:=by rw[z];simp
  have e2:l ++(c ++ [.slice (some ⟨a,0,none⟩) 1 1])=o ++ [.slice (some ⟨a,0,none⟩) 1 1]:=by rw[A];simp
  rw[e1,e2];exact u
 ·exact CN E (EB (fun q hq=>by
   have h1:a=q:=by simpa[Value.ownBlock] using hq
   omega))
theorem AaD {B aq aQ c:Nat}{T:List Ae}(ak:aQ < B)(hl:T.length≤4000)(aR:∀ t∈T,t.text.size≤maxLen){lo hi:Nat}(o:hi≤T.length)(cW:lo < hi){p:Pt}(g:G 1 (Gf T lo hi) p)
  (bR:∀ a7 aS p,aS≤T.length→a7≤aS→aS - a7 < hi - lo→G 0 (Gf T a7 aS) p→Pc B aq aQ c T a7 aS p):Pc B aq aQ c T lo hi p:=by
 intro N P nd C al ao w br E X hp;have U:lo < T.length:=by omega
 have bS:see DO T[lo]=false:=by
  obtain ⟨t,r,e,h1,_⟩:=g.head;obtain ⟨_,e1,_⟩:=AX o e;rw[e1];exact h1 (by omega)
 have bT:=Ab (G6 br lo U DO (AB DO) rfl);rw[bS] at bT;have bU:=Ab g;have y:=Ab br;have aE:=Ab bR;have cn:=Ab aR;clear g bR bS br aR;go_enter Tryz.func38,Tryz.ntmps38
 go_wp2_with fail
 refine (Aa bT).mono ?_;rintro r ar ⟨rfl,bV⟩;dsimp only;go_wp2_with fail
 refine (E8 _ 4 6 (.inl ⟨rfl,rfl,rfl⟩) _).mono ?_;rintro r bs ⟨rfl,co⟩;dsimp only;go_wp2_with fail
 refine (E8 _ 5 4 (.inr (.inl ⟨rfl,rfl,rfl⟩)) _).mono ?_;rintro r cX ⟨rfl,cp⟩;dsimp only;go_wp2_with fail
 refine (E8 _ 6 4 (.inr (.inr ⟨rfl,rfl,rfl⟩)) _).mono ?_;rintro r cY ⟨rfl,cq⟩;dsimp only;go_wp2_with fail
 clear co cp cq;obtain ⟨bW,a8⟩:=YS ar;have aT:=Ab (show LvI T lo hi p w (ar.heap.size+5) (.int .i64 0) (lv6 ar) from ⟨0,by omega,rfl,Aa bU,bW,bV.trans (a8.mono bV.size)⟩);clear bW a8 bU;show Code.wp _ _ _ _ (lv6 ar);generalize lv6 ar=cZ at aT ⊢;have aU:ar.heap.size+5=ar.heap.size+1+1+1+1+1:=rfl;rw[aU] at aT;clear aU;obtain ⟨a9,aU⟩:∃ a9,a9=ar.heap.size+1+1+1+1+1:=⟨_,rfl⟩
 rw[← aU] at aT ⊢;clear aU;go_loopw [12,13,63] (fun _ _ bt wr=>LvI T lo hi p w a9 bt wr) (fun _ _ bt _=>5 - (intOf bt).toNat)
 case atStart=>exact Aa aT
 case round=>
  clear aT;obtain ⟨lv,c0,rfl,aV,ba,a⟩:=hrel;by_cases h5:lv < 5
  ·have cr:(lv:Int) < 5:=by omega
   obtain ⟨ct,n,cu,hc,aW⟩:=ba.2 lv h5;have bu:=Ab ba;have bv:=Ab aW;have bb:=Ab aV;clear ba aW aV;have cv:=Ab (FJ 5 lv h5);have bc:=Ab (G6 ((Aa y).below a) lo U DT (AB DT) rfl);cases au:(((lv:Int)== 2) && see DT T[lo])
   ·have bw:=Ab (Ab9 h5 (Aa bb) (fun e t r he=>by
     obtain ⟨_,e1,_⟩:=AX o he;rw[← e1];subst e;simpa using au))
    clear bb;cases h2:((lv:Int)== 2)
    case' false=>clear au
    case' true=>
     rw[h2,z2] at au;rw[au] at bc;clear au;go_wp2_with fail
     refine (Aa bc).mono ?_;rintro r bs ⟨rfl,aF⟩;replace a:=a.trans (aF.mono a.size);replace bv:=Ab ((Aa bv).below aF NLN);replace bu:=Ab ((Aa bu).below aF);clear aF;dsimp only
    all_goals
     go_wp2_with fail
     refine (WP ((Aa y).below a) hl lo hi (by omega) o ct 0 n cu (A9 (mlv lv)) (Aa bv)).mono ?_;rintro r bx ⟨rfl,bX⟩;have ap:=a.trans (bX.mono a.size);have cw:=Ab ((Aa bu).below bX);rcases Aa bw with ⟨l,t,r,op,Y,V,F,ae,bY,bZ,gR,aX⟩ | ⟨b0,aX⟩
     ·have bd:=Ab (show (((T.take hi).drop lo).foldl (CL (A9 (mlv lv))) ⟨false,0,lo,-1⟩).acc=((lo+l.length:Nat):Int) from (aX lo).trans (by omega));rw[Aa bd];obtain ⟨f1,f2,cx⟩:=It o F (by omega);obtain ⟨b1,b,H,bf⟩:=AX o f2;have f:=Ab (Aa aE lo (lo+l.length) Y (by omega) (by omega) (by omega) (by rw[f1];exact bZ));have bg:=Ab (Aa aE (lo+l.length+1) hi V (by omega) (by omega) (by omega) (by rw[H];exact gR));obtain ⟨av,bz⟩:∃ av,av=lo+l.length:=⟨_,rfl⟩
      have Z:=Ab (show ∃ h:av < T.length,T[av]=t from by subst bz;exact ⟨b1,b⟩);have b2:=Ab (Ab3 bY);have bA:=Ab ae;rw[← bz] at f bg bf ⊢;unfold Pc at f bg;simp only[zU,Int.natCast_one] at f bg;have aw:N.length+(Y.ex.cnt+V.ex.cnt+1)≤65535:=by rw[ae] at X;exact X
      have ax:P.length+(Y.ex.cnt+V.ex.cnt+1)≤65535:=by rw[ae] at hp;exact hp
      have c1:(0 :Int)≤(av:Int):=by omega
      have aa:Nk B aq nd C w nd C bx:=Nk.of_all ap (by have:=E.row.lt;have:=E.low;omega);have ab:=E.below ap;have L:=(Aa y).below ap;clear aX F ae bY bZ gR f1 f2 cx b1 b H bw bd bz;dsimp only;go_wp2_with fail
      refine (Aa f N P nd C al ao bx L ab (by omega) (by omega)).mono ?_;rintro r aG ⟨rfl,af,ag,J,K,d,i,j⟩;have ac:=aa.trans i;have aH:=(Aa y).of d ac.low ak;obtain ⟨a1,O⟩:∃ a1:Int,a1=((N.length+(Bw Y.ex N.length).length - 1 :Nat):Int):=⟨_,rfl⟩
      obtain ⟨Q,z⟩:∃ M,M=N ++Bw Y.ex N.length:=⟨_,rfl⟩
      obtain ⟨ah,A⟩:∃ M,M=P ++E7 Y.ex:=⟨_,rfl⟩
      obtain ⟨bh,R⟩:∃ M,M=al ++J:=⟨_,rfl⟩
      obtain ⟨bi,S⟩:∃ M,M=ao ++K:=⟨_,rfl⟩
      rw[← z,← A,← R,← S] at d;rw[← O];have I:Q.length=N.length+Y.ex.cnt:=by rw[z,zB,Al]
      have W:ah.length=P.length+Y.ex.cnt:=by rw[A,zB,Ba]
      have cy:Q.length+(V.ex.cnt+1)≤65535:=by omega
      have cz:ah.length+(V.ex.cnt+1)≤65535:=by omega
      have aB:=Ab (And.intro O (And.intro z (And.intro A (And.intro R (And.intro S (And.intro I (And.intro W j)))))));clear O z A R S I W j aa i ab L;dsimp only;go_wp2_with fail
      refine (Aa bg Q ah af ag bh bi aG aH d (by omega) (by omega)).mono ?_;rintro r bB ⟨rfl,MI,c2,bC,bD,aI,aY,b3⟩;have ay:=ac.trans aY;have bj:=(Aa y).of aI ay.low ak;obtain ⟨a2,aJ⟩:∃ a2:Int,a2=((Q.length+(Bw V.ex Q.length).length - 1 :Nat):Int):=⟨_,rfl⟩
      obtain ⟨bk,aC⟩:∃ M,M=Q ++Bw V.ex Q.length:=⟨_,rfl⟩
      obtain ⟨bE,aD⟩:∃ M,M=ah ++E7 V.ex:=⟨_,rfl⟩
      obtain ⟨cA,aK⟩:∃ M,M=bh ++bC:=⟨_,rfl⟩
      obtain ⟨cB,aL⟩:∃ M,M=bi ++bD:=⟨_,rfl⟩
      rw[← aC,← aD,← aK,← aL] at aI;rw[← aJ];have I:bk.length=Q.length+V.ex.cnt:=by rw[aC,zB,Al]
      have W:bE.length=ah.length+V.ex.cnt:=by rw[aD,zB,Ba]
      have aZ:bk.length+1≤65535:=by omega
      have a0:bE.length+1≤65535:=by omega
      have cC:=Ab (And.intro aJ (And.intro aC (And.intro aD (And.intro aK (And.intro aL (And.intro I (And.intro W (And.intro b3 ac.low.size))))))));clear aJ aC aD aK aL I W b3 ac aY d aH cy cz;obtain ⟨b4,a3⟩:=Aa Z;obtain ⟨aM,a4,q2,q3⟩:=bj.at4 av b4;rw[a3] at q2;have a8:=bj.at0;have c3:(av:Int) < (T.length:Int):=by omega
      clear aM a4 q3 a3;dsimp only;go_wp2_with fail
      obtain ⟨cD,cE,aW,e1,e2,e3⟩:=Aa b2;rw[aW];refine (YP cD cE e1 e2 bB).mono ?_;rintro r az ⟨rfl,bl⟩;have b5:B≤bB.heap.size:=by have:=aI.row.lt;have:=aI.low;omega
      have cF:=aI.below bl;have cG:=bj.below bl;have b6:=ay.trans (Nk.of_all bl b5);rw[← e3];have cH:=Ab (And.intro ay.low.size b6.low.size);clear e1 e2 e3 aW bl aI bj ay q2 a8 b2 b5;dsimp only;go_wp2_with fail
      refine (JN cG ak cF aZ a0 [a1,a2] _ 2 rfl rfl (by unfold maxLen;omega) op av b4).mono ?_;rintro r bF ⟨rfl,bG,bH,ai,aA⟩;have b7:=b6.trans aA;obtain ⟨_,a3⟩:=Aa Z;rw[a3] at ai;obtain ⟨O,z,A,R,S,I,W,b8⟩:=Aa aB;obtain ⟨aJ,aC,aD,aK,aL,b9,cI,ca,cb⟩:=Aa cC;have aN:=ap.size;have m:=Ab (show L2A B aq (.slice (some ⟨aQ,0,none⟩) T.length c) N (Bw p.ex N.length) P (E7 p.ex) nd C al ao w (.returned (.int .i64 (bk.length:Int))) bF from by
       rw[Aa bA];have cJ:bk ++ [⟨op,0,⟨#[]⟩, [], [a1,a2]⟩]=N ++Bw (Pt.bin t.at_ op Y V).ex N.length:=by
        have e1:a1=((N.length+Y.ex.cnt - 1 :Nat):Int):=by rw[O,Al]
        have e2:a2=((N.length+Y.ex.cnt+V.ex.cnt - 1 :Nat):Int):=by rw[aJ,Al,I]
        rw[e1,e2,aC,I,z,Pt.ex,Bw];simp only[zC]
       have cK:bE ++ [(t.at_:Int)]=P ++E7 (Pt.bin t.at_ op Y V).ex:=by
        rw[aD,A,Pt.ex,E7];simp only[zC]
       refine ⟨by rw[Al,Pt.ex,Ex.cnt,b9,I];congr 2;omega,bG,bH,J ++bC ++ [.slice none 0 0],K ++bD ++ [.slice (some ⟨az.heap.size,0,none⟩) 2 2], ?_,b7, ?_⟩
       ·rw[← cJ,← cK];have e1:al ++(J ++bC ++ [.slice none 0 0])=cA ++ [.slice none 0 0]:=by rw[aK,R];simp
        have e2:ao ++(K ++bD ++ [.slice (some ⟨az.heap.size,0,none⟩) 2 2])=cB ++ [.slice (some ⟨az.heap.size,0,none⟩) 2 2]:=by rw[aL,S];simp
        rw[e1,e2];exact ai
       ·exact CN (CN (Bi b8 aN) (Bi ca cb)) (EB (fun q hq=>by
         have h1:az.heap.size=q:=by simpa[Value.ownBlock] using hq
         have:=(Aa cH).2;omega)))
      clear ai aA b7 O z A R S I W b8 aJ aC aD aK aL b9 cI ca cb aN a3;dsimp only;go_wp2_with fail
      go_ret
      exact Aa m
     ·have cL:=Ab (show LvI T lo hi p w a9 (.int .i64 ((lv:Int)+1)) bx from ⟨lv+1,by omega,by rw[zU];rfl,b0,Aa cw,ap⟩);have bd:=Ab (show (((T.take hi).drop lo).foldl (CL (A9 (mlv lv))) ⟨false,0,lo,-1⟩).acc= -1 from aX lo);rw[Aa bd];clear b0 aX bw;dsimp only;go_wp2_with fail
      exact ⟨Aa cL,Aa cv⟩
   ·have cM:lv=2∧see DT T[lo]=true:=by
     simp at au;exact ⟨by omega,au.2⟩
    obtain ⟨bI,bm⟩:=cM;have h2:((lv:Int)== 2)=true:=by rw[bI];rfl
    rw[bm] at bc;obtain ⟨t,r,q,F,ae,ht,a5⟩:∃ t r q,Gf T lo hi=t ::r∧p= .un t.at_ 9 q∧see DT t=true∧G 3 r q:=by
     rcases (show G 3 (Gf T lo hi) p from by have:=Aa bb;rw[bI] at this;exact this).cut3 with h | g
     ·exact h
     ·obtain ⟨t,r,e,_,h4,_⟩:=g.head;obtain ⟨_,e1,_⟩:=AX o e;rw[e1,h4 (by omega)] at bm;cases bm
    obtain ⟨_,b,H,bf⟩:=AX o F;have f:=Ab (Aa aE (lo+1) hi q (by omega) (by omega) (by omega) (by rw[H];exact a5.low (by omega)));unfold Pc at f;simp only[zU,Int.natCast_one] at f;have aw:N.length+(q.ex.cnt+1)≤65535:=by rw[ae] at X;exact X
    have ax:P.length+(q.ex.cnt+1)≤65535:=by rw[ae] at hp;exact hp
    have bA:=Ab ae;have Z:=Ab b;clear au bm F ae ht a5 b H bb bI;go_wp2_with fail
    refine (Aa bc).mono ?_;rintro r bs ⟨rfl,aF⟩;have ap:=a.trans (aF.mono a.size);have aa:Nk B aq nd C w nd C bs:=Nk.of_all ap (by have:=E.row.lt;have:=E.low;omega);have ab:=E.below ap;have L:=(Aa y).below ap;dsimp only;go_wp2_with fail
    refine (Aa f N P nd C al ao _ L ab (by omega) (by omega)).mono ?_;rintro r aG ⟨rfl,af,ag,J,K,d,i,j⟩;have ac:=aa.trans i;have aH:=(Aa y).of d ac.low ak;have aN:=ap.size;obtain ⟨a1,O⟩:∃ a1:Int,a1=((N.length+(Bw q.ex N.length).length - 1 :Nat):Int):=⟨_,rfl⟩
    obtain ⟨Q,z⟩:∃ M,M=N ++Bw q.ex N.length:=⟨_,rfl⟩
    obtain ⟨ah,A⟩:∃ M,M=P ++E7 q.ex:=⟨_,rfl⟩
    obtain ⟨bh,R⟩:∃ M,M=al ++J:=⟨_,rfl⟩
    obtain ⟨bi,S⟩:∃ M,M=ao ++K:=⟨_,rfl⟩
    rw[← z,← A,← R,← S] at d;rw[← O];have I:Q.length=N.length+q.ex.cnt:=by rw[z,zB,Al]
    have W:ah.length=P.length+q.ex.cnt:=by rw[A,zB,Ba]
    have aZ:Q.length+1≤65535:=by omega
    have a0:ah.length+1≤65535:=by omega
    have aB:=Ab (And.intro O (And.intro z (And.intro A (And.intro R (And.intro S (And.intro I (And.intro W (Bi j aN))))))));clear O z A R S I W j aa i ab L;dsimp only;go_wp2_with fail
    refine (JN aH ak d aZ a0 [a1] _ 1 rfl rfl (by unfold maxLen;omega) 9 lo U).mono ?_;rintro r bF ⟨rfl,bG,bH,ai,aA⟩;rw[Aa Z] at ai;have m:=Ab (AbA (Aa aB) ai (ac.trans aA) ac.low.size);rw[← Aa bA] at m;clear ai aA aB;dsimp only;go_wp2_with fail
    go_ret
    exact Aa m
  ·have cr: ¬ ((lv:Int) < 5):=by omega
   have bJ:G 7 (Gf T lo hi) p:=by
    have e:lv=5:=by omega
    rw[e] at aV;exact aV
   clear aV ba h5;rcases bJ.cut7 with ⟨t,r,q,F,ae,ht,a5⟩ | g8
   case' inl=>
    subst ae;obtain ⟨_,b,H,bf⟩:=AX o F;have f:=Ab (Aa aE (lo+1) (hi) q (by omega) (by omega) (by omega) (by rw[H];exact a5.low (by omega)));unfold Pc at f;rw[show ((lo+1 :Nat):Int)=(lo:Int)+1 from by omega] at f;have aw:N.length+(q.ex.cnt+1)≤65535:=X;have ax:P.length+(q.ex.cnt+1)≤65535:=hp;have Z:=Ab b;have a6:=Ab (show see Bd T[lo]=true from by rw[b];exact ht);clear F ht a5 b H bJ X hp
   case' inr=>
    clear bJ;generalize F:Gf T lo hi=c4 at g8;cases g8
    case up=>omega
    case bin=>omega
    case' par t u r ht hu g=>skip
    case' size t u v r q ht hu g cN _=>skip
    case' set t u cs ht hc hu _=>skip
    case' num t ht _=>skip
    case' text t ht _=>skip
    case' name t ht _=>skip
    case' tru t ht _=>skip
    case' fls t ht _=>skip
    all_goals obtain ⟨_,b,H,bf⟩:=AX o F
    case' par=>
     obtain ⟨g1,g2,g3⟩:=It o H (by omega);obtain ⟨_,_,_,g4⟩:=AX o g2;have bK:hi=lo+1+r.length+1:=by
      have:=EP (lo:=lo) o;rw[F] at this;simp at this;omega
     have f:=Ab (Aa aE (lo+1) (hi - 1) p (by omega) (by omega) (by omega) (by rw[show hi - 1=lo+1+r.length from by omega,g1];exact g));unfold Pc at f;rw[show ((lo+1 :Nat):Int)=(lo:Int)+1 from by omega] at f;rw[show ((hi - 1 :Nat):Int)=(hi:Int) - 1 from by omega] at f;have a6:=Ab (show see Bd T[lo]=false from by rw[b];exact Ag ht (by decide));have bn:=Ab (show see AH T[lo]=true from by rw[b];exact ht);have cO:(1 :Int)≤(hi:Int):=by omega
     have cP:=trivial;clear F b H g1 g2 g ht hu bK
    case' size=>
     obtain ⟨_,_,cc,c5⟩:=AX o H;obtain ⟨g1,g2,g3⟩:=It o cc (by omega);obtain ⟨_,_,_,g4⟩:=AX o g2;have bK:hi=lo+2+r.length+1:=by
      have:=EP (lo:=lo) o;rw[F] at this;simp at this;omega
     have f:=Ab (Aa aE (lo+2) (hi - 1) q (by omega) (by omega) (by omega) (by rw[show hi - 1=lo+1+1+r.length from by omega,g1];exact g));unfold Pc at f;rw[show ((lo+2 :Nat):Int)=(lo:Int)+2 from by omega] at f;rw[show ((hi - 1 :Nat):Int)=(hi:Int) - 1 from by omega] at f;have a6:=Ab (show see Bd T[lo]=false from by rw[b];exact Ag ht (by decide));have bn:=Ab (show see AH T[lo]=false from by rw[b];exact Ag ht (by decide));have bL:=Ab (show see Cb T[lo]=true from by rw[b];exact ht);have aw:N.length+(q.ex.cnt+1)≤65535:=X;have ax:P.length+(q.ex.cnt+1)≤65535:=hp;have Z:=Ab b;have cO:(1 :Int)≤(hi:Int):=by omega
     clear F b H cc g1 g2 g ht hu cN bK X hp
    case' set=>
     have bM:Kx (T.drop (lo+1))=IL cs:=by
      rw[MP o (by omega),H,zC,List.cons_append,List.nil_append,PW cs hc u _ hu]
     have bo:=Ab (Qi (T.drop (lo+1)) (fun x hx=>Aa cn x (List.mem_of_mem_drop hx)));rw[bM] at bo;have cQ:(IL cs).length≤4000:=by
      have:=(Aa bo).2;rw[zj] at this;omega
     have Z:=Ab b;have bN:=Ab (fun (w':World) (bO:Below w.heap.size w w')=>Lt ((Aa y).below bO) hl lo U);rw[bM] at bN;have a6:=Ab (show see Bd T[lo]=false from by rw[b];exact Ag ht (by decide));have bn:=Ab (show see AH T[lo]=false from by rw[b];exact Ag ht (by decide));have bL:=Ab (show see Cb T[lo]=false from by rw[b];exact Ag ht (by decide));have cd:=Ab (show see Ch T[lo]=true from by rw[b];exact ht);obtain ⟨M,bP⟩:∃ M,M=IL cs:=⟨_,rfl⟩
     rw[← bP] at bN bo cQ;have cR:=Ab bP;have aw:N.length+1≤65535:=X;have ax:P.length+1≤65535:=hp;have cS:=trivial;clear F b H ht hc hu bM bP X hp
    case' num=>have no:∀ s∈ [Bd,AH,Cb,Ch],see s t=false:=fun s _=>AC (by omega) (by omega)
    case' text=>have no:∀ s∈ [Bd,AH,Cb,Ch],see s t=false:=fun s _=>AC (by omega) (by omega)
    case' name=>have no:∀ s∈ [Bd,AH,Cb,Ch],see s t=false:=fun s _=>AC (by omega) (by omega)
    case' tru=>
     have no:∀ s∈ [Bd,AH,Cb,Ch],see s t=false:=fun s hs=>Ag ht ((show ∀ s∈ [Bd,AH,Cb,Ch],BS≠s by decide) s hs);have aR:t.text=⟨#[116,114,117,101]⟩:=Mu ht;replace ht:=GU ht;rcases ht with ht | ht
    case' fls=>
     have no:∀ s∈ [Bd,AH,Cb,Ch],see s t=false:=fun s hs=>Ag ht ((show ∀ s∈ [Bd,AH,Cb,Ch],Bl≠s by decide) s hs);have aR:t.text=⟨#[102,97,108,115,101]⟩:=Mu ht;replace ht:=GU ht;rcases ht with ht | ht
    all_goals try
     have a6:=Ab (show see Bd T[lo]=false from by rw[b];exact no _ (by decide));have bn:=Ab (show see AH T[lo]=false from by rw[b];exact no _ (by decide));have bL:=Ab (show see Cb T[lo]=false from by rw[b];exact no _ (by decide));have cd:=Ab (show see Ch T[lo]=false from by rw[b];exact no _ (by decide));have aw:N.length+1≤65535:=X;have ax:P.length+1≤65535:=hp;have Z:=Ab b;clear F H no X hp
   all_goals try
    have ad:=a6;go_wp2_with fail
    refine (G8 (Aa y) a lo U Bd _ (Aa ad)).mono ?_;rintro r wc ⟨rfl,aj⟩;replace a:=a.trans (aj.mono a.size);clear aj ad;dsimp only
   all_goals try
    have ad:=bn;go_wp2_with fail
    refine (G8 (Aa y) a lo U AH _ (Aa ad)).mono ?_;rintro r wc ⟨rfl,aj⟩;replace a:=a.trans (aj.mono a.size);clear aj ad;dsimp only
   all_goals try
    have ad:=bL;go_wp2_with fail
    refine (G8 (Aa y) a lo U Cb _ (Aa ad)).mono ?_;rintro r wc ⟨rfl,aj⟩;replace a:=a.trans (aj.mono a.size);clear aj ad;dsimp only
   all_goals try
    have ad:=cd;go_wp2_with fail
    refine (G8 (Aa y) a lo U Ch _ (Aa ad)).mono ?_;rintro r wc ⟨rfl,aj⟩;replace a:=a.trans (aj.mono a.size);clear aj ad;dsimp only
   all_goals
    have aa:Nk B aq nd C w nd C _:=Nk.of_all a (by have:=E.row.lt;have:=E.low;omega);have ab:=E.below a;have L:=(Aa y).below a
   all_goals first
   |clear cP
    go_wp2_with fail
    refine (Aa f N P nd C al ao _ L ab (by omega) (by omega)).mono ?_;rintro r aG ⟨rfl,af,ag,J,K,d,i,j⟩;have m:=Ab (And.intro d (And.intro (aa.trans i) (Bi j a.size)));clear d i j aa ab L;dsimp only;go_wp2_with fail
    go_ret
    exact ⟨rfl,af,ag,J,K,(Aa m).1,(Aa m).2.1,(Aa m).2.2⟩
   |clear cS
    clear aa ab L;go_wp2_with fail
    refine (Aa bN _ a).mono ?_;rintro r aG ⟨⟨c6,c8,rfl,ce⟩,cf⟩;have aO:=a.trans (cf.mono a.size);have cg:=BL.of_owns ce (fun k hk=>by rw[Cw M k hk];exact (Aa bo).1 _ (zP _));clear cf ce;dsimp only;go_wp2_with fail
    refine (EI _ _ _ _ _ cg (by omega)).mono ?_;rintro r bB ⟨cT,c7,ay,rfl,ch,bQ,ci⟩;have c9:=aO.trans (bQ.mono aO.size);have cj:=E.below aO;have ck:=(Aa y).below aO;have aY:Nk B aq nd C w nd C aG:=Nk.of_all aO (by have:=E.row.lt;have:=E.low;omega);have cU:=Ab (Qg ci);clear ci cg;dsimp only;go_wp2_with fail
    refine (YT ck ak cj bQ aw ax ay cT c7 ch lo U).mono ?_;rintro r az ⟨rfl,af,ag,J,K,d,i,j⟩;rw[Aa Z] at d;have m:=Ab (show L2A B aq (.slice (some ⟨aQ,0,none⟩) T.length c) N (Bw (Pt.set t.at_ (IL cs)).ex N.length) P (E7 (Pt.set t.at_ (IL cs)).ex) nd C al ao w (.returned (.int .i64 ((N.length+ [(⟨4,0,⟨#[]⟩,ay, []⟩:Nd)].length - 1 :Nat):Int))) az from by
     have e:Bw (Pt.set t.at_ (IL cs)).ex N.length= [⟨4,0,⟨#[]⟩,ay, []⟩]:=by rw[← Aa cR,Aa cU];rfl
     rw[e];exact ⟨rfl,af,ag,J,K,d,aY.trans i,Bi j aO.size⟩)
    clear d i j aY cj ck ch bQ;dsimp only;go_wp2_with fail
    go_ret
    exact Aa m
   |have ad:=f
    go_wp2_with fail
    refine (Aa f N P nd C al ao _ L ab (by omega) (by omega)).mono ?_;rintro r aG ⟨rfl,af,ag,J,K,d,i,j⟩;have ac:=aa.trans i;have aH:=(Aa y).of d ac.low ak;have aN:=a.size;obtain ⟨a1,O⟩:∃ a1:Int,a1=((N.length+(Bw q.ex N.length).length - 1 :Nat):Int):=⟨_,rfl⟩
    obtain ⟨Q,z⟩:∃ M,M=N ++Bw q.ex N.length:=⟨_,rfl⟩
    obtain ⟨ah,A⟩:∃ M,M=P ++E7 q.ex:=⟨_,rfl⟩
    obtain ⟨bh,R⟩:∃ M,M=al ++J:=⟨_,rfl⟩
    obtain ⟨bi,S⟩:∃ M,M=ao ++K:=⟨_,rfl⟩
    rw[← z,← A,← R,← S] at d;rw[← O];have I:Q.length=N.length+q.ex.cnt:=by rw[z,zB,Al]
    have W:ah.length=P.length+q.ex.cnt:=by rw[A,zB,Ba]
    have aZ:Q.length+1≤65535:=by omega
    have a0:ah.length+1≤65535:=by omega
    have aB:=Ab (And.intro O (And.intro z (And.intro A (And.intro R (And.intro S (And.intro I (And.intro W (Bi j aN))))))));clear O z A R S I W j aa i ab L;dsimp only;go_wp2_with fail
    refine (JN aH ak d aZ a0 [a1] _ 1 rfl rfl (by unfold maxLen;omega) _ lo U).mono ?_;rintro r bF ⟨rfl,bG,bH,ai,aA⟩;rw[Aa Z] at ai;have m:=Ab (AbA (Aa aB) ai (ac.trans aA) ac.low.size);clear ai aA aB;dsimp only;go_wp2_with fail
    go_ret
    exact Aa m
   |obtain ⟨aM,a4,q2,q3⟩:=L.at4 lo U
    have cl:=L.at0;have da:(lo:Int) < (T.length:Int):=by omega
    rw[b] at aM a4 q2 q3;rw[ht] at aM
    try rw[aR] at q2
    clear b ht aa ab L;go_wp2_with fail
    have cm:∀ w',Below w.heap.size w w'→Nk B aq nd C w nd C w':=fun w' bO=>Nk.of_all bO (by have:=E.row.lt;have:=E.low;omega);have aP:=fun (bp:Obj)=>a.alloc a.size bp
    first
    |refine (Pd ((Aa y).below (aP _)) ak (E.below (aP _)) aw ax _ _ _ lo U).mono ?_
     rintro r az ⟨rfl,af,ag,J,K,d,i,j⟩;rw[Aa Z] at d;have m:=Ab (And.intro d (And.intro ((cm _ (aP _)).trans i) (Bi j (aP _).size)));clear d i j aM a4 q2 q3 cl;dsimp only;go_wp2_with fail
     go_ret
     exact ⟨rfl,af,ag,J,K,(Aa m).1,(Aa m).2.1,(Aa m).2.2⟩
    |have bq:=fun (bp cV:Obj)=>(aP bp).alloc (aP bp).size cV
     refine (Pd ((Aa y).below (bq _ _)) ak (E.below (bq _ _)) aw ax _ _ _ lo U).mono ?_;rintro r az ⟨rfl,af,ag,J,K,d,i,j⟩;rw[Aa Z] at d;have m:=Ab (And.intro d (And.intro ((cm _ (bq _ _)).trans i) (Bi j (bq _ _).size)));clear d i j aM a4 q2 q3 cl;dsimp only;go_wp2_with fail
     go_ret
     exact ⟨rfl,af,ag,J,K,(Aa m).1,(Aa m).2.1,(Aa m).2.2⟩
theorem Hj {B l j c:Nat}{T:List Ae}(k:j < B)(hl:T.length≤4000)(m:∀ t∈T,t.text.size≤maxLen):∀ (n lo hi:Nat) (p:Pt),hi - lo≤n→hi≤T.length→lo≤hi→G 0 (Gf T lo hi) p→Pc B l j c T lo hi p
 |n,lo,hi,p,hn,hh,hlo,g=>by
  have q:lo < hi:=by
   obtain ⟨t,r,e,_⟩:=g.head;obtain ⟨_,_,_,h⟩:=AX hh e;exact h
  match n,hn with
  | 0,hn=>omega
  |n+1,hn=>
   have o:∀ i f p,f≤T.length→i≤f→f - i < hi - lo→G 0 (Gf T i f) p→Pc B l j c T i f p:=
    fun i f s h1 h2 h3 w=>Hj k hl m n i f s (by omega) h1 h2 w
   rcases g.cut0 with ⟨t,u,v,a,b,d,x,y,z,hs,rfl,h1,h2,h3,g1,g2,g3⟩ | g
   ·exact YR k hl hh hlo hs h1 h2 h3 g1 g2 g3 o
   ·exact AaD k hl m hh q g o
theorem FW {w w':World}{a f c:Nat}{T:List Ae}(g:Ls w a f c T)(j:Below w.heap.size w w')(i:Nat)(d:Int)(k:d=(i:Int))(hi:i < T.length)(s:List UInt8)(b:Bool)(h:see s T[i]=b):
  Calls Tryz.prog 13 #[.pointer (some ⟨a,0,none⟩),.int .i64 d,.string (AB s)] w' fun r l=>r= .returned (.bool b)∧Below w'.heap.size w' l:=by
 subst k;exact G8 g j i hi s b h
theorem Nk.rowL {B b:Nat}{f nd c i j:Value}{w w':World}{N:List Nd}{P:List Int}{k l:List Value}(h:Nk B b nd c w i j w')(C:FK w B b f N P nd c k l){g:Nat}{cs:Array Value}{t:TypeId}(R:Am w g cs t)(h1:t≠45)(h2:t≠124)(h3:t≠3):Am w' g cs t:=
 ⟨(h.block g R.lt (fun e=>by
  have d:=R.out;have a:=C.row.out;rw[e] at d;rw[d] at a;injection a with a;injection a with _ a;exact h1 a) (Ad R C.nodes.own h2) (Ad R C.places h3)).trans R.out⟩
theorem FK.others {w w':World}{B c:Nat}{i:Value}{N:List Nd}{P:List Int}{nd g:Value}{d f:List Value}(h:FK w B c i N P nd g d f)(X:Nat→Prop)(b:∀ q,X q→q≠c∧nd.ownBlock≠some q∧g.ownBlock≠some q∧(∀ j,(a:j < d.length)→d[j].ownBlock≠some q)∧∀ j,(a:j < f.length)→f[j].ownBlock≠some q)(hk:∀ q,q < w.heap.size→¬ X q→w'.heap[q]? =w.heap[q]?):FK w' B c i N P nd g d f:=
 ⟨⟨(hk c h.row.lt (fun e=>(b _ e).1 rfl)).trans h.row.out⟩,
   h.nodes.upto (fun q hq=>hk q (h.nodes.lts.1 q hq).2 (fun e=>(b q e).2.1 hq)) (fun j a q hq=>hk q (h.nodes.lts.2.1 j a q hq).2 (fun e=>(b q e).2.2.2.1 j a hq)) (fun j a q hq=>hk q (h.nodes.lts.2.2 j a q hq).2 (fun e=>(b q e).2.2.2.2 j a hq)),
   Ac h.places (fun q hq=>hk q (h.places.lt q hq).2 (fun e=>(b q e).2.2.1 hq)),h.apart,h.low⟩
theorem FK.other {w w':World}{B b:Nat}{c:Value}{N:List Nd}{P:List Int}{nd d:Value}{f g:List Value}(h:FK w B b c N P nd d f g){v:Value}{m:Nat}{i:List Value}{lo:Nat}(O:w.ownsRow lo 51 4 v m i)(hk:∀ q,q < w.heap.size→v.ownBlock≠some q→w'.heap[q]? =w.heap[q]?):FK w' B b c N P nd d f g:=
 h.others (fun q=>v.ownBlock=some q) (fun q hq=>⟨fun e=>Ad h.row O (by decide) (by rw[hq,e]),fun e=>Ap O h.nodes.own (by decide) q hq e,fun e=>Ap O h.places (by decide) q hq e,fun j a e=>Ap O (h.nodes.names j (by rw[← h.nodes.len];exact a) a) (by decide) q hq e,fun j a e=>Ap O (h.nodes.kids j (by rw[← h.nodes.lenk];exact a) a) (by decide) q hq e⟩) hk
theorem FK.row_set {w w':World}{B c:Nat}{d:Value}{N:List Nd}{P:List Int}{nd f:Value}{i k:List Value}(h:FK w B c d N P nd f i k){g:Nat}{cs:Array Value}{t:TypeId}(R:Am w g cs t)(h1:t≠45)(h2:t≠124)(h3:t≠3)(h4:t≠9)(hk:∀ q,q≠g→w'.heap[q]? =w.heap[q]?):FK w' B c d N P nd f i k:=
 h.others (fun q=>q=g) (fun q hq=>by
  subst hq;refine ⟨fun e=>?_,Ad R h.nodes.own h2,Ad R h.places h3,fun j b=>Ad R (h.nodes.names j (by rw[← h.nodes.len];exact b) b) h4,fun j b=>Ad R (h.nodes.kids j (by rw[← h.nodes.lenk];exact b) b) h3⟩;have l:=R.out;have a:=h.row.out;rw[e] at l;rw[l] at a;injection a with a;injection a with _ a;exact h1 a) (fun q _ hq=>hk q hq)
theorem Nk.stmL {B a:Nat}{d nd b f g:Value}{w w':World}{N:List Nd}{P:List Int}{i j:List Value}(h:Nk B a nd b w f g w')(C:FK w B a d N P nd b i j){v:Value}{m:Nat}{c:List Value}{lo:Nat}(O:w.ownsRow lo 51 4 v m c):w'.ownsRow lo 51 4 v m c:=
 Ac O (fun q hq=>h.block q (O.lt q hq).2 (fun e=>Ad C.row O (by decide) (by rw[hq,e])) (fun e=>Ap O C.nodes.own (by decide) q hq e) (fun e=>Ap O C.places (by decide) q hq e))
theorem KJ {j:Func}{a u:Tmp}(h:j.results= #[.cell a 51,.tmp u]){c:Array Value}{w:World}{b:Nat}{d f g i e:Value}(k:c.getD a undef= .pointer (some ⟨b,0,none⟩))(hu:c.getD u undef=e)
  (R:Am w b #[d,f,g,i] 51):
  (results j c).run Tryz.prog w= .ok (.tuple #[.agg #[d,f,g,i],e]) w:=by
 rw[yA] at k hu;have l:w.cell? ⟨b,0,none⟩=some d:=R.cell 0;have g1:w.cell? ⟨b,1,none⟩=some f:=R.cell 1;have g2:w.cell? ⟨b,2,none⟩=some g:=R.cell 2;have g3:w.cell? ⟨b,3,none⟩=some i:=R.cell 3;simp[results,h,k,hu,go_sem,l,g1,g2,g3]
structure Qo (B nb:Nat) (tv nd pl:Value) (w:World) (N:List Nd) (P:List Int) (nd' pl':Value) (nv kv:List Value) (v0 v1 v2 v3:Value) (w':World):Prop where
 C:FK w' B nb tv N P nd' pl' nv kv
 K:Nk B nb nd pl w nd' pl' w'
 R:Am w' w.heap.size #[.int .i64 0,.string ⟨#[]⟩,.int .i64 0,.int .i64 0] 51
 S:Am w' (w.heap.size+1) #[v0,v1,v2,v3] 51
theorem Qo.start {B b:Nat}{c nd a:Value}{w:World}{N:List Nd}{P:List Int}{d f:List Value}(C:FK w B b c N P nd a d f):Qo B b c nd a w N P nd a d f (.int .i64 0) (.string ⟨#[]⟩) (.int .i64 (-1)) (.int .i64 (-1)) ((w.alloc (.cells #[.int .i64 0,.string ⟨#[]⟩,.int .i64 0,.int .i64 0] 51)).alloc (.cells #[.int .i64 0,.string ⟨#[]⟩,.int .i64 (-1),.int .i64 (-1)] 51)):=by
 have j:B≤w.heap.size:=by have:=C.row.lt;have:=C.low;omega
 have g:=(Below.refl w.heap.size w).alloc NLN (.cells #[.int .i64 0,.string ⟨#[]⟩,.int .i64 0,.int .i64 0] 51);have h:=g.alloc g.size (.cells #[.int .i64 0,.string ⟨#[]⟩,.int .i64 (-1),.int .i64 (-1)] 51);have i:=Am.new (w.alloc (.cells #[.int .i64 0,.string ⟨#[]⟩,.int .i64 0,.int .i64 0] 51)) #[.int .i64 0,.string ⟨#[]⟩,.int .i64 (-1),.int .i64 (-1)] 51;simp only[World.size_alloc] at i;exact ⟨C.below h,Nk.of_all h j,(Am.new w #[.int .i64 0,.string ⟨#[]⟩,.int .i64 0,.int .i64 0] 51).alloc _,i⟩
theorem Qo.below {B c:Nat}{d nd f g i:Value}{w b j:World}{N:List Nd}{P:List Int}{k l:List Value}{m n o p:Value}(h:Qo B c d nd f w N P g i k l m n o p b)(a:Below b.heap.size b j):Qo B c d nd f w N P g i k l m n o p j:=
 ⟨h.C.below a,h.K.trans (Nk.of_all a (by have:=h.C.row.lt;have:=h.C.low;omega)),h.R.after a NLN,h.S.after a NLN⟩
theorem Qo.call {B a:Nat}{b nd i j k c d:Value}{w l f:World}{N m:List Nd}{P n:List Int}{u v o p:List Value}{q r s t:Value}(h:Qo B a b nd i w N P j k u v q r s t l)(x:FK f B a b m n c d o p)(g:Nk B a j k l c d f):Qo B a b nd i w m n c d o p q r s t f:=
 ⟨x,h.K.trans g,g.rowL h.C h.R (by decide) (by decide) (by decide),g.rowL h.C h.S (by decide) (by decide) (by decide)⟩
theorem Nk.setNew {B a:Nat}{nd b c d:Value}{w w':World}(h:Nk B a nd b w c d w')(f:B≤w.heap.size){p:Addr}(hp:w.heap.size≤p.block)(u:Value):Nk B a nd b w c d (w'.setCell p u):=
 ⟨h.low.setCell (zL f hp) u,fun k h1 h2 h3 h4=>(heap_setCell_other w' p k u (by omega)).trans (h.block k h1 h2 h3 h4),h.newN,h.newP⟩
theorem Qo.set {B b:Nat}{c nd d f g:Value}{w a:World}{N:List Nd}{P:List Int}{i k:List Value}{l m n o r s t v:Value}(h:Qo B b c nd d w N P f g i k l m n o a)(x:B≤w.heap.size)(j:Nat)(u:Value)(hu: #[l,m,n,o].setIfInBounds j u= #[r,s,t,v]):Qo B b c nd d w N P f g i k r s t v (a.setCell ⟨w.heap.size+1,j,none⟩ u):=
 ⟨h.C.row_set h.S (by decide) (by decide) (by decide) (by decide) (fun q hq=>heap_setCell_other a ⟨w.heap.size+1,j,none⟩ q u hq),h.K.setNew x (z5 _) u,h.R.setFar (p:=⟨w.heap.size+1,j,none⟩) (by simp) u,by have:=h.S.set j u;rw[hu] at this;exact this⟩
theorem Qo.row4 {B b:Nat}{k nd l c m:Value}{w a:World}{N:List Nd}{P:List Int}{n o:List Value}{d f g i:Value}(h:Qo B b k nd l w N P c m n o d f g i a):a.cell? ⟨w.heap.size+1,0,none⟩=some d∧a.cell? ⟨w.heap.size+1,1,none⟩=some f∧a.cell? ⟨w.heap.size+1,2,none⟩=some g∧a.cell? ⟨w.heap.size+1,3,none⟩=some i∧(∀ j,a.frozen? ⟨w.heap.size+1,j,none⟩=false)∧(∀ j,a.frozen? ⟨w.heap.size,j,none⟩=false)∧a.cell? ⟨b,1,none⟩=some c∧(a.cell? ⟨w.heap.size,0,none⟩=some (.int .i64 0)∧a.cell? ⟨w.heap.size,1,none⟩=some (.string ⟨#[]⟩)∧a.cell? ⟨w.heap.size,2,none⟩=some (.int .i64 0)∧a.cell? ⟨w.heap.size,3,none⟩=some (.int .i64 0)):=
 ⟨h.S.cell 0,h.S.cell 1,h.S.cell 2,h.S.cell 3,fun j=>h.S.frozen j,fun j=>h.R.frozen j,h.C.row.cell 1,h.R.cell 0,h.R.cell 1,h.R.cell 2,h.R.cell 3⟩
theorem Qo.done {B i:Nat}{l nd m j k:Value}{w f:World}{N:List Nd}{P:List Int}{n o:List Value}{a b c d:Value}(h:Qo B i l nd m w N P j k n o a b c d f)(g:B≤w.heap.size):Am (CC f w.heap.size a b c d) w.heap.size #[a,b,c,d] 51∧FK (CC f w.heap.size a b c d) B i l N P j k n o∧Nk B i nd m w j k (CC f w.heap.size a b c d):=
 ⟨AI h.R a b c d,h.C.row_set h.R (by decide) (by decide) (by decide) (by decide) (fun q hq=>I8 f w.heap.size q a b c d hq),(((h.K.setNew g (p:=⟨w.heap.size,0,none⟩) NLN a).setNew g (p:=⟨w.heap.size,1,none⟩) NLN b).setNew g (p:=⟨w.heap.size,2,none⟩) NLN c).setNew g (p:=⟨w.heap.size,3,none⟩) NLN d⟩
theorem VL {T:List Ae}{lo hi k:Nat}(a:hi≤T.length)(h1:lo≤k)(h2:k < hi):T[k]'(by omega)∈Gf T lo hi:=by
 have e:(Gf T lo hi)[k - lo]'(by rw[EP a];omega)=T[k]'(by omega):=by
  simp only[Gf,List.getElem_drop,List.getElem_take]
  congr 1
  omega
 rw[← e];exact zP _
end Go.Proofs.YtffkofkjpckmpaaGreatDoor
