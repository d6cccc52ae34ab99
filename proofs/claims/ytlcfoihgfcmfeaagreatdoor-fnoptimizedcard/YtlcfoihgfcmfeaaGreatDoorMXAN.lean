import Derived.Test.YtlcfoihgfcmfeaaGreatDoorMXAB
import Derived.Stop.Asserts
import Derived.RowKitTokens
open Option renaming none->V,some->Z
open List renaming length->Y
open Array renaming size->R
open Go renaming World->jD,Value->jF,Addr->jH,TypeId->jR
open Bool renaming true->jG,false->jI
namespace Go.Proofs.YtlcfoihgfcmfeaaGreatDoor
open Proofs.Tryz
open Value renaming int->T,slice->X,string->jA,iface->jJ,pointer->jQ,tuple->jS,nilIface->jT
open IntKind renaming i64->U
open World renaming heap->Q,cell?->jE,ownsRow->jP
open Ending renaming returned->jN
open Addr renaming block->jW
open Proofs.Tryz renaming prog->jZ
open Go.RowKit
set_option maxHeartbeats 1600000
variable{first c:Bool}{s b:M1}{x a:Int}{p:Int×Int}{l K:M6}{B:Nat}{w w':jD}
def okB(first:Bool)(s x:M1):Bool:=first||sl s x
structure Dk(aE:M6)(first:Bool)(s best:M1)(found:Bool):Prop where
 yes:found=jG->best∈aE/\okB first s best=jG/\∀x∈aE,okB first s x=jG->sl x best=jI
 no:found=jI->∀x∈aE,okB first s x=jI
theorem Dk.start(first:Bool)(s a:M1):Dk [] first s a jI:=⟨(λh=>O6),(λ_ x hx=>Q4)⟩
theorem Dk.skip{a:M6}{x:M1}(h:Dk a first s b c)(hx:okB first s x=jI):Dk (a++[x]) first s b c:=by refine⟨λhf=>?_,λhf y hy=>?_⟩;all_goals grind[Dk.yes,Dk.no]
theorem Dk.aV{b:M6}{a x:M1}(h:Dk b first s a jG)(hx:sl x a=jI):Dk (b++[x]) first s a jG:=by obtain⟨h1,h2,h3⟩:=h.yes rfl;refine⟨λ_=>⟨z3 _ h1,h2,λy hy c=>?_⟩,λhf=>by cases hf⟩;grind
theorem Dk.take{b:M6}{c x:M1}{a:Bool}(h:Dk b first s c a)(hx:okB first s x=jG)(f:a=jG->sl x c=jG):Dk (b++[x]) first s x jG:=by
 refine⟨λ_=>⟨Oz,hx,λy hy d=>?_⟩,λhf=>by cases hf⟩;obtain hy|hy:=zJ.1 hy
 .cases a with|false=>grind[Dk.no]|true=>have h3:=(h.yes rfl).2.2 y hy d;grind[Kb]
 grind[Ep]
theorem Akg(first:Bool)(s x:M1)(hf:first=jI)(h:(Op.bytesLess x.toList s.toList||x.toList==s.toList)=jG):okB first s x=jI:=by
 subst hf;simp only[okB,Bool.false_or];rw[Z0]at h;obtain h|h:=h
 .exact Y8 h
 have:x=s:=(Hu x s).1 h;grind[Ep]
theorem AlU(first:Bool)(s x:M1)(h:(Op.bytesLess x.toList s.toList||x.toList==s.toList)=jI):okB first s x=jG:=by grind[eqS,VN,Hu,sl,okB]
def Akh(ss:M6)(first:Bool)(s:M1)(e:Ending):Prop:=∃best found,e=jN (jS #[jA best,.bool found])/\Dk ss first s best found
theorem SB(a:M3)(n c:Nat)(ss:M6)(s:M1)(first:Bool)(w:jD)(h:Am w a n c ss):Calls jZ 186 #[X a n c,jA s,.bool first] w λe w'=>Akh ss first s e/\w'=w:=by
 have u:n<=9223372036854775807:=P5;have p:=Ab h.len;go_enter func186,ntmps186;go_wp2;go_loop[8,9,11,14] (λb f _ i=>∃ (k:Nat) (l:M1) (d:Bool),k<=n/\i=T U k/\b=jA l/\f=.bool d/\Dk (ss.take k) first s l d) (λ_ _ _ i=>n-(intOf i).toNat);case atStart=>exact⟨0,_,jI,zH _,rfl,rfl,rfl,Dk.start _ _ _⟩
 obtain⟨k,l,d,v,rfl,rfl,rfl,hi⟩:=hrel;by_cases r:k<n
 .obtain⟨b,x,t,_,hc⟩:=h.cells k r;subst t;have g:=Ab<|Do ss k<|G7<|Aa p;cases q:(Op.bytesLess (AB ss k).toList s.toList||(AB ss k).toList==s.toList)
  .have o:=AlU first s (AB ss k) q;have j:=Ab o;cases d
   .cases first;all_goals
     go_wp2;go_round;case rel=>exact⟨k+1,_,jG,Oa,O0,rfl,rfl,by rw[Aa g];exact hi.take (Aa j) λh=>O6⟩
     simp[intOf];omega
   cases m:Op.bytesLess (AB ss k).toList l.toList
   .cases first;all_goals
     go_wp2;go_round;case rel=>exact⟨k+1,_,jG,Oa,O0,rfl,rfl,by rw[Aa g];exact hi.aV m⟩
     simp[intOf];omega
   cases first;all_goals
    go_wp2;go_round;case rel=>exact⟨k+1,_,jG,Oa,O0,rfl,rfl,by rw[Aa g];exact hi.take (Aa j) λ_=>m⟩
    simp[intOf];omega
  cases first
  .have j:=Ab<|Akg jI s (AB ss k) rfl q;go_wp2;go_round;case rel=>exact⟨k+1,_,d,Oa,O0,rfl,rfl,by rw[Aa g];exact hi.skip<|Aa j⟩
   simp[intOf];omega
  have o:okB jG s (AB ss k)=jG:=rfl;have j:=Ab o;cases d
  .go_wp2;go_round;case rel=>exact⟨k+1,_,jG,Oa,O0,rfl,rfl,by rw[Aa g];exact hi.take (Aa j) λh=>O6⟩
   simp[intOf];omega
  cases m:Op.bytesLess (AB ss k).toList l.toList
  .go_wp2;go_round;case rel=>exact⟨k+1,_,jG,Oa,O0,rfl,rfl,by rw[Aa g];exact hi.aV m⟩
   simp[intOf];omega
  go_wp2;go_round;case rel=>exact⟨k+1,_,jG,Oa,O0,rfl,rfl,by rw[Aa g];exact hi.take (Aa j) λ_=>m⟩
  simp[intOf];omega
 have e1:ss.take k=ss:=zh<|G7<|Aa p;rw[e1]at hi;go_wp2;go_ret2;exact⟨⟨l,d,rfl,hi⟩,rfl⟩
theorem SC{K:M6}(h:Ch K=jG):K.Nodup:=by grind[Ch,Ep,List.Pairwise.imp]
theorem SD:∀(K l:M6),K.Nodup->(∀x∈K,x∈l)->Y K<=Y l
 |[],_,_,_=>zH _|x::K,l,hn,hs=>by
  obtain⟨l1,l2,rfl⟩:=List.append_of_mem<|hs x Oz;rw[List.nodup_cons]at hn;have:=SD K (l1++l2) hn.2 (λy hy=>by
   have a:y≠x:=λe=>hn.1 (by rw[<-e];exact hy);have hm:=hs y (by simp[hy]);simp only[zJ,zS]at hm|-;obtain h|h|h:=hm
   .exact .inl h
   .exact K4 h a
   exact .inr h);simp only[zC,List.length_cons]at this|-;omega
theorem Pq:∀(K M:M6),Ch K=jG->Ch M=jG->(∀x,x∈K↔x∈M)->K=M
 |[],[],_,_,_=>rfl|[],y::M,_,_,h=>by have:=(h y).2 Oz;cases this|x::K,[],_,_,h=>by have:=(h x).1 Oz;cases this|x::K,y::M,hK,hM,h=>by
  rw[Ch,zO,List.pairwise_cons]at hK hM;have a:x=y:=by
   obtain e|hx:=zS.1<|(h x).1 Oz
   .exact e
   obtain e|hy:=zS.1 ((h y).2 Oz);all_goals grind[Y8]
  subst a;congr 1;refine Pq K M (by rw[Ch,zO];exact hK.2) (by rw[Ch,zO];exact hM.2) λz=>?_;grind[Ep]
structure Bl(l K:M6):Prop where
 dB:Ch K=jG
 mem:∀x,x∈K↔x∈l
theorem Bl.aM{M:M6}(h:Bl l K)(k:Bl l M):K=M:=Pq K M h.dB k.dB λx=>(h.mem x).trans (k.mem x).symm
theorem Bl.len(h:Bl l K):Y K<=Y l:=SD K l (SC h.dB) λx hx=>(h.mem x).1 hx
structure Wm(l K:M6)(s:M1)(ok:Bool):Prop where
 dB:Ch K=jG
 yes:ok=jG->s∈l/\∀x,x∈K↔x∈l/\sl x s=jG
 no:ok=jI->∀x,x∈K↔x∈l
theorem Wm.start{t s:M1}(h:Dk l jG t s first):Wm l [] s first:=by
 refine⟨rfl,λa=>⟨(h.yes a).1,λx=>⟨(λhx=>Q4),λ⟨hx,b⟩=>?_⟩⟩,λa x=>⟨(λhx=>Q4),λhx=>?_⟩⟩
 .have:=(h.yes a).2.2 x hx rfl;grind
 have:=h.no a x hx;cases this
theorem Zc(x s:M1):sl x s=jG\/x=s\/sl s x=jG:=by grind[VN,sl]
theorem Wm.step(h:Wm l K s jG)(k:Dk l jI s b first):Wm l (K++[s]) b first:=by
 obtain⟨hs,hm⟩:=h.yes rfl;have c:Ch (K++[s])=jG:=by rw[Ch,zO,List.pairwise_append];refine⟨by have:=h.dB;rwa[Ch,zO]at this,Oz,λx hx y hy=>?_⟩;grind
 refine⟨c,λa=>?_,λa=>?_⟩
 .obtain⟨h1,h2,h3⟩:=k.yes a;grind[Kb,sl,okB,Zc]
 intro x;constructor
 .grind
 intro hx;obtain hc|hc|hc:=Zc x s
 .grind
 .grind
 have:=k.no a x hx;grind[okB]
theorem Wm.lt(h:Wm l K s jG):Y K<Y l:=by
 obtain⟨hs,hm⟩:=h.yes rfl;have a:s ∉ K:=λb=>by have:=((hm s).1 b).2;rw[Ep]at this;cases this
 have:=SD (s::K) l (List.nodup_cons.2 ⟨a,SC h.dB⟩) (λx hx=>by
  obtain e|hx:=zS.1 hx
  .subst e;exact hs
  exact((hm x).1 hx).1);simp only[List.length_cons]at this;omega
def Gq:jF->Nat|X _ n _=>n|_=>0
theorem Wn(h:Bl l K)(hs:∀j,j<Y l->(AB l j).size<=maxLen):∀j,j<Y K->(AB K j).size<=maxLen:=by
 intro j a;have hm:AB K j∈l:=by grind[Dw,Bl.mem,zI]
 grind[M5]
def Aki(w:jD)(ss:M6)(e:Ending)(w':jD):Prop:=∃x cx K,e=jN (X x (Y K) cx)/\jP w' (R<|Q w) 9 1 (X x (Y K) cx) (Y K) (K.map Value.string)/\Ak w w'/\Bl ss K
theorem IU(a:M3)(n c:Nat)(ss:M6)(w:jD)(h:Am w a n c ss)(N:n<=1048576):Calls jZ 162 #[X a n c] w λe w'=>Aki w ss e w':=by
 obtain⟨i,hi,o,p,r⟩:=info_parts Gd;have y:=Ab h.len;go_enter func162,ntmps162;go_wp2_with fail;refine(SB _ _ _ _ _ _ _ h).mono ?_;rintro e l ⟨⟨z,A,rfl,d⟩,B⟩;rw[B];have C:=Wm.start d;go_wp2_with fail;go_loopw[3,4,5] (λv s ok wr=>∃ (K:M6) (t:M1) (q:Bool) (x:M3) (b:Nat),s=jA t/\ok=.bool q/\v=X x (Y K) b/\jP wr (R<|Q w) 9 1 (X x (Y K) b) (Y K) (K.map Value.string)/\Wm ss K t q/\Ak w wr) (λv _ _ _=>n-Gq v);case atStart=>exact⟨[],z,A,V,0,rfl,rfl,rfl,G8,C,BRN⟩
 obtain⟨K,t,q,x,b,rfl,rfl,rfl,f,hu,g⟩:=hrel;cases q
 .go_wp2;go_ret;exact⟨x,b,K,rfl,f,g,⟨hu.dB,hu.no rfl⟩⟩
 have O:Y K<n:=by have:=hu.lt;have:=Aa y;omega
 have D:=g.size;go_wp2_with (at_builtin;refine J7 _ rfl _ _ 31 rfl (R<|Q w) 9 i (jA ByteArray.empty) 1 16 underlying31 hi o p r rfl Ob _ _ _ rfl (f.alloc _) ⟨R<|Q wr,0,V⟩ 1 1 [jA t] rfl rfl ?c1 ?c2 ?c3 ?c4 ?c5 ?_);case c1=>exact L4 _ _ _
 case c2=>intro u hu;simp at hu;subst hu;rfl
 case c3=>unfold maxLen;omega
 case c4=>omega
 case c5=>simp;omega
 intro v' l j E _;have m:Ak w l:=(g.alloc D _).grown E Od λk F=>(f.lt k F).1;obtain⟨G,H,hf⟩:=AG j;rw[hf]at j|-;go_wp2_with fail;refine(SB _ _ _ _ _ _ _<|h.below m NLN).mono ?_;rintro e w2 ⟨⟨I,J,rfl,d⟩,L⟩;rw[L];have M:=hu.step d;go_wp2;go_roundw;case rel=>exact⟨K++[t],I,J,G,H,rfl,rfl,by rw[zC];rfl,by rw[zN,zC];exact j,M,m⟩
 simp[Gq];omega
section
open Go.RowKit Go.Extern.Stop Go.Stop Go.Extern
theorem WS(v:jF)(w:jD):(Extern.ReflectliteType.typeOf #[jJ 313 v]).run jZ w=.ok (jJ 252<|.agg #[jQ<|Z ⟨10,313,V⟩]) w:=Ok
def Afh:jR->Sem jF:=λt=>do Go.Extern.Rtype.noPackHeld "Comparable" t;pure (.bool (<-typeInfo t).comparable)
theorem Mq(w:jD):((Extern.ReflectliteType.method Afh) #[.agg #[jQ<|Z ⟨10,313,V⟩]]).run jZ w=.ok (.bool jG) w:=Ok
theorem Gg(v:jF)(w:jD):(Go.method 454 252 v "Comparable").run jZ w=.ok (240,v) w:=Ok
theorem Aff:(jZ.info? 313).map (·.comparable)=Z jG:=Ok
theorem Afg:(jZ.info? 342).map (·.size)=Z 1:=Ok
theorem Amn(v:jF)(a:jR)(w:jD):(Instr.typeAssert (jJ 313 v) a 254 jG).run jZ w=.ok (jS #[jT,.bool jI]) w:=run_typeAssert_lacksB underlying254 Ok Ok v a w
theorem Adl(v:jF)(a:jR)(w:jD):(Instr.typeAssert (jJ 313 v) a 257 jG).run jZ w=.ok (jS #[jT,.bool jI]) w:=run_typeAssert_lacksB underlying257 Ok Ok v a w
theorem ZL(v:jF)(a:jR)(w:jD):(Instr.typeAssert (jJ 313 v) a 259 jG).run jZ w=.ok (jS #[jT,.bool jI]) w:=run_typeAssert_lacksB underlying259 Ok Ok v a w
end
section
structure Cx(w:jD)(aS aO aZ aW:jH):Prop where
 g0:jE w ⟨1,0,V⟩=Z (jJ 313<|jQ<|Z aS)g1:jE w ⟨2,0,V⟩=Z (jJ 313<|jQ<|Z aO)g2:jE w ⟨3,0,V⟩=Z (jJ 313<|jQ<|Z aZ)g3:jE w ⟨4,0,V⟩=Z (jJ 313<|jQ<|Z aW)big:5<=R (Q w)rS:∃c t,(Q w)[jW aS]?=Z (.cells c t (0,0))rO:∃c t,(Q w)[jW aO]?=Z (.cells c t (0,0))rZ:∃c t,(Q w)[jW aZ]?=Z (.cells c t (0,0))rW:∃c t,(Q w)[jW aW]?=Z (.cells c t (0,0))nSO:aS≠aO
 nSZ:aS≠aZ
 nSW:aS≠aW
 nOZ:aO≠aZ
 nOW:aO≠aW
 nZW:aZ≠aW
theorem KU{a:jH}(h:∃c t,(Q w)[jW a]?=Z (.cells c t (0,0)))(b:Below B w w')(hB:R (Q w)<=B):∃c t,(Q w')[jW a]?=Z (.cells c t (0,0)):=by grind[Go.RowKit.Below.block,yG]
theorem Cx.below{aS aO aZ aW:jH}(h:Cx w aS aO aZ aW)(a:Below B w w')(hB:R (Q w)<=B):Cx w' aS aO aZ aW where
 g0:=(a.cell (p:=⟨1,0,V⟩)<|by have:=h.big;show 1<B;omega).trans h.g0
 g1:=(a.cell (p:=⟨2,0,V⟩)<|by have:=h.big;show 2<B;omega).trans h.g1
 g2:=(a.cell (p:=⟨3,0,V⟩)<|by have:=h.big;show 3<B;omega).trans h.g2
 g3:=(a.cell (p:=⟨4,0,V⟩)<|by have:=h.big;show 4<B;omega).trans h.g3
 big:=zB h.big a.size
 rS:=KU h.rS a hB
 rO:=KU h.rO a hB
 rZ:=KU h.rZ a hB
 rW:=KU h.rW a hB
 nSO:=h.nSO
 nSZ:=h.nSZ
 nSW:=h.nSW
 nOZ:=h.nOZ
 nOW:=h.nOW
 nZW:=h.nZW
variable{aS aO aZ aW:jH}
def Ml(aS aO aZ aW:jH)(c:Int):jF:=if c=0 then jT else if c=1 then jJ 313 (jQ<|Z aO)else if c=2 then jJ 313 (jQ<|Z aZ)else if c=3 then jJ 313 (jQ<|Z aW)else jJ 313 (jQ<|Z aS)
end
section
variable{aS aO aZ aW:jH}
end
theorem PG(h1:-9223372036854775808<=x)(h2:x<=9223372036854775807):wrap64 x=x:=by unfold wrap64;omega
theorem ZF(x:Int):-9223372036854775808<=wrap64 x/\wrap64 x<=9223372036854775807:=by unfold wrap64;omega
theorem Ae7(x:Int):∃k:Int,wrap64 x=x+k*18446744073709551616:=⟨-((x+9223372036854775808)/18446744073709551616),by unfold wrap64;omega⟩
theorem Qa(h1:-9223372036854775808<=x)(h2:x<=9223372036854775807)(h0:a≠0)(hm:a≠-1\/x≠-9223372036854775808):-9223372036854775808<=x.tdiv a/\x.tdiv a<=9223372036854775807:=by
 have b:(x.tdiv a).natAbs<=x.natAbs:=by rw[Int.natAbs_tdiv];exact Nat.div_le_self _ _
 have he:=Int.mul_tdiv_add_tmod x a;have c:(x.tmod a).natAbs<a.natAbs:=by rw[Int.natAbs_tmod];exact Nat.mod_lt _ Oa
 refine⟨Oa,?_⟩;by_cases e:x.tdiv a=9223372036854775808;all_goals grind
theorem AkO{a b:Int}(h0:a≠0)(c:-9223372036854775808<=b)(d:b<=9223372036854775807)(h1:-9223372036854775808<=a*b)(h2:a*b<=9223372036854775807):(wrap64 ((wrap64<|a*b).tdiv a)!=b)=jI/\wrap64 (a*b)=a*b:=by simp_all[PG]
theorem Ail{a b:Int}(g:-9223372036854775808<=a)(i:a<=9223372036854775807)(h0:a≠0)(hm:a≠-1)(h:a*b< -9223372036854775808\/9223372036854775807<a*b):(wrap64 ((wrap64<|a*b).tdiv a)!=b)=jG:=by
 obtain⟨c,r2⟩:=ZF<|a*b;obtain⟨k,j⟩:=Ae7<|a*b;generalize wrap64 (a*b)=x at*;obtain⟨d,f⟩:=Qa c r2 h0<|.inl hm;rw[PG d f];have he:=Int.mul_tdiv_add_tmod x a;have l:(x.tmod a).natAbs<a.natAbs:=by rw[Int.natAbs_tmod];exact Nat.mod_lt _ Oa
 grind
section
structure Cf(a:Int):Prop where
 lo:-9223372036854775808<=a
 hi:a<=9223372036854775807
variable{aS aO aZ aW:jH}
def GO(v:Int):Int×Int:=if-9223372036854775808<=v/\v<=9223372036854775807 then (v,0)else (0,1)
theorem DM{v:Int}(h1:-9223372036854775808<=v)(h2:v<=9223372036854775807):GO v=(v,0):=K1 ⟨h1,h2⟩
theorem JH{v:Int}(h:v< -9223372036854775808\/9223372036854775807<v):GO v=(0,1):=K0 Oa
def Ey(aS aO aZ aW:jH)(p:Int×Int):jF:=jS #[T U p.1,Ml aS aO aZ aW p.2]
theorem DN{v:Int}(h:p=(v,0)):jN (jS #[T U v,jT])=jN (Ey aS aO aZ aW p):=by subst h;rfl
theorem Iq(h:p=(0,1)):jN (jS #[T U 0,jJ 313<|jQ<|Z aO])=jN (Ey aS aO aZ aW p):=by subst h;rfl
theorem WK(h:p=(0,2)):jN (jS #[T U 0,jJ 313<|jQ<|Z aZ])=jN (Ey aS aO aZ aW p):=by subst h;rfl
theorem Adk(h:p=(0,4)):jN (jS #[T U 0,jJ 313<|jQ<|Z aS])=jN (Ey aS aO aZ aW p):=by subst h;rfl
theorem Aim(a b:Int)(w:jD)(hs:Cx w aS aO aZ aW)(c:Cf a)(d:Cf b):Calls jZ 193 #[T U a,T U b] w λe w'=>e=jN (Ey aS aO aZ aW<|GO<|a+b)/\Ak w w':=by
 obtain⟨g,h⟩:=c;obtain⟨i,j⟩:=d;have hg:=hs.g1;by_cases h0:0<b
 .by_cases h1:9223372036854775807-b<a
  .go_enter func193,ntmps193;go_wp2;go_quiet (fail);go_wp2;go_ret2;exact⟨Iq<|JH Oa,below_drewN BRN _⟩
  have f:a<=9223372036854775807-b:=Oa;have h2:¬ b<0:=Oa;go_enter func193,ntmps193;go_wp2;go_ret2;exact⟨DN<|DM Oa Oa,BRN⟩
 have k:b<=0:=Oa;by_cases h2:b<0
 .by_cases h1:a< -9223372036854775808-b
  .go_enter func193,ntmps193;go_wp2;go_quiet (fail);go_wp2;go_ret2;exact⟨Iq<|JH Oa,below_drewN BRN _⟩
  have f:-9223372036854775808-b<=a:=Oa;go_enter func193,ntmps193;go_wp2;go_ret2;exact⟨DN<|DM Oa Oa,BRN⟩
 have e:b=0:=Oa;subst e;go_enter func193,ntmps193;go_wp2;go_ret2;exact⟨DN (by rw[DM]<;>first|omega|simp),BRN⟩
theorem Mn(a b:Int)(w:jD)(hs:Cx w aS aO aZ aW)(c:Cf a)(d:Cf b):Calls jZ 194 #[T U a,T U b] w λe w'=>e=jN (Ey aS aO aZ aW<|GO<|a-b)/\Ak w w':=by
 obtain⟨g,h⟩:=c;obtain⟨i,j⟩:=d;have hg:=hs.g1;by_cases h0:b<0
 .by_cases h1:9223372036854775807+b<a
  .go_enter func194,ntmps194;go_wp2;go_quiet (fail);go_wp2;go_ret2;exact⟨Iq<|JH Oa,below_drewN BRN _⟩
  have f:a<=9223372036854775807+b:=Oa;have h2:¬ 0<b:=Oa;go_enter func194,ntmps194;go_wp2;go_ret2;exact⟨DN<|DM Oa Oa,BRN⟩
 have k:0<=b:=Oa;by_cases h2:0<b
 .by_cases h1:a< -9223372036854775808+b
  .go_enter func194,ntmps194;go_wp2;go_quiet (fail);go_wp2;go_ret2;exact⟨Iq<|JH Oa,below_drewN BRN _⟩
  have f:-9223372036854775808+b<=a:=Oa;go_enter func194,ntmps194;go_wp2;go_ret2;exact⟨DN<|DM Oa Oa,BRN⟩
 have e:b=0:=Oa;subst e;go_enter func194,ntmps194;go_wp2;go_ret2;exact⟨DN (by rw[DM]<;>first|omega|simp),BRN⟩
theorem Vi(a b:Int)(w:jD)(hs:Cx w aS aO aZ aW)(d:Cf a)(g:Cf b):Calls jZ 195 #[T U a,T U b] w λe w'=>e=jN (Ey aS aO aZ aW<|GO<|a*b)/\Ak w w':=by
 have r:=d;have i:=g;obtain⟨j,k⟩:=d;obtain⟨l,m⟩:=g;have hg:=hs.g1;by_cases h0:a=0
 .subst h0;go_enter func195,ntmps195;go_wp2;go_ret2;exact⟨DN<|by rw[Int.zero_mul];rfl,BRN⟩
 have s:(a==0)=jI:=zA.2 h0;by_cases h1:a=-1
 .subst h1;go_enter func195,ntmps195;go_wp2_with fail;refine(Mn 0 b w hs ⟨Oa,Oa⟩ i).mono ?_;rintro e t ⟨rfl,n⟩;have e5:(0:Int)-b=-1*b:=Oa;rw[e5,Ey];generalize hf:GO (-1*b)=f;have c:=Ab hf;clear hf;go_wp2;go_ret2;exact⟨by rw[Aa c];rfl,n⟩
 have e1:(a==-1)=jI:=zA.2 h1;by_cases hf:-9223372036854775808<=a*b/\a*b<=9223372036854775807
 .obtain⟨o,h⟩:=AkO h0 l m hf.1 hf.2;have c:=Ab<|DM hf.1 hf.2;have q:=Ab h;clear hf h;go_enter func195,ntmps195;go_wp2;go_ret2;exact⟨by rw[Aa q];exact DN<|Aa c,BRN⟩
 have hf':a*b< -9223372036854775808\/9223372036854775807<a*b:=by generalize a*b=p at*;omega
 have o:=Ail j k h0 h1 hf';have c:=Ab<|JH hf';clear hf hf';go_enter func195,ntmps195;go_wp2;go_quiet (fail);go_wp2;go_ret2;exact⟨Iq<|Aa c,below_drewN BRN _⟩
def WL(a b:Int):Int×Int:=if b=0 then (0,2)else GO (a.tdiv b)
def Vj(a b:Int):Int×Int:=if b=0 then (0,2)else GO (a.tmod b)
theorem ZG(a b:Int)(w:jD)(hs:Cx w aS aO aZ aW)(g:Cf a)(h:Cf b):Calls jZ 196 #[T U a,T U b] w λe w'=>e=jN (Ey aS aO aZ aW<|WL a b)/\Ak w w':=by
 obtain⟨i,j⟩:=g;obtain⟨k,l⟩:=h;have hg:=hs.g1;have m:=hs.g2;by_cases h0:b=0
 .subst h0;go_enter func196,ntmps196;go_wp2;go_quiet (fail);go_wp2;go_ret2;exact⟨WK rfl,below_drewN BRN _⟩
 have n:(b==0)=jI:=zA.2 h0;by_cases hm:a=-9223372036854775808/\b=-1
 .obtain⟨rfl,rfl⟩:=hm;go_enter func196,ntmps196;go_wp2;go_quiet (fail);go_wp2;go_ret2;exact⟨Iq Ob,below_drewN BRN _⟩
 have c:=Qa i j h0 Oa;have d:=Ab (show WL a b=(a.tdiv b,0)by rw[WL,K0 h0,DM c.1 c.2]);have f:=Ab<|PG c.1 c.2;clear c;by_cases h1:a=-9223372036854775808
 .have e1:(a==-9223372036854775808)=jG:=zD.2 h1;have e2:(b==-1)=jI:=zA.2 λe=>hm ⟨h1,e⟩;clear h1 hm;go_enter func196,ntmps196;go_wp2;go_ret2;exact⟨by rw[Aa f];exact DN<|Aa d,BRN⟩
 have e1:(a==-9223372036854775808)=jI:=zA.2 h1;clear h1 hm;go_enter func196,ntmps196;go_wp2;go_ret2;exact⟨by rw[Aa f];exact DN<|Aa d,BRN⟩
theorem ZH(h1:-9223372036854775808<=x)(h2:x<=9223372036854775807):-9223372036854775808<=x.tmod a/\x.tmod a<=9223372036854775807:=by
 have b:(x.tmod a).natAbs<=x.natAbs:=by rw[Int.natAbs_tmod];exact Nat.mod_le _ _
 have hs:0<=x->0<=x.tmod a:=λh=>Int.tmod_nonneg a h;have c:x<=0->x.tmod a<=0:=λh=>by have:=Int.tmod_nonneg a (Oa:0<=-x);simp_all
 omega
theorem SU(a b:Int)(w:jD)(hs:Cx w aS aO aZ aW)(f:Cf a)(g:Cf b):Calls jZ 197 #[T U a,T U b] w λe w'=>e=jN (Ey aS aO aZ aW<|Vj a b)/\Ak w w':=by
 obtain⟨h,i⟩:=f;obtain⟨j,k⟩:=g;have l:=hs.g2;by_cases h0:b=0
 .subst h0;go_enter func197,ntmps197;go_wp2;go_quiet (fail);go_wp2;go_ret2;exact⟨WK rfl,below_drewN BRN _⟩
 have m:(b==0)=jI:=zA.2 h0;by_cases h1:b=-1
 .subst h1;go_enter func197,ntmps197;go_wp2;go_ret2;exact⟨DN<|by rw[Vj,K0 h0,Int.tmod_neg,Int.tmod_one];rfl,BRN⟩
 have e1:(b==-1)=jI:=zA.2 h1;have c:=ZH (a:=b) h i;have d:=Ab (show Vj a b=(a.tmod b,0)by rw[Vj,K0 h0,DM c.1 c.2]);go_enter func197,ntmps197;go_wp2;go_ret2;exact⟨by first|(rw[Aa<|Ab<|PG c.1 c.2];exact DN<|Aa d)|exact DN<|Aa d,BRN⟩
def AW(op a b:Int):Int×Int:=if op=1 then GO (a+b)else if op=2 then GO (a-b)else if op=3 then GO (a*b)else if op=4 then WL a b else if op=5 then Vj a b else (0,4)
theorem Lg(op a b:Int)(w:jD)(hs:Cx w aS aO aZ aW)(d:Cf a)(f:Cf b):Calls jZ 182 #[T U op,T U a,T U b] w λe w'=>e=jN (Ey aS aO aZ aW<|AW op a b)/\Ak w w':=by
 have hg:=hs.g0;by_cases h1:op=1
 .subst h1;go_enter func182,ntmps182;go_wp2_with fail;refine(Aim a b w hs d f).mono ?_;rintro e g ⟨rfl,c⟩;rw[Ey];go_wp2;go_ret2;exact⟨rfl,c⟩
 by_cases h2:op=2
 .subst h2;go_enter func182,ntmps182;go_wp2_with fail;refine(Mn a b w hs d f).mono ?_;rintro e g ⟨rfl,c⟩;rw[Ey];go_wp2;go_ret2;exact⟨rfl,c⟩
 by_cases h3:op=3
 .subst h3;go_enter func182,ntmps182;go_wp2_with fail;refine(Vi a b w hs d f).mono ?_;rintro e g ⟨rfl,c⟩;rw[Ey];go_wp2;go_ret2;exact⟨rfl,c⟩
 by_cases h4:op=4
 .subst h4;go_enter func182,ntmps182;go_wp2_with fail;refine(ZG a b w hs d f).mono ?_;rintro e g ⟨rfl,c⟩;rw[Ey];go_wp2;go_ret2;exact⟨rfl,c⟩
 by_cases h5:op=5
 .subst h5;go_enter func182,ntmps182;go_wp2_with fail;refine(SU a b w hs d f).mono ?_;rintro e g ⟨rfl,c⟩;rw[Ey];go_wp2;go_ret2;exact⟨rfl,c⟩
 have e1:(op==1)=jI:=zA.2 h1;have e2:(op==2)=jI:=zA.2 h2;have e3:(op==3)=jI:=zA.2 h3;have e4:(op==4)=jI:=zA.2 h4;have e5:(op==5)=jI:=zA.2 h5;have h:=Ab (show AW op a b=(0,4)by rw[AW,K0 h1,K0 h2,K0 h3,K0 h4,K0 h5]);go_enter func182,ntmps182;go_wp2;go_quiet (fail);go_wp2;go_ret2;exact⟨Adk<|Aa h,below_drewN BRN _⟩
end
end Go.Proofs.YtlcfoihgfcmfeaaGreatDoor
