import Derived.Test.YtlcfoihgfcmfeaaGreatDoorMXAA
open List renaming length->Y
open Go renaming World->jD,Addr->jH
namespace Go.Proofs.YtlcfoihgfcmfeaaGreatDoor
open Proofs.Tryz
open Value renaming int->T,slice->X
open Ending renaming returned->jN
open Proofs.Tryz renaming prog->jZ
set_option maxHeartbeats 800000
open Go.RowKit
variable{w w':jD}
theorem NA(a:M3)(n c:Nat)(ss:M6)(w:jD)(h:Am w a n c ss):Calls jZ 117 #[X a n c] w λe w'=>e=jN (.bool<|JC ss)/\w'=w:=by
 have r:n<=9223372036854775807:=P5;go_enter func117,ntmps117;go_wp2;go_loop[4,7] (λ_ i=>∃k:Nat,k<=n/\i=T .i64 k/\∀j,j<k->vnB (AB ss j)=true) (λ_ i=>n-(intOf i).toNat);case atStart=>exact⟨0,zH _,rfl,λj g=>Oa⟩
 obtain⟨k,s,rfl,p⟩:=hrel;have l:=Ab p;by_cases m:k<n
 .obtain⟨b,t,q,_,hc⟩:=h.cells k m;have o:=h.bE k m;subst q;cases f:vnB (AB ss k)
  .have d:=Ab f;go_wp2_with (go_at_call 68;refine(EH _ _ o).mono ?_;rintro e w' ⟨rfl,rfl⟩;rw[Aa d]);go_ret;exact⟨Ae (Aa<|Ab<|Za ss k Q5 f).symm,rfl⟩
  have d:=Ab f;go_wp2_with (go_at_call 68;refine(EH _ _ o).mono ?_;rintro e w' ⟨rfl,rfl⟩;rw[Aa d]);go_round;case rel=>
   refine⟨k+1,Oa,O0,λj g=>?_⟩;by_cases e:j=k
   .subst e;exact Aa d
   exact Aa l j Oa
  simp[intOf];omega
 go_wp2;go_ret;exact⟨Ae (Ac9 ss λj g=>Aa l j Q5).symm,rfl⟩
set_option maxHeartbeats 1600000
theorem Mc(a:M3)(n c:Nat)(ss:M6)(w:jD)(h:Am w a n c ss):Calls jZ 118 #[X a n c] w λe w'=>e=jN (.bool<|Ch ss)/\Ak w w':=by
 have r:n<=9223372036854775807:=P5;go_enter func118,ntmps118;go_wp2;go_loopw[3] (λi wr=>∃k:Nat,0<k/\(k<=n\/k=1)/\i=T .i64 k/\(∀j,0<j->j<k->sl (AB ss<|j-1) (AB ss j)=true)/\Ak w wr) (λi _=>n+1-(intOf i).toNat);case atStart=>exact⟨1,Oa,.inr rfl,rfl,λj d g=>Oa,BRN⟩
 obtain⟨k,s,t,rfl,m,f⟩:=hrel;have l:=Ab m;by_cases o:k<n
 .obtain⟨b,u,p,v,hc⟩:=(h.below f NLN).at Oa;have x:=hc (k-1) Oa;have y:=hc k o;subst p;have z:(0:Int)<=(k:Int)-1:=Oa;have i2:(k:Int)-1<(n:Int):=Oa;have A:(k:Int)<(n:Int):=Oa;have B:((k:Int)-1).toNat=k-1:=Oa;cases hs:Op.bytesLess (AB ss (k-1)).toList (AB ss k).toList
  .have q:=Ab<|Zb ss (k-1) k Oa Q5 hs;go_wp2;go_quiet (fail);go_wp2;go_ret;exact⟨Ae (Aa q).symm,below_drewN f _⟩
  go_wp2;go_quiet (fail);go_wp2;go_roundw;case rel=>
   refine⟨k+1,Oa,.inl Oa,O0,λj d g=>?_,?_⟩
   .by_cases e:j=k
    .subst e;exact hs
    exact Aa l j d Oa
   exact below_drewN f _
  simp[intOf];omega
 go_wp2;go_ret;exact⟨Ae (Wl ss λj d g=>Aa l j d Q5).symm,f⟩
theorem AA(a:M3)(n c:Nat)(ss:M6)(w:jD)(h:Am w a n c ss):Calls jZ 69 #[X a n c] w λe w'=>e=jN (.bool<|Ax ss)/\Ak w w':=by
 have i:=h.len;by_cases k:n<=64
 .have g:(n:Int)<=64:=Oa;have d:=Ab<|Sz ss Oa;clear i;cases f:JC ss
  .have b:=Ab f;clear f;go_enter func69,ntmps69;go_wp2_with (go_at_call 117;refine(NA _ _ _ _ _ h).mono ?_;rintro e w' ⟨rfl,rfl⟩;rw[Aa b]);go_ret;exact⟨Ae<|by rw[Aa d,Aa b];rfl,BRN⟩
  have b:=Ab f;clear f;go_enter func69,ntmps69;go_wp2_with (first|(go_at_call 117;refine(NA _ _ _ _ _ h).mono ?_;rintro e w' ⟨rfl,rfl⟩;rw[Aa b])|(go_at_call 118;refine(Mc _ _ _ _ _ h).mono ?_;rintro e w' ⟨rfl,j⟩));go_ret;exact⟨Ae<|by rw[Aa d,Aa b];rfl,j⟩
 have g:(64:Int)<(n:Int):=Oa;have d:=Ab<|U0 ss Oa;clear i;go_enter func69,ntmps69;go_wp2;go_ret;exact⟨Ae (Aa d).symm,BRN⟩
theorem Ay(a:M3)(n c:Nat)(ss:M6)(w:jD)(h:Am w a n c ss):Calls jZ 76 #[X a n c] w λe w'=>e=jN (.bool<|Ax ss)/\w'=w:=by
 have r:=h.len;by_cases G:n<=64
 .have g:(n:Int)<=64:=Oa;have f:=Ab<|Sz ss Oa;have l:=Ab r;clear r;go_enter func76,ntmps76;go_wp2;go_loop[2,3,4,5,11] (λ_ _ _ _ i=>∃k:Nat,k<=n/\i=T .i64 k/\(∀j,j<k->vnB (AB ss j)=true)/\(∀i j,i<k->i<j->j<n->sl (AB ss i) (AB ss j)=true)) (λ_ _ _ _ i=>n-(intOf i).toNat);case atStart=>exact⟨0,zH _,rfl,λj d=>Oa,λi j hi=>Oa⟩
  obtain⟨k,H,rfl,t,u⟩:=hrel;have v:=Ab t;have x:=Ab u;clear t u;by_cases y:k<n
  .obtain⟨b,I,B,_,hc⟩:=h.at Oa;have J:=hc k y;have C:=Ab hc;clear hc;have z:=h.bE k y;subst B;cases o:vnB (AB ss k)
   .have p:=Ab o;have s:=Ab<|Za ss k (G7<|Aa l) o;clear o;go_wp2_with (go_at_call 75;refine(DC _ _ z).mono ?_;rintro e w' ⟨rfl,rfl⟩;rw[Aa p]);go_ret;exact⟨Ae<|by rw[Aa f,Aa s];rfl,rfl⟩
   have p:=Ab o;clear o;go_wp2_with (go_at_call 75;refine(DC _ _ z).mono ?_;rintro e w' ⟨rfl,rfl⟩;rw[Aa p]);go_loop[5] (λi=>∃m:Nat,k<m/\m<=n/\i=T .i64 m/\∀j,k<j->j<m->sl (AB ss k) (AB ss j)=true) (λi=>n-(intOf i).toNat);case atStart=>exact⟨k+1,Oa,Oa,O0,λj d D=>Oa⟩
   obtain⟨m,E,hm,rfl,hq⟩:=hrel;have A:=Ab hq;clear hq;by_cases F:m<n
   .have K:=Aa C m F;cases hs:Op.bytesLess (AB ss k).toList (AB ss m).toList
    .have s:=Ab<|Zb ss k m E (G7<|Aa l) hs;go_wp2;go_ret;exact⟨Ae<|by rw[Aa f,Aa s,Bool.and_false],rfl⟩
    go_wp2;go_round;case rel=>
     refine⟨m+1,Oa,Oa,O0,λj d D=>?_⟩;by_cases e:j=m
     .subst e;exact hs
     exact Aa A j d Oa
    simp[intOf];omega
   go_wp2;go_round;case rel=>
    refine⟨k+1,Oa,O0,λj d=>?_,λi j hi q d=>?_⟩
    .by_cases e:j=k
     .subst e;exact Aa p
     exact Aa v j Oa
    by_cases e:i=k
    .subst e;exact Aa A j q Oa
    exact Aa x i j Oa q d
   simp[intOf];omega
  go_wp2;go_ret;have e1:JC ss=true:=Ac9 ss λj d=>Aa v j<|G7<|Aa l;have e2:Ch ss=true:=(Gu ss).2 λi j q d=>Aa x i j (G7<|Aa l) q<|G7<|Aa l;exact⟨Ae<|by rw[Aa f,e1,e2];rfl,rfl⟩
 have g:(64:Int)<(n:Int):=Oa;have f:=Ab<|U0 ss Oa;clear r;go_enter func76,ntmps76;go_wp2;go_ret;exact⟨Ae (Aa f).symm,rfl⟩
set_option maxRecDepth 100000
set_option maxHeartbeats 3200000
set_option linter.unusedVariables false
structure BN(w:jD)(a:M3)(n c:Nat)(L:M4):Prop where
 len:Y L=n
 aH:n<=1048576
 cells:∀j,(h:j<Y L)->∃b off,a=some (Addr.mk b off none)/\b<Array.size (World.heap w)/\World.cell? w ⟨b,off+j,none⟩=some (T .i64 L[j])
theorem BN.below{B:Nat}{a:M3}{n c:Nat}{L:M4}(h:BN w a n c L)(d:Below B w w')(hB:Array.size (World.heap w)<=B):BN w' a n c L:=⟨h.len,h.aH,λj g=>by obtain⟨b,f,i,k,c0⟩:=h.cells j g;exact⟨b,f,i,zG k d.size,(d.cell (p:=⟨b,f+j,none⟩) (Oa:b<B)).trans c0⟩⟩
theorem AdH(A B:M4)(a:Y A=Y B):A=B↔∀j,(h:j<Y A)->A[j]=B[j]'(a ▸ h):=by grind[List.ext_getElem]
theorem Df(w:jD)(m:Nat):Ak w<|w.drewN m:=by exact⟨(IQ w).os,(IQ w).tape,(IQ w).output,NLN,λ_ _=>rfl⟩
theorem QM(h:∃m,w'=w.drewN m):∃m,World.drew w'=w.drewN m:=by obtain⟨m,rfl⟩:=h;exact⟨m+1,rfl⟩
theorem AfU(a b:M3)(n c m d:Nat)(A B:M4)(w:jD)(h1:BN w a n c A)(h2:BN w b m d B):Calls jZ 26 #[X a n c,X b m d] w λe w'=>e=jN (.bool<|decide (A=B))/\∃m,w'=w.drewN m:=by
 have s1:=h1.aH;have u:=Ab h1.len;have H:=Ab h2.len;by_cases f:n=m
 .have I:((n:Int)!=(m:Int))=false:=by rw[f];simp
  have l:=Ab (show Y A=Y B by rw[h1.len,h2.len,f]);have v:=Ab<|AdH A B<|Aa l;have z:=Ab f;go_enter func26,ntmps26;go_wp2_with fail;go_loopw[13] (λi wr=>∃k:Nat,k<=n/\i=T .i64 k/\(∃m,wr=w.drewN m)/\∀j,(h:j<Y A)->j<k->A[j]=B[j]'(Aa l ▸ h)) (λi _=>n-(intOf i).toNat);case atStart=>exact⟨0,Oa,rfl,⟨0,rfl⟩,λj _ h=>K4 h Oa⟩
  obtain⟨k,S,rfl,C,J⟩:=hrel;have o:=Ab C;have D:Ak w wr:=by obtain⟨K,rfl⟩:=C;exact Df w K
  have E:=Ab J;by_cases p:k<n
  .have W:(k:Int)<(n:Int):=Oa;have aa:(k:Int)<(m:Int):=G7<|Aa z;have F:k<Y A:=by rw[Aa u];exact p
   have L:k<Y B:=by rw[Aa H,<-Aa z];exact p
   obtain⟨b1,ab,rfl,ac,c1⟩:=(h1.below D NLN).cells k F;obtain⟨b2,o2,rfl,ad,c2⟩:=(h2.below D NLN).cells k L;have q:=Ab<|show A[k]≠B[k]->decide (A=B)=false from λe=>za λM=>e<|(Aa v).1 M k F;have r:=Ab (show A[k]=B[k]->∀j,(h:j<Y A)->j<k+1->A[j]=B[j]'(Aa l ▸ h)from λe j s ae=>by
    by_cases N:j=k
    .subst N;exact e
    exact Aa E j s Oa);have G:=Ab p;generalize A[k]=x at c1 q r;generalize B[k]=y at c2 q r;by_cases g:x=y
   .have O:(x !=y)=false:=by rw[g];simp
    have P:=Ab<|Aa r g;go_wp2_with fail;go_region;go_wp2;go_roundw;case rel=>exact⟨k+1,Aa G,O0,QM<|Aa o,Aa P⟩
    have:=Aa G;simp[intOf];omega
   have O:(x !=y)=true:=zW.2 g;go_wp2_with fail;go_region;go_wp2;go_ret;exact⟨Ae (Aa<|Ab<|Aa q g).symm,QM<|Aa o⟩
  have e:k=n:=Oa;subst e;have t:=Ab<|show decide (A=B)=true from zc<|(Aa v).2 λj s=>Aa E j s<|G7<|Aa u;go_wp2;go_ret;exact⟨Ae (Aa t).symm,Aa o⟩
 have I:((n:Int)!=(m:Int))=true:=zW.2 Oa;have t:=Ab (show decide (A=B)=false from za λe=>f<|by rw[<-h1.len,<-h2.len,e]);go_enter func26,ntmps26;go_wp2;go_ret;exact⟨Ae (Aa t).symm,0,rfl⟩
theorem QN(a b:M3)(n c m d:Nat)(A B:M4)(w:jD)(h1:BN w a n c A)(h2:BN w b m d B):Calls jZ 26 #[X a n c,X b m d] w λe w'=>e=jN (.bool<|decide (A=B))/\Ak w w':=(AfU a b n c m d A B w h1 h2).mono λe w' h=>⟨h.1,by obtain⟨m,rfl⟩:=h.2;exact Df w m⟩
end Go.Proofs.YtlcfoihgfcmfeaaGreatDoor
