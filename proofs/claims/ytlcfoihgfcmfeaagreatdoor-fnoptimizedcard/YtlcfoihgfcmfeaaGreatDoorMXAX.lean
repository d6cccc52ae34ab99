import Derived.Test.YtlcfoihgfcmfeaaGreatDoorMXAH
import Derived.Test.YtlcfoihgfcmfeaaGreatDoorMXAN
open List renaming length->Y
open Array renaming size->R
open Go renaming World->jD,Addr->jH
namespace Go.Proofs.YtlcfoihgfcmfeaaGreatDoor
open Proofs.Tryz
open Value renaming slice->X,tuple->jS
open World renaming heap->Q,ownsRow->jP
open Ending renaming returned->jN
open Proofs.Tryz renaming prog->jZ
open Go.RowKit
set_option maxHeartbeats 1600000
variable{c:Int}{ss tt K:M6}{w w':jD}
section
structure Aw(ss tt K:M6)(code:Int):Prop where
 bad:(Ax ss&&Ax tt)=false->K=[]/\code=4
 bP:(Ax ss&&Ax tt)=true->∃M,Bl (ss++tt) M/\(64<Y M->K=[]/\code=3)/\(Y M<=64->K=M/\code=0)
theorem Aw.aM{ss tt K a:M6}{c b:Int}(h:Aw ss tt K c)(d:Aw ss tt a b):K=a/\c=b:=by grind[Bl.aM,Aw.bad,Aw.bP,Ax]
theorem Aw.code(h:Aw ss tt K c):0<=c/\c<=4:=by grind[Aw.bad,Aw.bP,Ax]
theorem Aw.len(h:Aw ss tt K c):Y K<=64:=by grind[Aw.bad,Aw.bP,Ax]
theorem Abx{j:Nat}(h:j<Y (ss++tt)):AB (ss++tt) j=if j<Y ss then AB ss j else AB tt (j-Y ss):=by grind[Dw]
theorem Uc(h:∀j,j<Y ss->(AB ss j).size<=maxLen)(a:∀j,j<Y tt->(AB tt j).size<=maxLen):∀j,j<Y (ss++tt)->(AB (ss++tt) j).size<=maxLen:=by grind[Abx]
theorem Aw.bE(h:Aw ss tt K c)(hs:∀j,j<Y ss->(AB ss j).size<=maxLen)(ht:∀j,j<Y tt->(AB tt j).size<=maxLen):∀j,j<Y K->(AB K j).size<=maxLen:=by grind[Aw.bad,Aw.bP,Ax,Uc,Wn]
theorem KA.sorted(h:KA ss tt (Y ss) (Y tt) K):Bl (ss++tt) K:=⟨h.dB,λx=>by rw[h.mem,zq,zq,zJ]⟩
theorem Mw(h:Ax ss=true):Y ss<=64/\Ch ss=true:=by grind[Ax]
def Ub(w:jD)(ss tt:M6)(e:Ending)(w':jD):Prop:=∃x cx K c,e=jN (jS #[X x (Y K) cx,.int .i64 c])/\jP w' (R<|Q w) 9 1 (X x (Y K) cx) (Y K) (K.map Value.string)/\Ak w w'/\Aw ss tt K c
theorem Ub.nil(h:Aw ss tt [] c)(a:Ak w w'):Ub w ss tt (jN<|jS #[X none 0 0,.int .i64 c]) w':=⟨none,0,[],c,rfl,G8,a,h⟩
theorem Aw.dF(h:(Ax ss&&Ax tt)=false):Aw ss tt [] 4:=⟨λ_=>⟨rfl,rfl⟩,λk=>by rw[h]at k;cases k⟩
theorem Aw.dS{M:M6}(h:(Ax ss&&Ax tt)=true)(a:Bl (ss++tt) M)(b:64<Y M):Aw ss tt [] 3:=⟨λk=>(by rw[h]at k;cases k),λ_=>⟨M,a,λ_=>⟨rfl,rfl⟩,λk=>Oa⟩⟩
theorem Aw.dV{M:M6}(h:(Ax ss&&Ax tt)=true)(a:Bl (ss++tt) M)(b:Y M<=64):Aw ss tt M 0:=⟨λk=>(by rw[h]at k;cases k),λ_=>⟨M,a,λk=>Oa,λ_=>⟨rfl,rfl⟩⟩⟩
variable{aS aO aZ aW:jH}
def IM(aS aO aZ aW:jH)(w:jD)(ss tt:M6)(e:Ending)(w':jD):Prop:=∃x cx K c,e=jN (jS #[X x (Y K) cx,Ml aS aO aZ aW c])/\jP w' (R<|Q w) 9 1 (X x (Y K) cx) (Y K) (K.map Value.string)/\Ak w w'/\Aw ss tt K c
theorem IM.nil(h:Aw ss tt [] c)(a:Ak w w'):IM aS aO aZ aW w ss tt (jN<|jS #[X none 0 0,Ml aS aO aZ aW c]) w':=⟨none,0,[],c,rfl,G8,a,h⟩
theorem Ado(a:M3)(n c:Nat)(ss:M6)(m:M3)(o p:Nat)(tt:M6)(w:jD)(hs:Cx w aS aO aZ aW)(h:Am w a n c ss)(i:Am w m o p tt):Calls jZ 199 #[X a n c,X m o p] w λe w'=>IM aS aO aZ aW w ss tt e w':=by
 cases f:Ax ss
 .have j:=Ab (Aw.dF (ss:=ss) (tt:=tt)<|by rw[f];rfl);go_enter func199,ntmps199;go_wp2_with fail;refine(AA _ _ _ _ _ h).mono ?_;rintro e q ⟨rfl,b⟩;rw[f];have hg:=(hs.below b NLN).g0;go_wp2;go_quiet (fail);go_wp2;go_ret2;exact IM.nil (Aa j)<|below_drewN b _
 cases g:Ax tt
 .have j:=Ab (Aw.dF (ss:=ss) (tt:=tt)<|by rw[f,g];rfl);go_enter func199,ntmps199;go_wp2_with fail;refine(AA _ _ _ _ _ h).mono ?_;rintro e q ⟨rfl,b⟩;rw[f];go_wp2_with fail;refine(AA _ _ _ _ _<|i.below b NLN).mono ?_;rintro e w2 ⟨rfl,k⟩;rw[g];have d:=b.trans<|k.mono b.size;have hg:=(hs.below d NLN).g0;go_wp2;go_quiet (fail);go_wp2;go_ret2;exact IM.nil (Aa j)<|below_drewN d _
 obtain⟨D,t⟩:=Mw f;obtain⟨E,u⟩:=Mw g;have r:=Ab (show(Ax ss&&Ax tt)=true by rw[f,g];rfl);go_enter func199,ntmps199;go_wp2_with fail;refine(AA _ _ _ _ _ h).mono ?_;rintro e q ⟨rfl,b⟩;rw[f];go_wp2_with fail;refine(AA _ _ _ _ _<|i.below b NLN).mono ?_;rintro e w2 ⟨rfl,k⟩;rw[g];have d:=b.trans<|k.mono b.size;go_wp2_with fail;refine(Ags _ _ _ _ _ _ _ _ _ (h.below d NLN) (i.below d NLN) (Aa<|Ab t) (Aa<|Ab u) Q5<|G7 i.len).mono ?_;rintro e F ⟨x,v,K,rfl,y,z,A⟩;have s:=Ab A.sorted;have l:=d.trans<|z.mono d.size;by_cases B:64<Y K
 .have C:(64:Int)<(Y K:Int):=Oa;have hg:=(hs.below l NLN).g3;go_wp2;go_quiet (fail);go_wp2;go_ret2;exact IM.nil (Aw.dS (Aa r) (Aa s) B)<|below_drewN l _
 have C:(Y K:Int)<=64:=Oa;go_wp2;go_ret2;exact⟨x,v,K,0,rfl,ER y d.size,l,Aw.dV (Aa r) (Aa s) Oa⟩
end
def Bq(ss tt:M6):M6:=if Ax ss&&Ax tt then CX ss tt true else[]
theorem CF(h:Ax ss=true):Y ss<=64/\Ch ss=true:=by grind[Ax]
theorem Qg(ss tt:M6)(h:∀j,j<Y ss->(AB ss j).size<=maxLen):∀j,j<Y (Bq ss tt)->(AB (Bq ss tt) j).size<=maxLen:=by grind[Bq,Rh]
theorem W8(ss tt:M6):Y (Bq ss tt)<=Y ss:=by grind[IH,Bq]
def MY(w:jD)(ss tt:M6)(e:Ending)(w':jD):Prop:=∃x cx,e=jN (X x (Y<|Bq ss tt) cx)/\jP w' (R<|Q w) 9 1 (X x (Y<|Bq ss tt) cx) (Y<|Bq ss tt) ((Bq ss tt).map Value.string)/\Ak w w'
theorem Hr(h:Bq ss tt=[])(a:Ak w w'):MY w ss tt (jN<|X none 0 0) w':=by grind[Go.World.ownsRow_nil,MY]
theorem Adp(a:M3)(n c:Nat)(ss:M6)(l:M3)(m o:Nat)(tt:M6)(w:jD)(h:Am w a n c ss)(j:Am w l m o tt):Calls jZ 200 #[X a n c,X l m o] w λe w'=>MY w ss tt e w':=by
 cases d:Ax ss
 .have f:=Ab (show Bq ss tt=[]by simp[Bq,d]);go_enter func200,ntmps200;go_wp2_with fail;refine(AA _ _ _ _ _ h).mono ?_;rintro e p ⟨rfl,b⟩;rw[d];go_wp2;go_ret;exact Hr (Aa f) b
 cases g:Ax tt
 .have f:=Ab (show Bq ss tt=[]by simp[Bq,g]);go_enter func200,ntmps200;go_wp2_with fail;refine(AA _ _ _ _ _ h).mono ?_;rintro e p ⟨rfl,b⟩;rw[d];go_wp2_with fail;refine(AA _ _ _ _ _<|j.below b NLN).mono ?_;rintro e w2 ⟨rfl,k⟩;rw[g];go_wp2;go_ret;exact Hr (Aa f)<|b.trans<|k.mono b.size
 obtain⟨y,q⟩:=CF d;obtain⟨z,r⟩:=CF g;have f:=Ab (show Bq ss tt=CX ss tt true by simp[Bq,d,g]);go_enter func200,ntmps200;go_wp2_with fail;refine(AA _ _ _ _ _ h).mono ?_;rintro e p ⟨rfl,b⟩;rw[d];go_wp2_with fail;refine(AA _ _ _ _ _<|j.below b NLN).mono ?_;rintro e w2 ⟨rfl,k⟩;rw[g];have i:=b.trans<|k.mono b.size;go_wp2_with fail;refine(Agt _ _ _ _ _ _ _ _ _ (h.below i NLN) (j.below i NLN) (Aa<|Ab q) (Aa<|Ab r) Q5<|G7 j.len).mono ?_;rintro e A ⟨x,s,K,rfl,t,u,v⟩;go_wp2;go_ret;have e1:K=Bq ss tt:=by rw[Aa<|Ab v.dI,Aa f]
 subst e1;exact⟨x,s,rfl,ER t i.size,i.trans<|u.mono i.size⟩
def AP(ss tt:M6):M6:=if Ax ss&&Ax tt then CX ss tt false else[]
theorem OM(ss tt:M6)(h:∀j,j<Y ss->(AB ss j).size<=maxLen):∀j,j<Y (AP ss tt)->(AB (AP ss tt) j).size<=maxLen:=by grind[Rh,AP]
theorem TI(ss tt:M6):Y (AP ss tt)<=Y ss:=by grind[IH,AP]
def Ka(w:jD)(ss tt:M6)(e:Ending)(w':jD):Prop:=∃x cx,e=jN (X x (Y<|AP ss tt) cx)/\jP w' (R<|Q w) 9 1 (X x (Y<|AP ss tt) cx) (Y<|AP ss tt) ((AP ss tt).map Value.string)/\Ak w w'
theorem FQ(h:AP ss tt=[])(a:Ak w w'):Ka w ss tt (jN<|X none 0 0) w':=by grind[Ka,Go.World.ownsRow_nil]
theorem ZP(a:M3)(n c:Nat)(ss:M6)(l:M3)(m o:Nat)(tt:M6)(w:jD)(h:Am w a n c ss)(j:Am w l m o tt):Calls jZ 201 #[X a n c,X l m o] w λe w'=>Ka w ss tt e w':=by
 cases d:Ax ss
 .have f:=Ab (show AP ss tt=[]by simp[AP,d]);go_enter func201,ntmps201;go_wp2_with fail;refine(AA _ _ _ _ _ h).mono ?_;rintro e p ⟨rfl,b⟩;rw[d];go_wp2;go_ret;exact FQ (Aa f) b
 cases g:Ax tt
 .have f:=Ab (show AP ss tt=[]by simp[AP,g]);go_enter func201,ntmps201;go_wp2_with fail;refine(AA _ _ _ _ _ h).mono ?_;rintro e p ⟨rfl,b⟩;rw[d];go_wp2_with fail;refine(AA _ _ _ _ _<|j.below b NLN).mono ?_;rintro e w2 ⟨rfl,k⟩;rw[g];go_wp2;go_ret;exact FQ (Aa f)<|b.trans<|k.mono b.size
 obtain⟨y,q⟩:=CF d;obtain⟨z,r⟩:=CF g;have f:=Ab (show AP ss tt=CX ss tt false by simp[AP,d,g]);go_enter func201,ntmps201;go_wp2_with fail;refine(AA _ _ _ _ _ h).mono ?_;rintro e p ⟨rfl,b⟩;rw[d];go_wp2_with fail;refine(AA _ _ _ _ _<|j.below b NLN).mono ?_;rintro e w2 ⟨rfl,k⟩;rw[g];have i:=b.trans<|k.mono b.size;go_wp2_with fail;refine(Yi _ _ _ _ _ _ _ _ _ (h.below i NLN) (j.below i NLN) (Aa<|Ab q) (Aa<|Ab r) Q5<|G7 j.len).mono ?_;rintro e A ⟨x,s,K,rfl,t,u,v⟩;go_wp2;go_ret;have e1:K=AP ss tt:=by rw[Aa<|Ab v.dI,Aa f]
 subst e1;exact⟨x,s,rfl,ER t i.size,i.trans<|u.mono i.size⟩
def Cy(ss tt:M6):Bool:=Ax ss&&(Ax tt&&decide (Y (CX ss tt false)=0))
theorem WZ(a:M3)(n c:Nat)(ss:M6)(k:M3)(l m:Nat)(tt:M6)(w:jD)(h:Am w a n c ss)(d:Am w k l m tt):Calls jZ 202 #[X a n c,X k l m] w λe w'=>e=jN (.bool<|Cy ss tt)/\Ak w w':=by
 cases g:Ax ss
 .go_enter func202,ntmps202;go_wp2_with fail;refine(AA _ _ _ _ _ h).mono ?_;rintro e o ⟨rfl,b⟩;go_wp2;go_ret;exact⟨Ae<|by simp[Cy,g],b⟩
 cases i:Ax tt
 .go_enter func202,ntmps202;go_wp2_with fail;refine(AA _ _ _ _ _ h).mono ?_;rintro e o ⟨rfl,b⟩;go_wp2_with fail;refine(AA _ _ _ _ _<|d.below b NLN).mono ?_;rintro e w2 ⟨rfl,j⟩;go_wp2;go_ret;exact⟨Ae<|by simp[Cy,i],b.trans<|j.mono b.size⟩
 obtain⟨t,p⟩:=CF g;obtain⟨u,q⟩:=CF i;go_enter func202,ntmps202;go_wp2_with fail;refine(AA _ _ _ _ _ h).mono ?_;rintro e o ⟨rfl,b⟩;go_wp2_with fail;refine(AA _ _ _ _ _<|d.below b NLN).mono ?_;rintro e w2 ⟨rfl,j⟩;have f:=b.trans<|j.mono b.size;go_wp2_with fail;refine(Yi _ _ _ _ _ _ _ _ _ (h.below f NLN) (d.below f NLN) (Aa<|Ab p) (Aa<|Ab q) Q5<|G7 d.len).mono ?_;rintro e v ⟨x,y,K,rfl,z,r,s⟩;go_wp2;go_ret;refine⟨Ae ?_,f.trans<|r.mono f.size⟩;rw[Aa<|Ab s.dI];simp only[Cy,g,i,zx];rw[zM];simp
end Go.Proofs.YtlcfoihgfcmfeaaGreatDoor
