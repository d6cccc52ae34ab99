import Derived.Test.YtnjpihpohilnjaaGreatDoorMXAC
open List renaming length->T
open Array renaming size->R
open Bool renaming true->jD,false->jE
open ByteArray renaming empty->jW
namespace Go.Proofs.YtnjpihpohilnjaaGreatDoor
open Proofs.Tryz
open Value renaming int->V,slice->Y,string->jC
open World renaming heap->Z,ownsRow->jO
open Proofs.Tryz renaming prog->jZ
set_option maxRecDepth 100000
set_option maxHeartbeats 4000000
open Go.RowKit
theorem ML (x:Int)(w:World):
  Calls jZ 179 #[V .i64 x] w λe w'=>e= .returned (.bool<|x==2)/\w'=w:=by
 go_enter func179,ntmps179
 go_wp2
 go_ret
 exact⟨rfl,rfl⟩
theorem AeJ (a:L0 Addr)(n c:Nat)(ss:L4)(B:L0 Addr)(n' c':Nat)(tt:L4)(w:World)(h:Aq w a n c ss)(t:Aq w B n' c' tt)
  (hs:BM ss=jD)(ht:BM tt=jD)(ai:n<=64)(aj:n'<=64):
  Calls jZ 177 #[Y a n c,Y B n' c',.func (Fn.func 179) #[] #[]] w λe w'=>∃x cx K,e= .returned (Y x (T K) cx)/\jO w' (R<|Z w) 9 1 (Y x (T K) cx) (T K) (K.map Value.string)/\Ai w w'/\KB ss tt (T ss) (T tt) K:=by
 obtain⟨i,hi,C,D,E⟩:=info_parts GB;have F:=h.len;have G:=t.len;subst F G;have H:=Ab hs;have I:=Ab ht;go_enter func177,ntmps177
 go_wp2
 go_loopw [7,8,9] (λv i j wr=>∃ (p q:Nat) (K:L4),i=V .i64 p/\j=V .i64 q/\ES ss tt p q/\KB ss tt p q K/\T K<=p+q/\jO wr (R<|Z w) 9 1 v (T K) (K.map Value.string)/\Ai w wr) (λ_ i j _=>T ss+T tt-(intOf i).toNat-(intOf j).toNat)
 case atStart=>exact⟨0,0,[],rfl,rfl,ES.start _ _,KB.start,Ox,H3,BRN⟩
 case round=>
  obtain⟨p,q,K,rfl,rfl,hm,r,ak,l,f⟩:=hrel;have J:=f.size;have s:=hm.i_le;have hq:=hm.j_le;have hs:=Aa H;have ht:=Aa I;by_cases m:p<T ss
  .obtain⟨b,al,L,_,ao⟩:=(h.below f NLN).cells p m;subst L;have M:(p:Int)<(T ss:Int):=Oa;by_cases o:q<T tt
   .obtain⟨N,O,y,_,P⟩:=(t.below f NLN).cells q o;subst y;have S:(q:Int)<(T tt:Int):=Oa;have eq:((q:Int)==(T tt:Int))=jE:=zA.2 Oa;have W:((p:Int)==(T ss:Int))=jE:=zA.2 Oa;cases z:Op.bytesLess (AG ss p).toList (AG tt q).toList
    .cases A:Op.bytesLess (AG tt q).toList (AG ss p).toList
     .go_wp2
      go_quiet (fail)
      go_wp2
      go_quiet (fail)
      go_wp2_with (first
       |(go_at_call 179;refine(ML _ _).mono ?_;rintro e w2 ⟨rfl,d⟩;rw[d];clear d)
       |(at_builtin;refine G7 _ rfl _ _ 30 rfl (R<|Z w) 9 i (jC jW) 1 16 underlying30 hi C D E rfl Ob _ _ _ rfl (G1 (Ce l) _) ⟨R<|Z wr,0,none⟩ 1 1 [jC<|AG ss p] rfl rfl ?c1 ?c2 ?c3 ?c4 ?c5 ?_))
      case c1=>exact K4 _ _ _
      case c2=>intro u hu;simp at hu;subst hu;rfl
      case c3=>unfold maxLen;omega
      case c4=>omega
      case c5=>simp;omega
      intro v' aa ab ac _;have ad:Ai w aa:=((below_drewN f _).alloc J _).grown ac O0 λk ae=>(l.lt k ae).1;go_wp2
      go_roundw
      case rel=>exact⟨p+1,q+1,_,O1,O1,(hm.cO hs ht m o z A).1,(r.cO hm hs ht m o z A),O7,by rw[zk,zC];exact ab,ad⟩
      case measure=>simp[intOf];omega
     .have g:p<T ss->sl (AG tt q) (AG ss p)=jD:=λ_=>A;go_wp2
      go_quiet (fail)
      go_wp2
      go_quiet (fail)
      go_wp2_with (go_at_call 179;refine(ML _ _).mono ?_;rintro e w2 ⟨rfl,d⟩;rw[d];clear d)
      go_roundw
      case rel=>exact⟨p,q+1,_,O1,O1,(hm.right hs o λs=>g s).1,(r.right),Oa,l,below_drewN f _⟩
      case measure=>simp[intOf];omega
    .have g:q<T tt->sl (AG ss p) (AG tt q)=jD:=λ_=>z;go_wp2
     go_quiet (fail)
     go_wp2_with (go_at_call 179;refine(ML _ _).mono ?_;rintro e w2 ⟨rfl,d⟩;rw[d];clear d)
     go_roundw
     case rel=>exact⟨p+1,q,_,O1,O1,(hm.left ht m λhq=>g hq).1,(r.left hm ht m λhq=>g hq),Oa,l,below_drewN f _⟩
     case measure=>simp[intOf];omega
   .have eq:((q:Int)==(T tt:Int))=jD:=zD.2 Oa;have g:q<T tt->sl (AG ss p) (AG tt q)=jD:=λaf=>H9 af o;go_wp2
    go_quiet (fail)
    go_wp2_with (go_at_call 179;refine(ML _ _).mono ?_;rintro e w2 ⟨rfl,d⟩;rw[d];clear d)
    go_roundw
    case rel=>exact⟨p+1,q,_,O1,O1,(hm.left ht m λhq=>g hq).1,(r.left hm ht m λhq=>g hq),Oa,l,below_drewN f _⟩
    case measure=>simp[intOf];omega
  .by_cases o:q<T tt
   .obtain⟨N,O,y,_,P⟩:=(t.below f NLN).cells q o;subst y;have S:(q:Int)<(T tt:Int):=Oa;have eq:((q:Int)==(T tt:Int))=jE:=zA.2 Oa;have W:((p:Int)==(T ss:Int))=jD:=zD.2 Oa;have M:decide ((p:Int)<(T ss:Int))=jE:=O0;have g:p<T ss->sl (AG tt q) (AG ss p)=jD:=λag=>H9 ag m;go_wp2
    go_quiet (fail)
    go_wp2
    go_quiet (fail)
    go_wp2_with (go_at_call 179;refine(ML _ _).mono ?_;rintro e w2 ⟨rfl,d⟩;rw[d];clear d)
    go_roundw
    case rel=>exact⟨p,q+1,_,O1,O1,(hm.right hs o λs=>g s).1,(r.right),Oa,l,below_drewN f _⟩
    case measure=>simp[intOf];omega
   .have e1:p=T ss:=Oa;have e2:q=T tt:=Oa;subst e1;subst e2;go_wp2
    go_ret
    obtain⟨x,cx,ah⟩:=AA l;subst ah;exact⟨x,cx,K,rfl,l,f,r⟩
theorem MN (x:Int)(w:World):
  Calls jZ 180 #[V .i64 x] w λe w'=>e= .returned (.bool<|x==0)/\w'=w:=by
 go_enter func180,ntmps180
 go_wp2
 go_ret
 exact⟨rfl,rfl⟩
theorem Xf (a:L0 Addr)(n c:Nat)(ss:L4)(G:L0 Addr)(n' c':Nat)(tt:L4)(w:World)(h:Aq w a n c ss)(t:Aq w G n' c' tt)
  (hs:BM ss=jD)(ht:BM tt=jD)(ai:n<=64)(aj:n'<=64):
  Calls jZ 177 #[Y a n c,Y G n' c',.func (Fn.func 180) #[] #[]] w λe w'=>∃x cx K,e= .returned (Y x (T K) cx)/\jO w' (R<|Z w) 9 1 (Y x (T K) cx) (T K) (K.map Value.string)/\Ai w w'/\KL ss tt (T ss) (T tt) K:=by
 obtain⟨i,hi,H,I,J⟩:=info_parts GB;have M:=h.len;have N:=t.len;subst M N;have O:=Ab hs;have P:=Ab ht;go_enter func177,ntmps177
 go_wp2
 go_loopw [7,8,9] (λv i j wr=>∃ (p q:Nat) (K:L4),i=V .i64 p/\j=V .i64 q/\ES ss tt p q/\KL ss tt p q K/\T K<=p+q/\jO wr (R<|Z w) 9 1 v (T K) (K.map Value.string)/\Ai w wr) (λ_ i j _=>T ss+T tt-(intOf i).toNat-(intOf j).toNat)
 case atStart=>exact⟨0,0,[],rfl,rfl,ES.start _ _,KL.start,Ox,H3,BRN⟩
 case round=>
  obtain⟨p,q,K,rfl,rfl,hm,r,ak,g,f⟩:=hrel;have L:=f.size;have s:=hm.i_le;have hq:=hm.j_le;have hs:=Aa O;have ht:=Aa P;by_cases m:p<T ss
  .obtain⟨b,al,S,_,ao⟩:=(h.below f NLN).cells p m;subst S;have W:(p:Int)<(T ss:Int):=Oa;by_cases o:q<T tt
   .obtain⟨aa,ab,y,_,ac⟩:=(t.below f NLN).cells q o;subst y;have ad:(q:Int)<(T tt:Int):=Oa;have eq:((q:Int)==(T tt:Int))=jE:=zA.2 Oa;have ae:((p:Int)==(T ss:Int))=jE:=zA.2 Oa;cases z:Op.bytesLess (AG ss p).toList (AG tt q).toList
    .cases A:Op.bytesLess (AG tt q).toList (AG ss p).toList
     .go_wp2
      go_quiet (fail)
      go_wp2
      go_quiet (fail)
      go_wp2_with (go_at_call 180;refine(MN _ _).mono ?_;rintro e w2 ⟨rfl,d⟩;rw[d];clear d)
      go_roundw
      case rel=>exact⟨p+1,q+1,_,O1,O1,(hm.cO hs ht m o z A).1,(r.cO hm hs ht m o z A),Oa,g,below_drewN f _⟩
      case measure=>simp[intOf];omega
     .have l:p<T ss->sl (AG tt q) (AG ss p)=jD:=λ_=>A;go_wp2
      go_quiet (fail)
      go_wp2
      go_quiet (fail)
      go_wp2_with (go_at_call 180;refine(MN _ _).mono ?_;rintro e w2 ⟨rfl,d⟩;rw[d];clear d)
      go_roundw
      case rel=>exact⟨p,q+1,_,O1,O1,(hm.right hs o λs=>l s).1,(r.right),Oa,g,below_drewN f _⟩
      case measure=>simp[intOf];omega
    .have l:q<T tt->sl (AG ss p) (AG tt q)=jD:=λ_=>z;go_wp2
     go_quiet (fail)
     go_wp2_with (first
      |(go_at_call 180;refine(MN _ _).mono ?_;rintro e w2 ⟨rfl,d⟩;rw[d];clear d)
      |(at_builtin;refine G7 _ rfl _ _ 30 rfl (R<|Z w) 9 i (jC jW) 1 16 underlying30 hi H I J rfl Ob _ _ _ rfl (G1 (Ce g) _) ⟨R<|Z wr,0,none⟩ 1 1 [jC<|AG ss p] rfl rfl ?c1 ?c2 ?c3 ?c4 ?c5 ?_))
     case c1=>exact K4 _ _ _
     case c2=>intro u hu;simp at hu;subst hu;rfl
     case c3=>unfold maxLen;omega
     case c4=>omega
     case c5=>simp;omega
     intro v' B C D _;have E:Ai w B:=((below_drewN f _).alloc L _).grown D O0 λk F=>(g.lt k F).1;go_wp2
     go_roundw
     case rel=>exact⟨p+1,q,_,O1,O1,(hm.left ht m λhq=>l hq).1,(r.left hm ht m λhq=>l hq),O7,by rw[zk,zC];exact C,E⟩
     case measure=>simp[intOf];omega
   .have eq:((q:Int)==(T tt:Int))=jD:=zD.2 Oa;have l:q<T tt->sl (AG ss p) (AG tt q)=jD:=λaf=>H9 af o;go_wp2
    go_quiet (fail)
    go_wp2_with (first
     |(go_at_call 180;refine(MN _ _).mono ?_;rintro e w2 ⟨rfl,d⟩;rw[d];clear d)
     |(at_builtin;refine G7 _ rfl _ _ 30 rfl (R<|Z w) 9 i (jC jW) 1 16 underlying30 hi H I J rfl Ob _ _ _ rfl (G1 (Ce g) _) ⟨R<|Z wr,0,none⟩ 1 1 [jC<|AG ss p] rfl rfl ?c1 ?c2 ?c3 ?c4 ?c5 ?_))
    case c1=>exact K4 _ _ _
    case c2=>intro u hu;simp at hu;subst hu;rfl
    case c3=>unfold maxLen;omega
    case c4=>omega
    case c5=>simp;omega
    intro v' B C D _;have E:Ai w B:=((below_drewN f _).alloc L _).grown D O0 λk F=>(g.lt k F).1;go_wp2
    go_roundw
    case rel=>exact⟨p+1,q,_,O1,O1,(hm.left ht m λhq=>l hq).1,(r.left hm ht m λhq=>l hq),O7,by rw[zk,zC];exact C,E⟩
    case measure=>simp[intOf];omega
  .by_cases o:q<T tt
   .obtain⟨aa,ab,y,_,ac⟩:=(t.below f NLN).cells q o;subst y;have ad:(q:Int)<(T tt:Int):=Oa;have eq:((q:Int)==(T tt:Int))=jE:=zA.2 Oa;have ae:((p:Int)==(T ss:Int))=jD:=zD.2 Oa;have W:decide ((p:Int)<(T ss:Int))=jE:=O0;have l:p<T ss->sl (AG tt q) (AG ss p)=jD:=λag=>H9 ag m;go_wp2
    go_quiet (fail)
    go_wp2
    go_quiet (fail)
    go_wp2_with (go_at_call 180;refine(MN _ _).mono ?_;rintro e w2 ⟨rfl,d⟩;rw[d];clear d)
    go_roundw
    case rel=>exact⟨p,q+1,_,O1,O1,(hm.right hs o λs=>l s).1,(r.right),Oa,g,below_drewN f _⟩
    case measure=>simp[intOf];omega
   .have e1:p=T ss:=Oa;have e2:q=T tt:=Oa;subst e1;subst e2;go_wp2
    go_ret
    obtain⟨x,cx,ah⟩:=AA g;subst ah;exact⟨x,cx,K,rfl,g,f,r⟩
end Go.Proofs.YtnjpihpohilnjaaGreatDoor
