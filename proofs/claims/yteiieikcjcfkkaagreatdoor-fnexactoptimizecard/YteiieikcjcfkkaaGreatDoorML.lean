import Derived.Test.YteiieikcjcfkkaaGreatDoorMXAB
open Go.Proofs.Tryz
open Go.Value renaming int->U,slice->Y,string->Q
open Go renaming World->Z,below_drewN->jg,wpList_append_own->jk
open List renaming length_cons->jY,length_nil->jx
open Go.Proofs.Tryz renaming prog->j4
namespace Go.Proofs.YteiieikcjcfkkaaGreatDoor
set_option maxRecDepth 100000
set_option maxHeartbeats 4000000
open Go.RowKit
theorem LX (x:Int)(w:Z):
  Calls j4 209 #[U .i64 x] w fun e w'=>e= .returned (.bool (x==0))/\w'=w:=by
 go_enter func209,ntmps209
 go_wp2
 go_ret
 exact⟨rfl,rfl⟩
theorem Ks {w:Z}{a e size n k:Nat}{v:Value}{b:List Value}(h:w.ownsRow a e size v n b):(w.drewN k).ownsRow a e size v n b:=h
theorem Wh (a:Option Addr)(n c:Nat)(ss:List ByteArray)(J:Option Addr)(n' c':Nat)(tt:List ByteArray)(w:Z)(h:Ap w a n c ss)(B:Ap w J n' c' tt)
  (hs:By ss=true)(g:By tt=true)(al:n<=64)(ao:n'<=64):
  Calls j4 206 #[Y a n c,Y J n' c',.func (Fn.func 209) #[] #[]] w fun e w'=>∃x z K,e= .returned (Y x K.length z)/\w'.ownsRow w.heap.size 9 1 (Y x K.length z) K.length (K.map Q)/\Ah w w'/\KL ss tt ss.length tt.length K:=by
 obtain⟨i,hi,L,M,N⟩:=info_parts Jc;have P:=h.len;have S:=B.len;subst P S;have W:=Ab hs;have aa:=Ab g;clear hs g;go_enter func206,ntmps206
 go_wp2
 go_loopw [7,8,9] (fun v i j wr=>∃ (p q:Nat) (K:List ByteArray),i=U .i64 p/\j=U .i64 q/\FE ss tt p q/\KL ss tt p q K/\K.length<=p+q/\wr.ownsRow w.heap.size 9 1 v K.length (K.map Q)/\Ah w wr) (fun _ i j _=>ss.length+tt.length-(intOf i).toNat-(intOf j).toNat)
 case atStart=>exact⟨0,0,[],rfl,rfl,FE.start _ _,KL.start,by simp,World.ownsRow_nil _ _ _ _,BRN⟩
 case round=>
  obtain⟨p,q,K,rfl,rfl,hm,s,ap,l,f⟩:=hrel;have O:=f.size;have hp:=hm.i_le;have hq:=hm.j_le;have hs:=Aa W;have g:=Aa aa;by_cases o:p<ss.length
  ·obtain⟨b,aq,ab,_,ar⟩:=(h.below f NLN).cells p o;subst ab;have ac:(p:Int)<(ss.length:Int):=by omega
   by_cases r:q<tt.length
   ·obtain⟨ad,ae,C,_,af⟩:=(B.below f NLN).cells q r;subst C;have ag:(q:Int)<(tt.length:Int):=by omega
    have eq:((q:Int)==(tt.length:Int))=false:=zA.2 (by omega);have ah:((p:Int)==(ss.length:Int))=false:=zA.2 (by omega);cases D:Op.bytesLess (Aw ss p).toList (Aw tt q).toList
    ·cases E:Op.bytesLess (Aw tt q).toList (Aw ss p).toList
     ·go_wp2
      go_quiet (fail)
      go_wp2
      go_quiet (fail)
      go_wp2_with (go_at_call 209;refine(LX _ _).mono ?_;rintro e A ⟨rfl,d⟩;rw[d];clear d)
      go_roundw
      case rel=>exact⟨p+1,q+1,_,by go_num,by go_num,(hm.both hs g o r D E).1,(s.both hm hs g o r D E),by omega,l,jg f _⟩
      case measure=>simp[intOf];omega
     ·have m:p<ss.length->sl (Aw tt q) (Aw ss p)=true:=fun _=>E;go_wp2
      go_quiet (fail)
      go_wp2
      go_quiet (fail)
      go_wp2_with (go_at_call 209;refine(LX _ _).mono ?_;rintro e A ⟨rfl,d⟩;rw[d];clear d)
      go_roundw
      case rel=>exact⟨p,q+1,_,by go_num,by go_num,(hm.right hs r (fun hp=>m hp)).1,(s.right),by omega,l,jg f _⟩
      case measure=>simp[intOf];omega
    ·have m:q<tt.length->sl (Aw ss p) (Aw tt q)=true:=fun _=>D;go_wp2
     go_quiet (fail)
     go_wp2_with (first
      |(go_at_call 209;refine(LX _ _).mono ?_;rintro e A ⟨rfl,d⟩;rw[d];clear d)
      |(at_builtin;refine jk _ rfl _ _ 46 rfl w.heap.size 9 i (Q ByteArray.empty) 1 16 underlying46 hi L M N rfl (by decide) _ _ _ rfl (World.ownsRow.alloc (Ks l) _) ⟨wr.heap.size,0,none⟩ 1 1 [Q (Aw ss p)] rfl rfl ?c1 ?c2 ?c3 ?c4 ?c5 ?_))
     case c1=>exact cell_one_new _ _ _
     case c2=>intro u t;simp at t;subst t;rfl
     case c3=>unfold maxLen;omega
     case c4=>omega
     case c5=>simp;omega
     intro ai F G y _;have H:Ah w F:=((jg f _).alloc O _).grown y (by simp;omega) (fun k I=>(l.lt k I).1);clear y;go_wp2
     go_roundw
     case rel=>exact⟨p+1,q,_,by go_num,by go_num,(hm.left g o (fun hq=>m hq)).1,(s.left hm g o (fun hq=>m hq)),by rw[zC];simp only[jY,jx];omega,by rw[zR,zC];exact G,H⟩
     case measure=>simp[intOf];omega
   ·have eq:((q:Int)==(tt.length:Int))=true:=zM.2 (by omega);have m:q<tt.length->sl (Aw ss p) (Aw tt q)=true:=fun aj=>absurd aj r;go_wp2
    go_quiet (fail)
    go_wp2_with (first
     |(go_at_call 209;refine(LX _ _).mono ?_;rintro e A ⟨rfl,d⟩;rw[d];clear d)
     |(at_builtin;refine jk _ rfl _ _ 46 rfl w.heap.size 9 i (Q ByteArray.empty) 1 16 underlying46 hi L M N rfl (by decide) _ _ _ rfl (World.ownsRow.alloc (Ks l) _) ⟨wr.heap.size,0,none⟩ 1 1 [Q (Aw ss p)] rfl rfl ?c1 ?c2 ?c3 ?c4 ?c5 ?_))
    case c1=>exact cell_one_new _ _ _
    case c2=>intro u t;simp at t;subst t;rfl
    case c3=>unfold maxLen;omega
    case c4=>omega
    case c5=>simp;omega
    intro ai F G y _;have H:Ah w F:=((jg f _).alloc O _).grown y (by simp;omega) (fun k I=>(l.lt k I).1);clear y;go_wp2
    go_roundw
    case rel=>exact⟨p+1,q,_,by go_num,by go_num,(hm.left g o (fun hq=>m hq)).1,(s.left hm g o (fun hq=>m hq)),by rw[zC];simp only[jY,jx];omega,by rw[zR,zC];exact G,H⟩
    case measure=>simp[intOf];omega
  ·by_cases r:q<tt.length
   ·obtain⟨ad,ae,C,_,af⟩:=(B.below f NLN).cells q r;subst C;have ag:(q:Int)<(tt.length:Int):=by omega
    have eq:((q:Int)==(tt.length:Int))=false:=zA.2 (by omega);have ah:((p:Int)==(ss.length:Int))=true:=zM.2 (by omega);have ac:decide ((p:Int)<(ss.length:Int))=false:=by simp;omega
    have m:p<ss.length->sl (Aw tt q) (Aw ss p)=true:=fun ak=>absurd ak o;go_wp2
    go_quiet (fail)
    go_wp2
    go_quiet (fail)
    go_wp2_with (go_at_call 209;refine(LX _ _).mono ?_;rintro e A ⟨rfl,d⟩;rw[d];clear d)
    go_roundw
    case rel=>exact⟨p,q+1,_,by go_num,by go_num,(hm.right hs r (fun hp=>m hp)).1,(s.right),by omega,l,jg f _⟩
    case measure=>simp[intOf];omega
   ·have e1:p=ss.length:=by omega
    have e2:q=tt.length:=by omega
    subst e1;subst e2;go_wp2
    go_ret
    obtain⟨x,z,hf⟩:=Bo l;subst hf;exact⟨x,z,K,rfl,l,f,s⟩
end Go.Proofs.YteiieikcjcfkkaaGreatDoor
