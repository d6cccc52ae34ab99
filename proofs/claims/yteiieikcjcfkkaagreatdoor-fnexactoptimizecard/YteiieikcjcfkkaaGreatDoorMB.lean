import Derived.Test.YteiieikcjcfkkaaGreatDoorMXAB
open Go.Proofs.Tryz
open Go.Value renaming int->U,slice->Y,string->Q
open Go renaming World->Z,below_drewN->jg
open Go.Proofs.Tryz renaming prog->j4
namespace Go.Proofs.YteiieikcjcfkkaaGreatDoor
set_option maxRecDepth 100000
set_option maxHeartbeats 4000000
open Go.RowKit
theorem LV (x:Int)(w:Z):
  Calls j4 208 #[U .i64 x] w fun e w'=>e= .returned (.bool (x==2))/\w'=w:=by
 go_enter func208,ntmps208
 go_wp2
 go_ret
 exact⟨rfl,rfl⟩
theorem Sm {w:Z}{a e size n k:Nat}{v:Value}{b:List Value}(h:w.ownsRow a e size v n b):(w.drewN k).ownsRow a e size v n b:=h
theorem AdQ (a:Option Addr)(n c:Nat)(ss:List ByteArray)(D:Option Addr)(n' c':Nat)(tt:List ByteArray)(w:Z)(h:Ap w a n c ss)(z:Ap w D n' c' tt)
  (hs:By ss=true)(g:By tt=true)(ak:n<=64)(al:n'<=64):
  Calls j4 206 #[Y a n c,Y D n' c',.func (Fn.func 208) #[] #[]] w fun e w'=>∃x t K,e= .returned (Y x K.length t)/\w'.ownsRow w.heap.size 9 1 (Y x K.length t) K.length (K.map Q)/\Ah w w'/\KB ss tt ss.length tt.length K:=by
 obtain⟨i,hi,G,H,I⟩:=info_parts Jc;have J:=h.len;have L:=z.len;subst J L;have M:=Ab hs;have N:=Ab g;clear hs g;go_enter func206,ntmps206
 go_wp2
 go_loopw [7,8,9] (fun v i j wr=>∃ (p q:Nat) (K:List ByteArray),i=U .i64 p/\j=U .i64 q/\FE ss tt p q/\KB ss tt p q K/\K.length<=p+q/\wr.ownsRow w.heap.size 9 1 v K.length (K.map Q)/\Ah w wr) (fun _ i j _=>ss.length+tt.length-(intOf i).toNat-(intOf j).toNat)
 case atStart=>exact⟨0,0,[],rfl,rfl,FE.start _ _,KB.start,by simp,World.ownsRow_nil _ _ _ _,BRN⟩
 case round=>
  obtain⟨p,q,K,rfl,rfl,hm,s,ao,m,f⟩:=hrel;have O:=f.size;have hp:=hm.i_le;have hq:=hm.j_le;have hs:=Aa M;have g:=Aa N;by_cases o:p<ss.length
  ·obtain⟨b,ap,P,_,aq⟩:=(h.below f NLN).cells p o;subst P;have S:(p:Int)<(ss.length:Int):=by omega
   by_cases r:q<tt.length
   ·obtain⟨W,aa,A,_,ab⟩:=(z.below f NLN).cells q r;subst A;have ac:(q:Int)<(tt.length:Int):=by omega
    have eq:((q:Int)==(tt.length:Int))=false:=zA.2 (by omega);have ad:((p:Int)==(ss.length:Int))=false:=zA.2 (by omega);cases B:Op.bytesLess (Aw ss p).toList (Aw tt q).toList
    ·cases C:Op.bytesLess (Aw tt q).toList (Aw ss p).toList
     ·go_wp2
      go_quiet (fail)
      go_wp2
      go_quiet (fail)
      go_wp2_with (first
       |(go_at_call 208;refine(LV _ _).mono ?_;rintro e y ⟨rfl,d⟩;rw[d];clear d)
       |(at_builtin;refine wpList_append_own _ rfl _ _ 46 rfl w.heap.size 9 i (Q ByteArray.empty) 1 16 underlying46 hi G H I rfl (by decide) _ _ _ rfl (World.ownsRow.alloc (Sm m) _) ⟨wr.heap.size,0,none⟩ 1 1 [Q (Aw ss p)] rfl rfl ?c1 ?c2 ?c3 ?c4 ?c5 ?_))
      case c1=>exact cell_one_new _ _ _
      case c2=>intro u E;simp at E;subst E;rfl
      case c3=>unfold maxLen;omega
      case c4=>omega
      case c5=>simp;omega
      intro ar ae af F _;have ag:Ah w ae:=((jg f _).alloc O _).grown F (by simp;omega) (fun k ah=>(m.lt k ah).1);clear F;go_wp2
      go_roundw
      case rel=>exact⟨p+1,q+1,_,by go_num,by go_num,(hm.both hs g o r B C).1,(s.both hm hs g o r B C),by rw[zC];simp only[List.length_cons,List.length_nil];omega,by rw[zR,zC];exact af,ag⟩
      case measure=>simp[intOf];omega
     ·have l:p<ss.length->sl (Aw tt q) (Aw ss p)=true:=fun _=>C;go_wp2
      go_quiet (fail)
      go_wp2
      go_quiet (fail)
      go_wp2_with (go_at_call 208;refine(LV _ _).mono ?_;rintro e y ⟨rfl,d⟩;rw[d];clear d)
      go_roundw
      case rel=>exact⟨p,q+1,_,by go_num,by go_num,(hm.right hs r (fun hp=>l hp)).1,(s.right),by omega,m,jg f _⟩
      case measure=>simp[intOf];omega
    ·have l:q<tt.length->sl (Aw ss p) (Aw tt q)=true:=fun _=>B;go_wp2
     go_quiet (fail)
     go_wp2_with (go_at_call 208;refine(LV _ _).mono ?_;rintro e y ⟨rfl,d⟩;rw[d];clear d)
     go_roundw
     case rel=>exact⟨p+1,q,_,by go_num,by go_num,(hm.left g o (fun hq=>l hq)).1,(s.left hm g o (fun hq=>l hq)),by omega,m,jg f _⟩
     case measure=>simp[intOf];omega
   ·have eq:((q:Int)==(tt.length:Int))=true:=zM.2 (by omega);have l:q<tt.length->sl (Aw ss p) (Aw tt q)=true:=fun ai=>absurd ai r;go_wp2
    go_quiet (fail)
    go_wp2_with (go_at_call 208;refine(LV _ _).mono ?_;rintro e y ⟨rfl,d⟩;rw[d];clear d)
    go_roundw
    case rel=>exact⟨p+1,q,_,by go_num,by go_num,(hm.left g o (fun hq=>l hq)).1,(s.left hm g o (fun hq=>l hq)),by omega,m,jg f _⟩
    case measure=>simp[intOf];omega
  ·by_cases r:q<tt.length
   ·obtain⟨W,aa,A,_,ab⟩:=(z.below f NLN).cells q r;subst A;have ac:(q:Int)<(tt.length:Int):=by omega
    have eq:((q:Int)==(tt.length:Int))=false:=zA.2 (by omega);have ad:((p:Int)==(ss.length:Int))=true:=zM.2 (by omega);have S:decide ((p:Int)<(ss.length:Int))=false:=by simp;omega
    have l:p<ss.length->sl (Aw tt q) (Aw ss p)=true:=fun aj=>absurd aj o;go_wp2
    go_quiet (fail)
    go_wp2
    go_quiet (fail)
    go_wp2_with (go_at_call 208;refine(LV _ _).mono ?_;rintro e y ⟨rfl,d⟩;rw[d];clear d)
    go_roundw
    case rel=>exact⟨p,q+1,_,by go_num,by go_num,(hm.right hs r (fun hp=>l hp)).1,(s.right),by omega,m,jg f _⟩
    case measure=>simp[intOf];omega
   ·have e1:p=ss.length:=by omega
    have e2:q=tt.length:=by omega
    subst e1;subst e2;go_wp2
    go_ret
    obtain⟨x,t,hf⟩:=Bo m;subst hf;exact⟨x,t,K,rfl,m,f,s⟩
end Go.Proofs.YteiieikcjcfkkaaGreatDoor
