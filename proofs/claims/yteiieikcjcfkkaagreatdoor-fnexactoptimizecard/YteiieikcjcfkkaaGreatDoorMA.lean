import Derived.Test.YteiieikcjcfkkaaGreatDoorMXAB
open Go.Proofs.Tryz
open Go.Value renaming int->U,slice->Y,string->Q
open Go renaming World->Z,maxLen->jM,below_drewN->jg,wpList_append_own->jk
open ByteArray renaming empty->jU
open Go.World.ownsRow renaming alloc->jV
open List renaming length_cons->jY,length_nil->jx
open Go.Proofs.Tryz renaming prog->j4
namespace Go.Proofs.YteiieikcjcfkkaaGreatDoor
set_option maxRecDepth 100000
set_option maxHeartbeats 4000000
open Go.RowKit
theorem LU (x:Int)(w:Z):
  Calls j4 207 #[U .i64 x] w fun e w'=>e= .returned (.bool true)/\w'=w:=by
 go_enter func207,ntmps207
 go_wp2
 go_ret
 exact⟨rfl,rfl⟩
theorem DK {w:Z}{a e size n k:Nat}{v:Value}{b:List Value}(h:w.ownsRow a e size v n b):(w.drewN k).ownsRow a e size v n b:=h
theorem AdP (a:Option Addr)(n c:Nat)(ss:List ByteArray)(P:Option Addr)(n' c':Nat)(tt:List ByteArray)(w:Z)(h:Ap w a n c ss)(L:Ap w P n' c' tt)
  (hs:By ss=true)(z:By tt=true)(al:n<=64)(ao:n'<=64):
  Calls j4 206 #[Y a n c,Y P n' c',.func (Fn.func 207) #[] #[]] w fun e w'=>∃x H K,e= .returned (Y x K.length H)/\w'.ownsRow w.heap.size 9 1 (Y x K.length H) K.length (K.map Q)/\Ah w w'/\KA ss tt ss.length tt.length K:=by
 obtain⟨i,hi,D,E,F⟩:=info_parts Jc;have S:=h.len;have W:=L.len;subst S W;have aa:=Ab hs;have ab:=Ab z;clear hs z;go_enter func206,ntmps206
 go_wp2
 go_loopw [7,8,9] (fun v i j wr=>∃ (p q:Nat) (K:List ByteArray),i=U .i64 p/\j=U .i64 q/\FE ss tt p q/\KA ss tt p q K/\K.length<=p+q/\wr.ownsRow w.heap.size 9 1 v K.length (K.map Q)/\Ah w wr) (fun _ i j _=>ss.length+tt.length-(intOf i).toNat-(intOf j).toNat)
 case atStart=>exact⟨0,0,[],rfl,rfl,FE.start _ _,KA.start,by simp,World.ownsRow_nil _ _ _ _,BRN⟩
 case round=>
  obtain⟨p,q,K,rfl,rfl,hm,C,ap,l,m⟩:=hrel;have G:=m.size;have hp:=hm.i_le;have hq:=hm.j_le;have hs:=Aa aa;have z:=Aa ab;by_cases A:p<ss.length
  ·obtain⟨b,aq,ac,_,ar⟩:=(h.below m NLN).cells p A;subst ac;have ad:(p:Int)<(ss.length:Int):=by omega
   by_cases o:q<tt.length
   ·obtain⟨ae,af,M,_,ag⟩:=(L.below m NLN).cells q o;subst M;have ah:(q:Int)<(tt.length:Int):=by omega
    have eq:((q:Int)==(tt.length:Int))=false:=zA.2 (by omega);have ai:((p:Int)==(ss.length:Int))=false:=zA.2 (by omega);cases N:Op.bytesLess (Aw ss p).toList (Aw tt q).toList
    ·cases O:Op.bytesLess (Aw tt q).toList (Aw ss p).toList
     ·go_wp2
      go_quiet (fail)
      go_wp2
      go_quiet (fail)
      go_wp2_with (first
       |(go_at_call 207;refine(LU _ _).mono ?_;rintro e I ⟨rfl,d⟩;rw[d];clear d)
       |(at_builtin;refine jk _ rfl _ _ 46 rfl w.heap.size 9 i (Q jU) 1 16 underlying46 hi D E F rfl (by decide) _ _ _ rfl (jV (DK l) _) ⟨wr.heap.size,0,none⟩ 1 1 [Q (Aw ss p)] rfl rfl ?c1 ?c2 ?c3 ?c4 ?c5 ?_))
      case c1=>exact cell_one_new _ _ _
      case c2=>intro u f;simp at f;subst f;rfl
      case c3=>unfold jM;omega
      case c4=>omega
      case c5=>simp;omega
      intro J r s g _;have t:Ah w r:=((jg m _).alloc G _).grown g (by simp;omega) (fun k y=>(l.lt k y).1);clear g;go_wp2
      go_roundw
      case rel=>exact⟨p+1,q+1,_,by go_num,by go_num,(hm.both hs z A o N O).1,(C.both hm hs A o N O),by rw[zC];simp only[jY,jx];omega,by rw[zR,zC];exact s,t⟩
      case measure=>simp[intOf];omega
     ·have B:p<ss.length->sl (Aw tt q) (Aw ss p)=true:=fun _=>O;go_wp2
      go_quiet (fail)
      go_wp2
      go_quiet (fail)
      go_wp2_with (first
       |(go_at_call 207;refine(LU _ _).mono ?_;rintro e I ⟨rfl,d⟩;rw[d];clear d)
       |(at_builtin;refine jk _ rfl _ _ 46 rfl w.heap.size 9 i (Q jU) 1 16 underlying46 hi D E F rfl (by decide) _ _ _ rfl (jV (DK l) _) ⟨wr.heap.size,0,none⟩ 1 1 [Q (Aw tt q)] rfl rfl ?c1 ?c2 ?c3 ?c4 ?c5 ?_))
      case c1=>exact cell_one_new _ _ _
      case c2=>intro u f;simp at f;subst f;rfl
      case c3=>unfold jM;omega
      case c4=>omega
      case c5=>simp;omega
      intro J r s g _;have t:Ah w r:=((jg m _).alloc G _).grown g (by simp;omega) (fun k y=>(l.lt k y).1);clear g;go_wp2
      go_roundw
      case rel=>exact⟨p,q+1,_,by go_num,by go_num,(hm.right hs o (fun hp=>B hp)).1,(C.right hm z o),by rw[zC];simp only[jY,jx];omega,by rw[zR,zC];exact s,t⟩
      case measure=>simp[intOf];omega
    ·have B:q<tt.length->sl (Aw ss p) (Aw tt q)=true:=fun _=>N;go_wp2
     go_quiet (fail)
     go_wp2_with (first
      |(go_at_call 207;refine(LU _ _).mono ?_;rintro e I ⟨rfl,d⟩;rw[d];clear d)
      |(at_builtin;refine jk _ rfl _ _ 46 rfl w.heap.size 9 i (Q jU) 1 16 underlying46 hi D E F rfl (by decide) _ _ _ rfl (jV (DK l) _) ⟨wr.heap.size,0,none⟩ 1 1 [Q (Aw ss p)] rfl rfl ?c1 ?c2 ?c3 ?c4 ?c5 ?_))
     case c1=>exact cell_one_new _ _ _
     case c2=>intro u f;simp at f;subst f;rfl
     case c3=>unfold jM;omega
     case c4=>omega
     case c5=>simp;omega
     intro J r s g _;have t:Ah w r:=((jg m _).alloc G _).grown g (by simp;omega) (fun k y=>(l.lt k y).1);clear g;go_wp2
     go_roundw
     case rel=>exact⟨p+1,q,_,by go_num,by go_num,(hm.left z A (fun hq=>B hq)).1,(C.left hm hs A),by rw[zC];simp only[jY,jx];omega,by rw[zR,zC];exact s,t⟩
     case measure=>simp[intOf];omega
   ·have eq:((q:Int)==(tt.length:Int))=true:=zM.2 (by omega);have B:q<tt.length->sl (Aw ss p) (Aw tt q)=true:=fun aj=>absurd aj o;go_wp2
    go_quiet (fail)
    go_wp2_with (first
     |(go_at_call 207;refine(LU _ _).mono ?_;rintro e I ⟨rfl,d⟩;rw[d];clear d)
     |(at_builtin;refine jk _ rfl _ _ 46 rfl w.heap.size 9 i (Q jU) 1 16 underlying46 hi D E F rfl (by decide) _ _ _ rfl (jV (DK l) _) ⟨wr.heap.size,0,none⟩ 1 1 [Q (Aw ss p)] rfl rfl ?c1 ?c2 ?c3 ?c4 ?c5 ?_))
    case c1=>exact cell_one_new _ _ _
    case c2=>intro u f;simp at f;subst f;rfl
    case c3=>unfold jM;omega
    case c4=>omega
    case c5=>simp;omega
    intro J r s g _;have t:Ah w r:=((jg m _).alloc G _).grown g (by simp;omega) (fun k y=>(l.lt k y).1);clear g;go_wp2
    go_roundw
    case rel=>exact⟨p+1,q,_,by go_num,by go_num,(hm.left z A (fun hq=>B hq)).1,(C.left hm hs A),by rw[zC];simp only[jY,jx];omega,by rw[zR,zC];exact s,t⟩
    case measure=>simp[intOf];omega
  ·by_cases o:q<tt.length
   ·obtain⟨ae,af,M,_,ag⟩:=(L.below m NLN).cells q o;subst M;have ah:(q:Int)<(tt.length:Int):=by omega
    have eq:((q:Int)==(tt.length:Int))=false:=zA.2 (by omega);have ai:((p:Int)==(ss.length:Int))=true:=zM.2 (by omega);have ad:decide ((p:Int)<(ss.length:Int))=false:=by simp;omega
    have B:p<ss.length->sl (Aw tt q) (Aw ss p)=true:=fun ak=>absurd ak A;go_wp2
    go_quiet (fail)
    go_wp2
    go_quiet (fail)
    go_wp2_with (first
     |(go_at_call 207;refine(LU _ _).mono ?_;rintro e I ⟨rfl,d⟩;rw[d];clear d)
     |(at_builtin;refine jk _ rfl _ _ 46 rfl w.heap.size 9 i (Q jU) 1 16 underlying46 hi D E F rfl (by decide) _ _ _ rfl (jV (DK l) _) ⟨wr.heap.size,0,none⟩ 1 1 [Q (Aw tt q)] rfl rfl ?c1 ?c2 ?c3 ?c4 ?c5 ?_))
    case c1=>exact cell_one_new _ _ _
    case c2=>intro u f;simp at f;subst f;rfl
    case c3=>unfold jM;omega
    case c4=>omega
    case c5=>simp;omega
    intro J r s g _;have t:Ah w r:=((jg m _).alloc G _).grown g (by simp;omega) (fun k y=>(l.lt k y).1);clear g;go_wp2
    go_roundw
    case rel=>exact⟨p,q+1,_,by go_num,by go_num,(hm.right hs o (fun hp=>B hp)).1,(C.right hm z o),by rw[zC];simp only[jY,jx];omega,by rw[zR,zC];exact s,t⟩
    case measure=>simp[intOf];omega
   ·have e1:p=ss.length:=by omega
    have e2:q=tt.length:=by omega
    subst e1;subst e2;go_wp2
    go_ret
    obtain⟨x,H,hf⟩:=Bo l;subst hf;exact⟨x,H,K,rfl,l,m,C⟩
end Go.Proofs.YteiieikcjcfkkaaGreatDoor
