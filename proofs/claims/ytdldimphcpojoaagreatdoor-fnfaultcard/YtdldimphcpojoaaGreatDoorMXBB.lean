/-
  HJ, HK, HL, HM, HN. Own work.
-/
import Derived.Test.YtdldimphcpojoaaGreatDoorMXBA
import Derived.Deep.AppendLies
import Derived.Test.YtdldimphcpojoaaGreatDoorMXAO
namespace Go.Proofs.YtdldimphcpojoaaGreatDoor
set_option maxRecDepth 100000
set_option maxHeartbeats 12800000
open Go.RowKit
set_option linter.unusedVariables false
def YQ (T:List Af) (of:List (List UInt8)) (lo hi:Nat) (R:Int) (w:World) (va vd vi:Value) (wr:World):Prop:=
 ∃ (k:Nat) (pe:Bool) (d acc:Int),lo≤k∧k≤hi∧va= .int .i64 acc∧vd= .int .i64 d∧vi= .int .i64 (k:Int)∧-(k:Int)≤d∧d≤k∧(k=lo→pe=false)∧(∀ j (hj:j < T.length),k=j+1→lo < k→pe=Dv T[j])∧(((T.take hi).drop k).foldl (Cl of) ⟨pe,d,k,acc⟩).acc=R∧Below w.heap.size w wr
theorem Vk (x:List UInt8)(of:List (List UInt8))(t:Af)(k acc:Int):(if (x ::of).any (fun y=>see y t) then k else acc)=(if of.any (fun y=>see y t) then k else if see x t then k else acc):=by
 rw[List.any_cons];cases see x t <;> cases of.any (fun y=>see y t) <;> rfl
def Yj (of:List (List UInt8)) (t:Af) (k A:Int) (n:Nat) (w:World) (va vp:Value) (wi:World):Prop:=
 ∃ (p:Nat) (av:Int),p≤n∧vp= .int .i64 (p:Int)∧va= .int .i64 av∧(if (of.drop p).any (fun x=>see x t) then k else av)=A∧Below w.heap.size w wi
theorem Yq {of:List (List UInt8)}{t:Af}{k b c:Int}{n p:Nat}{w:World}(h:p < n){x:List UInt8}(d:of.drop p=x ::of.drop (p+1))(f:(if (of.drop p).any (fun x=>see x t) then k else c)=b)(a:Int)(w':World)(g:Below w.heap.size w w')(e:a=if see x t then k else c):Yj of t k b n w (.int .i64 a) (.int .i64 ((p:Int)+1)) w':=by
 refine ⟨p+1,a,by omega,by rw[Int.natCast_add];rfl,rfl, ?_,g⟩;rw[← f,d,Vk,e]
theorem Iq {b:Bool}(h:b=false): ¬ b=true:=by rw[h];decide
theorem Yr {of:List (List UInt8)}{t:Af}{k a b:Int}{n p:Nat}(hl:of.length=n)(d: ¬ p < n)(c:(if (of.drop p).any (fun x=>see x t) then k else b)=a):a=b:=by
 rw[List.drop_eq_nil_of_le (by omega)] at c;exact c.symm
theorem CQ (n p:Nat)(h:p < n):n - ((p:Int)+1).toNat < n - (p:Int).toNat:=by omega
theorem Mk {w:World}{a1 a5 c:Nat}{T:List Af}(h:Ja w a1 a5 c T)(hl:T.length≤4000)(lo hi:Nat)(a6:lo≤hi)(bg:hi≤T.length)(aR aS n a2:Nat)(of:List (List UInt8))(aE:Bg w (some ⟨aR,aS,none⟩) n a2 (of.map Ax)):
  Calls Tryz.prog 59 #[.pointer (some ⟨a1,0,none⟩),.int .i64 (lo:Int),.int .i64 (hi:Int),.slice (some ⟨aR,aS,none⟩) n a2] w fun r w'=>r= .returned (.int .i64 (((T.take hi).drop lo).foldl (Cl of) ⟨false,0,lo,-1⟩).acc)∧Below w.heap.size w w':=by
 have a3:=Ab (fun (w':World) (f:Below w.heap.size w w') (i:Nat) (hi:i < T.length) (s:List UInt8) (aF:ByteArray) (hs:aF=Ax s)=>Ga (h.below f) i hi s aF hs);have aG:=Ab (fun (w':World) (f:Below w.heap.size w w') (i:Nat) (hi:i < T.length)=>Vj (h.below f) i hi);have aH:=Ab (fun (w':World) (f:Below w.heap.size w w') (p:Nat) (ay:p < n) (z:p < of.length)=>show w'.cell? ⟨aR,aS+p,none⟩=some (.string (Ax of[p])) from by
  obtain ⟨b,bh,e,_,hc⟩:=(aE.below f NLN).cells p ay;injection e with e;injection e with e1 e2;subst e1 e2;rw[hc,Cf _ _ (by simpa using z)];simp)
 have aT:=Ab (show YQ T of lo hi (((T.take hi).drop lo).foldl (Cl of) ⟨false,0,lo,-1⟩).acc w (.int .i64 (-1)) (.int .i64 0) (.int .i64 (lo:Int)) w from ⟨lo,false,0,-1,NLN,a6,rfl,rfl,rfl,by omega,by omega,fun _=>rfl,fun j a7 h1 h2=>by omega,rfl,BRN⟩);generalize (((T.take hi).drop lo).foldl (Cl of) ⟨false,0,lo,-1⟩).acc=R at aT ⊢;have bi:n≤9223372036854775807:=by have:=aE.cap;have:=aE.small;unfold maxLen at this;omega
 have ad:=Ab (show of.length=n by have:=aE.len;simp at this;omega);clear h aE;go_enter Tryz.func59,Tryz.ntmps59
 go_wp2_with fail
 go_loopw [9,10,11] (fun ac a8 aU wr=>YQ T of lo hi R w ac a8 aU wr) (fun _ _ aU _=>hi - (intOf aU).toNat)
 case atStart=>exact Aa aT
 case round=>
  clear aT;obtain ⟨k,pe,d,acc,h1,h2,rfl,rfl,rfl,h3,h4,aV,aW,aL,aM⟩:=hrel;by_cases hk:k < hi
  ·have a9:(k:Int) < (hi:Int):=by omega
   have aN:k < T.length:=by omega
   have a4:=Ab (show (T.take hi).drop k=T[k] ::(T.take hi).drop (k+1) by rw[List.drop_eq_getElem_cons (by simp;omega)];simp);have y:wrap64 (d+1)=d+1:=by simp[wrap64];omega
   have A:wrap64 (d - 1)=d - 1:=by simp[wrap64];omega
   have af:=Ab (fun (w':World) (f:Below w.heap.size w w') (s:List UInt8)=>Aa a3 w' f k aN s (Ax s) rfl);have az:=Ab (fun (w':World) (f:Below w.heap.size w w') (s:List UInt8) (aF:ByteArray) (hs:aF=Ax s)=>Aa a3 w' f k aN s aF hs);have aI:=Ab aV;have aJ:=Ab aW;have q:=Ab (fun (aw L:Int) (w':World) (f:Below w.heap.size w w') (e1:dL d T[k]=aw) (e2:(if aw > 0∨pe=false then acc else if of.any (fun x=>see x T[k]) then (k:Int) else acc)=L) (e3:aw=d∨aw=d+1∨aw=d - 1)=>show YQ T of lo hi R w (.int .i64 L) (.int .i64 aw) (.int .i64 ((k:Int)+1)) w' from ⟨k+1,Dv T[k],aw,L,by omega,by omega,rfl,rfl,by rw[Int.natCast_add];rfl,by omega,by omega,fun h=>by omega,fun j a7 h5 h6=>by
     have e:k=j:=by omega
     subst e;rfl,by
     rw[← aL,Aa a4,List.foldl_cons,Cl,Int.natCast_add];dsimp only;rw[e1,e2];rfl,f⟩)
   have B:Hid (hi - ((k:Int)+1).toNat < hi - (k:Int).toNat):=Ab (by omega);have O:=Ab (And.intro h1 (And.intro h2 (And.intro hk aN)));generalize T[k]=t at af az q;clear aL h3 h4 aV aW a4 h1 h2 hk aN;go_wp2_with fail
   refine (Aa af _ aM AD).mono ?_;rintro r bj ⟨rfl,ba⟩;have aA:=aM.trans (ba.mono aM.size);dsimp only;cases aB:see AD t
   case true=>
    have aX:=Ag aB (s':=AT) (by decide);have aY:=Ag aB (s':=BK) (by decide);have ag:=Ab (EV (.inl aB) d);clear aB;go_wp2_with fail
    rw[y];refine (Aa af _ aA AT).mono ?_;rintro r bb ⟨rfl,aZ⟩;have ae:=aA.trans (aZ.mono aA.size);dsimp only;rw[aX];go_wp2_with fail
    refine (Aa af _ ae BK).mono ?_;rintro r aC ⟨rfl,aK⟩;have M:=ae.trans (aK.mono ae.size);dsimp only;rw[aY];have l:=Ab (show dL d t=d+1 from Aa ag);by_cases P:(0 :Int) < d+1
    ·have a:=Ab (Aa q (d+1) acc aC M (Aa l) (by rw[if_pos (.inl P)]) (by omega));go_wp2_with fail
     exact ⟨by first | exact Aa a | (rw[y];exact Aa a) | (rw[A];exact Aa a),Aa B⟩
    by_cases u:k=lo
    ·have a:=Ab (Aa q (d+1) acc aC M (Aa l) (by rw[if_pos (.inr (Aa aI u))]) (by omega));have ah:((k:Int)==(lo:Int))=true:=by rw[u];simp
     clear u;go_wp2_with fail
     exact ⟨by first | exact Aa a | (rw[y];exact Aa a) | (rw[A];exact Aa a),Aa B⟩
    have ah:((k:Int)==(lo:Int))=false:=by
     rw[beq_eq_false_iff_ne];omega
    obtain ⟨g,C⟩:∃ g,k=g+1:=⟨k - 1,by have:=(Aa O).1;omega⟩
    have aO:=Ab C;have ai:=Ab (show (k:Int) - 1=(g:Int) by omega);have Q:g < T.length:=by have:=(Aa O).2.2.2;omega
    have E:=Ab (Aa aJ g Q C (by have:=(Aa O).1;omega));have F:=Ab (fun (w':World) (f:Below w.heap.size w w')=>Aa aG w' f g Q);generalize Dv T[g]=aj at E F;clear C u;go_wp2_with fail
    rw[Aa ai];refine (Aa F _ M).mono ?_;rintro r ak ⟨rfl,al⟩;have S:=M.trans (al.mono M.size);dsimp only;cases aj
    ·have a:=Ab (Aa q (d+1) acc ak S (Aa l) (by rw[if_pos (.inr (Aa E))]) (by omega));go_wp2_with fail
     exact ⟨by first | exact Aa a | (rw[y];exact Aa a) | (rw[A];exact Aa a),Aa B⟩
    have U:=Ab (fun (L:Int) (w':World) (f:Below w.heap.size w w') (e:(if of.any (fun x=>see x t) then (k:Int) else acc)=L)=>Aa q (d+1) L w' f (Aa l) (by rw[if_neg (by rintro (h | h);omega;rw[Aa E] at h;cases h)];exact e) (by omega));clear q;have H:=Ab (show (if (of.drop 0).any (fun x=>see x t) then (k:Int) else acc)=(if of.any (fun x=>see x t) then (k:Int) else acc) from rfl);generalize (if of.any (fun x=>see x t) then (k:Int) else acc)=ao at U H;clear P l F y A;go_wp2_with fail
    go_loopw [9,13,56] (fun ac _ I ap=>Yj of t (k:Int) ao n w ac I ap) (fun _ _ I _=>n - (intOf I).toNat)
    case atStart=>exact ⟨0,acc,Nat.zero_le _,rfl,rfl,Aa H,S⟩
    case round=>
     clear H;obtain ⟨p,V,ay,rfl,rfl,W,m⟩:=hrel;have X:=Ab W;clear W;by_cases o:p < n
     ·have aq:(p:Int) < (n:Int):=by omega
      have z:p < of.length:=by have:=Aa ad;omega
      have J:=List.drop_eq_getElem_cons z;have hc:=Aa aH wr m p o z;obtain ⟨x,hx⟩:∃ x,x=of[p]:=⟨_,rfl⟩
      rw[← hx] at hc J;have ar:=Ab J;clear hx J;have Y:=Ab (CQ n p o);have Z:=Ab (fun (au:Int) (w':World) (f:Below w.heap.size w w')=>Yq (w:=w) o (Aa ar) (Aa X) au w' f);clear z;go_wp2_with fail
      refine (Aa az _ m x _ rfl).mono ?_;rintro r aa ⟨rfl,av⟩;have ab:=m.trans (av.mono m.size);dsimp only;cases v:see x t
      ·have K:=Ab (Aa Z V aa ab (if_neg (Iq v)).symm);clear v;go_wp2_with fail
       exact ⟨Aa K,Aa Y⟩
      ·have K:=Ab (Aa Z k aa ab (if_pos v).symm);clear v;go_wp2_with fail
       exact ⟨Aa K,Aa Y⟩
     ·have aq: ¬ ((p:Int) < (n:Int)):=by omega
      have a:=Ab (Aa U V _ m (Yr (Aa ad) o (Aa X)));clear o;go_wp2_with fail
      exact ⟨Aa a,Aa B⟩
   have bc:=Ab aB;clear aB;go_wp2_with fail
   refine (Aa af _ aA BV).mono ?_;rintro r bb ⟨rfl,aZ⟩;have ae:=aA.trans (aZ.mono aA.size);dsimp only;cases aD:see BV t
   case true=>
    have aX:=Ag aD (s':=AT) (by decide);have aY:=Ag aD (s':=BK) (by decide);have ag:=Ab (EV (.inr aD) d);clear aD;go_wp2_with fail
    rw[y];refine (Aa af _ ae AT).mono ?_;rintro r aC ⟨rfl,aK⟩;have M:=ae.trans (aK.mono ae.size);dsimp only;rw[aX];go_wp2_with fail
    refine (Aa af _ M BK).mono ?_;rintro r ax ⟨rfl,a0⟩;have N:=M.trans (a0.mono M.size);dsimp only;rw[aY];have l:=Ab (show dL d t=d+1 from Aa ag);by_cases P:(0 :Int) < d+1
    ·have a:=Ab (Aa q (d+1) acc ax N (Aa l) (by rw[if_pos (.inl P)]) (by omega));go_wp2_with fail
     exact ⟨by first | exact Aa a | (rw[y];exact Aa a) | (rw[A];exact Aa a),Aa B⟩
    by_cases u:k=lo
    ·have a:=Ab (Aa q (d+1) acc ax N (Aa l) (by rw[if_pos (.inr (Aa aI u))]) (by omega));have ah:((k:Int)==(lo:Int))=true:=by rw[u];simp
     clear u;go_wp2_with fail
     exact ⟨by first | exact Aa a | (rw[y];exact Aa a) | (rw[A];exact Aa a),Aa B⟩
    have ah:((k:Int)==(lo:Int))=false:=by
     rw[beq_eq_false_iff_ne];omega
    obtain ⟨g,C⟩:∃ g,k=g+1:=⟨k - 1,by have:=(Aa O).1;omega⟩
    have aO:=Ab C;have ai:=Ab (show (k:Int) - 1=(g:Int) by omega);have Q:g < T.length:=by have:=(Aa O).2.2.2;omega
    have E:=Ab (Aa aJ g Q C (by have:=(Aa O).1;omega));have F:=Ab (fun (w':World) (f:Below w.heap.size w w')=>Aa aG w' f g Q);generalize Dv T[g]=aj at E F;clear C u;go_wp2_with fail
    rw[Aa ai];refine (Aa F _ N).mono ?_;rintro r ak ⟨rfl,al⟩;have S:=N.trans (al.mono N.size);dsimp only;cases aj
    ·have a:=Ab (Aa q (d+1) acc ak S (Aa l) (by rw[if_pos (.inr (Aa E))]) (by omega));go_wp2_with fail
     exact ⟨by first | exact Aa a | (rw[y];exact Aa a) | (rw[A];exact Aa a),Aa B⟩
    have U:=Ab (fun (L:Int) (w':World) (f:Below w.heap.size w w') (e:(if of.any (fun x=>see x t) then (k:Int) else acc)=L)=>Aa q (d+1) L w' f (Aa l) (by rw[if_neg (by rintro (h | h);omega;rw[Aa E] at h;cases h)];exact e) (by omega));clear q;have H:=Ab (show (if (of.drop 0).any (fun x=>see x t) then (k:Int) else acc)=(if of.any (fun x=>see x t) then (k:Int) else acc) from rfl);generalize (if of.any (fun x=>see x t) then (k:Int) else acc)=ao at U H;clear P l F y A;go_wp2_with fail
    go_loopw [9,13,56] (fun ac _ I ap=>Yj of t (k:Int) ao n w ac I ap) (fun _ _ I _=>n - (intOf I).toNat)
    case atStart=>exact ⟨0,acc,Nat.zero_le _,rfl,rfl,Aa H,S⟩
    case round=>
     clear H;obtain ⟨p,V,ay,rfl,rfl,W,m⟩:=hrel;have X:=Ab W;clear W;by_cases o:p < n
     ·have aq:(p:Int) < (n:Int):=by omega
      have z:p < of.length:=by have:=Aa ad;omega
      have J:=List.drop_eq_getElem_cons z;have hc:=Aa aH wr m p o z;obtain ⟨x,hx⟩:∃ x,x=of[p]:=⟨_,rfl⟩
      rw[← hx] at hc J;have ar:=Ab J;clear hx J;have Y:=Ab (CQ n p o);have Z:=Ab (fun (au:Int) (w':World) (f:Below w.heap.size w w')=>Yq (w:=w) o (Aa ar) (Aa X) au w' f);clear z;go_wp2_with fail
      refine (Aa az _ m x _ rfl).mono ?_;rintro r aa ⟨rfl,av⟩;have ab:=m.trans (av.mono m.size);dsimp only;cases v:see x t
      ·have K:=Ab (Aa Z V aa ab (if_neg (Iq v)).symm);clear v;go_wp2_with fail
       exact ⟨Aa K,Aa Y⟩
      ·have K:=Ab (Aa Z k aa ab (if_pos v).symm);clear v;go_wp2_with fail
       exact ⟨Aa K,Aa Y⟩
     ·have aq: ¬ ((p:Int) < (n:Int)):=by omega
      have a:=Ab (Aa U V _ m (Yr (Aa ad) o (Aa X)));clear o;go_wp2_with fail
      exact ⟨Aa a,Aa B⟩
   have bd:=Ab aD;clear aD;go_wp2_with fail
   refine (Aa af _ ae AT).mono ?_;rintro r aC ⟨rfl,aK⟩;have M:=ae.trans (aK.mono ae.size);dsimp only;cases aP:see AT t
   case true=>
    have ag:=Ab (DX (.inl aP) d);clear aP;have l:=Ab (show dL d t=d - 1 from Aa ag);by_cases P:(0 :Int) < d - 1
    ·have a:=Ab (Aa q (d - 1) acc aC M (Aa l) (by rw[if_pos (.inl P)]) (by omega));go_wp2_with fail
     exact ⟨by first | exact Aa a | (rw[y];exact Aa a) | (rw[A];exact Aa a),Aa B⟩
    by_cases u:k=lo
    ·have a:=Ab (Aa q (d - 1) acc aC M (Aa l) (by rw[if_pos (.inr (Aa aI u))]) (by omega));have ah:((k:Int)==(lo:Int))=true:=by rw[u];simp
     clear u;go_wp2_with fail
     exact ⟨by first | exact Aa a | (rw[y];exact Aa a) | (rw[A];exact Aa a),Aa B⟩
    have ah:((k:Int)==(lo:Int))=false:=by
     rw[beq_eq_false_iff_ne];omega
    obtain ⟨g,C⟩:∃ g,k=g+1:=⟨k - 1,by have:=(Aa O).1;omega⟩
    have aO:=Ab C;have ai:=Ab (show (k:Int) - 1=(g:Int) by omega);have Q:g < T.length:=by have:=(Aa O).2.2.2;omega
    have E:=Ab (Aa aJ g Q C (by have:=(Aa O).1;omega));have F:=Ab (fun (w':World) (f:Below w.heap.size w w')=>Aa aG w' f g Q);generalize Dv T[g]=aj at E F;clear C u;go_wp2_with fail
    rw[Aa ai];refine (Aa F _ M).mono ?_;rintro r ak ⟨rfl,al⟩;have S:=M.trans (al.mono M.size);dsimp only;cases aj
    ·have a:=Ab (Aa q (d - 1) acc ak S (Aa l) (by rw[if_pos (.inr (Aa E))]) (by omega));go_wp2_with fail
     exact ⟨by first | exact Aa a | (rw[y];exact Aa a) | (rw[A];exact Aa a),Aa B⟩
    have U:=Ab (fun (L:Int) (w':World) (f:Below w.heap.size w w') (e:(if of.any (fun x=>see x t) then (k:Int) else acc)=L)=>Aa q (d - 1) L w' f (Aa l) (by rw[if_neg (by rintro (h | h);omega;rw[Aa E] at h;cases h)];exact e) (by omega));clear q;have H:=Ab (show (if (of.drop 0).any (fun x=>see x t) then (k:Int) else acc)=(if of.any (fun x=>see x t) then (k:Int) else acc) from rfl);generalize (if of.any (fun x=>see x t) then (k:Int) else acc)=ao at U H;clear P l F y A;go_wp2_with fail
    go_loopw [9,13,56] (fun ac _ I ap=>Yj of t (k:Int) ao n w ac I ap) (fun _ _ I _=>n - (intOf I).toNat)
    case atStart=>exact ⟨0,acc,Nat.zero_le _,rfl,rfl,Aa H,S⟩
    case round=>
     clear H;obtain ⟨p,V,ay,rfl,rfl,W,m⟩:=hrel;have X:=Ab W;clear W;by_cases o:p < n
     ·have aq:(p:Int) < (n:Int):=by omega
      have z:p < of.length:=by have:=Aa ad;omega
      have J:=List.drop_eq_getElem_cons z;have hc:=Aa aH wr m p o z;obtain ⟨x,hx⟩:∃ x,x=of[p]:=⟨_,rfl⟩
      rw[← hx] at hc J;have ar:=Ab J;clear hx J;have Y:=Ab (CQ n p o);have Z:=Ab (fun (au:Int) (w':World) (f:Below w.heap.size w w')=>Yq (w:=w) o (Aa ar) (Aa X) au w' f);clear z;go_wp2_with fail
      refine (Aa az _ m x _ rfl).mono ?_;rintro r aa ⟨rfl,av⟩;have ab:=m.trans (av.mono m.size);dsimp only;cases v:see x t
      ·have K:=Ab (Aa Z V aa ab (if_neg (Iq v)).symm);clear v;go_wp2_with fail
       exact ⟨Aa K,Aa Y⟩
      ·have K:=Ab (Aa Z k aa ab (if_pos v).symm);clear v;go_wp2_with fail
       exact ⟨Aa K,Aa Y⟩
     ·have aq: ¬ ((p:Int) < (n:Int)):=by omega
      have a:=Ab (Aa U V _ m (Yr (Aa ad) o (Aa X)));clear o;go_wp2_with fail
      exact ⟨Aa a,Aa B⟩
   have bf:=Ab aP;clear aP;go_wp2_with fail
   refine (Aa af _ M BK).mono ?_;rintro r ax ⟨rfl,a0⟩;have N:=M.trans (a0.mono M.size);dsimp only;cases aQ:see BK t
   case true=>
    have ag:=Ab (DX (.inr aQ) d);clear aQ;have l:=Ab (show dL d t=d - 1 from Aa ag);by_cases P:(0 :Int) < d - 1
    ·have a:=Ab (Aa q (d - 1) acc ax N (Aa l) (by rw[if_pos (.inl P)]) (by omega));go_wp2_with fail
     exact ⟨by first | exact Aa a | (rw[y];exact Aa a) | (rw[A];exact Aa a),Aa B⟩
    by_cases u:k=lo
    ·have a:=Ab (Aa q (d - 1) acc ax N (Aa l) (by rw[if_pos (.inr (Aa aI u))]) (by omega));have ah:((k:Int)==(lo:Int))=true:=by rw[u];simp
     clear u;go_wp2_with fail
     exact ⟨by first | exact Aa a | (rw[y];exact Aa a) | (rw[A];exact Aa a),Aa B⟩
    have ah:((k:Int)==(lo:Int))=false:=by
     rw[beq_eq_false_iff_ne];omega
    obtain ⟨g,C⟩:∃ g,k=g+1:=⟨k - 1,by have:=(Aa O).1;omega⟩
    have aO:=Ab C;have ai:=Ab (show (k:Int) - 1=(g:Int) by omega);have Q:g < T.length:=by have:=(Aa O).2.2.2;omega
    have E:=Ab (Aa aJ g Q C (by have:=(Aa O).1;omega));have F:=Ab (fun (w':World) (f:Below w.heap.size w w')=>Aa aG w' f g Q);generalize Dv T[g]=aj at E F;clear C u;go_wp2_with fail
    rw[Aa ai];refine (Aa F _ N).mono ?_;rintro r ak ⟨rfl,al⟩;have S:=N.trans (al.mono N.size);dsimp only;cases aj
    ·have a:=Ab (Aa q (d - 1) acc ak S (Aa l) (by rw[if_pos (.inr (Aa E))]) (by omega));go_wp2_with fail
     exact ⟨by first | exact Aa a | (rw[y];exact Aa a) | (rw[A];exact Aa a),Aa B⟩
    have U:=Ab (fun (L:Int) (w':World) (f:Below w.heap.size w w') (e:(if of.any (fun x=>see x t) then (k:Int) else acc)=L)=>Aa q (d - 1) L w' f (Aa l) (by rw[if_neg (by rintro (h | h);omega;rw[Aa E] at h;cases h)];exact e) (by omega));clear q;have H:=Ab (show (if (of.drop 0).any (fun x=>see x t) then (k:Int) else acc)=(if of.any (fun x=>see x t) then (k:Int) else acc) from rfl);generalize (if of.any (fun x=>see x t) then (k:Int) else acc)=ao at U H;clear P l F y A;go_wp2_with fail
    go_loopw [9,13,56] (fun ac _ I ap=>Yj of t (k:Int) ao n w ac I ap) (fun _ _ I _=>n - (intOf I).toNat)
    case atStart=>exact ⟨0,acc,Nat.zero_le _,rfl,rfl,Aa H,S⟩
    case round=>
     clear H;obtain ⟨p,V,ay,rfl,rfl,W,m⟩:=hrel;have X:=Ab W;clear W;by_cases o:p < n
     ·have aq:(p:Int) < (n:Int):=by omega
      have z:p < of.length:=by have:=Aa ad;omega
      have J:=List.drop_eq_getElem_cons z;have hc:=Aa aH wr m p o z;obtain ⟨x,hx⟩:∃ x,x=of[p]:=⟨_,rfl⟩
      rw[← hx] at hc J;have ar:=Ab J;clear hx J;have Y:=Ab (CQ n p o);have Z:=Ab (fun (au:Int) (w':World) (f:Below w.heap.size w w')=>Yq (w:=w) o (Aa ar) (Aa X) au w' f);clear z;go_wp2_with fail
      refine (Aa az _ m x _ rfl).mono ?_;rintro r aa ⟨rfl,av⟩;have ab:=m.trans (av.mono m.size);dsimp only;cases v:see x t
      ·have K:=Ab (Aa Z V aa ab (if_neg (Iq v)).symm);clear v;go_wp2_with fail
       exact ⟨Aa K,Aa Y⟩
      ·have K:=Ab (Aa Z k aa ab (if_pos v).symm);clear v;go_wp2_with fail
       exact ⟨Aa K,Aa Y⟩
     ·have aq: ¬ ((p:Int) < (n:Int)):=by omega
      have a:=Ab (Aa U V _ m (Yr (Aa ad) o (Aa X)));clear o;go_wp2_with fail
      exact ⟨Aa a,Aa B⟩
   have ag:=Ab (show dL d t=d by simp[dL,MM,N5,Aa bc,Aa bd,Aa bf,aQ]);clear aQ;have l:=Ab (show dL d t=d from Aa ag);by_cases P:(0 :Int) < d
   ·have a:=Ab (Aa q (d) acc ax N (Aa l) (by rw[if_pos (.inl P)]) (by omega));go_wp2_with fail
    exact ⟨by first | exact Aa a | (rw[y];exact Aa a) | (rw[A];exact Aa a),Aa B⟩
   by_cases u:k=lo
   ·have a:=Ab (Aa q (d) acc ax N (Aa l) (by rw[if_pos (.inr (Aa aI u))]) (by omega));have ah:((k:Int)==(lo:Int))=true:=by rw[u];simp
    clear u;go_wp2_with fail
    exact ⟨by first | exact Aa a | (rw[y];exact Aa a) | (rw[A];exact Aa a),Aa B⟩
   have ah:((k:Int)==(lo:Int))=false:=by
    rw[beq_eq_false_iff_ne];omega
   obtain ⟨g,C⟩:∃ g,k=g+1:=⟨k - 1,by have:=(Aa O).1;omega⟩
   have aO:=Ab C;have ai:=Ab (show (k:Int) - 1=(g:Int) by omega);have Q:g < T.length:=by have:=(Aa O).2.2.2;omega
   have E:=Ab (Aa aJ g Q C (by have:=(Aa O).1;omega));have F:=Ab (fun (w':World) (f:Below w.heap.size w w')=>Aa aG w' f g Q);generalize Dv T[g]=aj at E F;clear C u;go_wp2_with fail
   rw[Aa ai];refine (Aa F _ N).mono ?_;rintro r ak ⟨rfl,al⟩;have S:=N.trans (al.mono N.size);dsimp only;cases aj
   ·have a:=Ab (Aa q (d) acc ak S (Aa l) (by rw[if_pos (.inr (Aa E))]) (by omega));go_wp2_with fail
    exact ⟨by first | exact Aa a | (rw[y];exact Aa a) | (rw[A];exact Aa a),Aa B⟩
   have U:=Ab (fun (L:Int) (w':World) (f:Below w.heap.size w w') (e:(if of.any (fun x=>see x t) then (k:Int) else acc)=L)=>Aa q (d) L w' f (Aa l) (by rw[if_neg (by rintro (h | h);omega;rw[Aa E] at h;cases h)];exact e) (by omega));clear q;have H:=Ab (show (if (of.drop 0).any (fun x=>see x t) then (k:Int) else acc)=(if of.any (fun x=>see x t) then (k:Int) else acc) from rfl);generalize (if of.any (fun x=>see x t) then (k:Int) else acc)=ao at U H;clear P l F y A;go_wp2_with fail
   go_loopw [9,13,56] (fun ac _ I ap=>Yj of t (k:Int) ao n w ac I ap) (fun _ _ I _=>n - (intOf I).toNat)
   case atStart=>exact ⟨0,acc,Nat.zero_le _,rfl,rfl,Aa H,S⟩
   case round=>
    clear H;obtain ⟨p,V,ay,rfl,rfl,W,m⟩:=hrel;have X:=Ab W;clear W;by_cases o:p < n
    ·have aq:(p:Int) < (n:Int):=by omega
     have z:p < of.length:=by have:=Aa ad;omega
     have J:=List.drop_eq_getElem_cons z;have hc:=Aa aH wr m p o z;obtain ⟨x,hx⟩:∃ x,x=of[p]:=⟨_,rfl⟩
     rw[← hx] at hc J;have ar:=Ab J;clear hx J;have Y:=Ab (CQ n p o);have Z:=Ab (fun (au:Int) (w':World) (f:Below w.heap.size w w')=>Yq (w:=w) o (Aa ar) (Aa X) au w' f);clear z;go_wp2_with fail
     refine (Aa az _ m x _ rfl).mono ?_;rintro r aa ⟨rfl,av⟩;have ab:=m.trans (av.mono m.size);dsimp only;cases v:see x t
     ·have K:=Ab (Aa Z V aa ab (if_neg (Iq v)).symm);clear v;go_wp2_with fail
      exact ⟨Aa K,Aa Y⟩
     ·have K:=Ab (Aa Z k aa ab (if_pos v).symm);clear v;go_wp2_with fail
      exact ⟨Aa K,Aa Y⟩
    ·have aq: ¬ ((p:Int) < (n:Int)):=by omega
     have a:=Ab (Aa U V _ m (Yr (Aa ad) o (Aa X)));clear o;go_wp2_with fail
     exact ⟨Aa a,Aa B⟩
  ·have a9: ¬ ((k:Int) < (hi:Int)):=by omega
   have a:=Ab (show R=acc by rw[← aL,List.drop_eq_nil_of_le (by simp;omega)];rfl);clear aL hk aV aW;go_wp2_with fail
   go_ret
   exact ⟨by rw[Aa a];rfl,aM⟩
set_option maxHeartbeats 6400000
def YR (T:List Af) (lo:Nat) (R:List ByteArray) (w:World) (vo vi:Value) (wr:World):Prop:=
 ∃ (k:Nat) (acc:List ByteArray) (x:Option Addr) (cx:Nat),lo < k∧k≤T.length∧vo= .slice x acc.length cx∧vi= .int .i64 (k:Int)∧acc.length≤k∧wr.ownsRow w.heap.size 9 1 (.slice x acc.length cx) acc.length (acc.map Value.string)∧acc ++I1 (T.drop k)=R∧Below w.heap.size w wr
theorem JH {w:World}{K X c:Nat}{T:List Af}(h:Ja w K X c T)(hl:T.length≤4000)(lo:Nat)(ap:lo < T.length):
  Calls Tryz.prog 13 #[.pointer (some ⟨K,0,none⟩),.int .i64 (lo:Int)] w fun r w'=>(∃ x g,r= .returned (.slice x (I1 (T.drop (lo+1))).length g)∧w'.ownsRow w.heap.size 9 1 (.slice x (I1 (T.drop (lo+1))).length g) (I1 (T.drop (lo+1))).length ((I1 (T.drop (lo+1))).map Value.string))∧Below w.heap.size w w':=by
 obtain ⟨i,hi,Y,Z,aa⟩:=info_parts Kc;have ab:=Ab (fun (w':World) (b:Below w.heap.size w w') (i:Nat) (hi:i < T.length) (s:List UInt8)=>Ga (h.below b) i hi s (Ax s) rfl);have o:=Ab (fun (w':World) (b:Below w.heap.size w w')=>h.below b);have z:=Ab (show YR T lo (I1 (T.drop (lo+1))) w (.slice none 0 0) (.int .i64 ((lo:Int)+1)) w from ⟨lo+1, [],none,0,by omega,by omega,rfl,by rw[Int.natCast_add];rfl,by simp,World.ownsRow_nil _ _ _ _,rfl,BRN⟩);generalize I1 (T.drop (lo+1))=R at z ⊢;clear h;go_enter Tryz.func13,Tryz.ntmps13
 go_wp2_with fail
 go_loopw [5,6] (fun ac A wr=>YR T lo R w ac A wr) (fun _ A _=>T.length - (intOf A).toNat)
 case atStart=>exact Aa z
 case round=>
  clear z;obtain ⟨k,acc,x,g,h1,h2,rfl,rfl,h3,p,v,j⟩:=hrel;have ad:=(Aa o wr j).at0;by_cases hk:k < T.length
  ·have ae:(k:Int) < (T.length:Int):=by omega
   obtain ⟨B,C,q2,q3⟩:=(Aa o wr j).at4 k hk;have L:=Ab (fun (w':World) (b:Below w.heap.size w w')=>(Aa o w' b).at4 k hk);have E:=List.drop_eq_getElem_cons hk;have M:=Ab (fun (w':World) (b:Below w.heap.size w w') (s:List UInt8)=>Aa ab w' b k hk s);generalize T[k]=t at E M L B C q2 q3;have F:=Ab E;have H:=Ab v;have N:=Ab (CQ T.length k hk);have O:=Ab (fun (d:List ByteArray) (I:Option Addr) (J:Nat) (w':World) (b:Below w.heap.size w w') (e:d ++I1 (T.drop (k+1))=R) (af:d.length≤k+1) (ag:w'.ownsRow w.heap.size 9 1 (.slice I d.length J) d.length (d.map Value.string))=>show YR T lo R w (.slice I d.length J) (.int .i64 ((k:Int)+1)) w' from ⟨k+1,d,I,J,by omega,by omega,rfl,by rw[Int.natCast_add];rfl,af,ag,e,b⟩);clear E v hk C q2 q3 B;go_wp2_with fail
   refine (Aa M _ j BK).mono ?_;rintro r f ⟨rfl,P⟩;have l:=j.trans (P.mono j.size);have n:=Ac (w':=f) p (fun q hq=>P.block q (p.lt q hq).2);obtain ⟨B,C,q2,q3⟩:=Aa L f l;have a1:=(Aa o f l).at0;dsimp only;clear p ad;cases y:see BK t
   ·have Q:=Ab y;clear y;by_cases m:t.kind=2
    ·have e2:(t.kind== 2)=true:=by rw[m];rfl
     have ah:=Ab m;have S:=n.alloc (.cells #[.string t.text] 9);have ai:=l.size;clear m;go_wp2_with (at_builtin;refine wpList_append_lies _ rfl _ _ 34 rfl w.heap.size 9 i (.string ByteArray.empty) 1 16 Tryz.underlying34 hi Y Z aa rfl (by decide) _ _ _ rfl S ⟨f.heap.size,0,none⟩ 1 1 [.string t.text] rfl rfl (cell_one_new f _ _) ?c2 (by decide) ?c3 ?c4 ?c5 (f.heap.size+1) (by simp) ?_)
     case c2=>intro u hu;rw[List.mem_singleton.1 hu];rfl
     case c3=>unfold maxLen;omega
     case c4=>omega
     case c5=>simp;omega
     intro gk aj ak U V al ao;have W:=(l.alloc ai (.cells #[.string t.text] 9)).grown V (by simp;omega) (fun q hq=>(n.lt q hq).1);have a:=Ab (Aa O (acc ++ [t.text]) (some ⟨gk,0,none⟩) aj ak W (by rw[← Aa H,Aa F,I1,Aa Q,if_neg (by decide),if_pos (Aa ah),List.append_assoc];rfl) (by simp;omega) (by rw[List.length_append,List.map_append];exact U));rw[List.length_append] at a;clear U V al ao n S W;go_wp2_with fail
     exact ⟨Aa a,Aa N⟩
    ·have e2:(t.kind== 2)=false:=by simpa using m
     have a:=Ab (Aa O acc x g f l (by rw[← Aa H,Aa F,I1,Aa Q,if_neg (by decide),if_neg m]) (by omega) n);clear m;go_wp2_with fail
     exact ⟨Aa a,Aa N⟩
   ·have a:=Ab (show R=acc by rw[← Aa H,Aa F,I1,y,if_pos rfl,List.append_nil]);clear y;go_wp2_with fail
    go_ret
    exact ⟨⟨x,g,by rw[Aa a];rfl,by rw[Aa a];exact n⟩,l⟩
  ·have ae: ¬ ((k:Int) < (T.length:Int)):=by omega
   have a:=Ab (show R=acc by rw[← v,List.drop_eq_nil_of_le (by omega),I1,List.append_nil]);clear v hk;go_wp2_with fail
   go_ret
   exact ⟨⟨x,g,by rw[Aa a];rfl,by rw[Aa a];exact p⟩,j⟩
def Fa:List (List UInt8):= [[43], [45], [42], [47], [37], [124], [38], [92], [61,61], [33,61], [60], [60,61], [105,110], [119,105,116,104,105,110], [97,110,100], [111,114]]
def Zc (w W:World) (s:List UInt8) (p0:Nat) (vi:Value) (wr:World):Prop:=∃ p:Nat,p≤p0∧vi= .int .i64 (p:Int)∧wr=W
theorem OJ (s:List UInt8)(a:Nat)(h0:Fa[a]? =some s)(f:∀ j,j < a→Fa[j]? ≠some s)(w:World):
  Calls Tryz.prog 60 #[.string (Ax s)] w fun r w'=>r= .returned (.int .i64 (11+(a:Int)))∧Below w.heap.size w w':=by
 have m:a < 16:=(List.getElem?_eq_some_iff.1 h0).1;have g:=Ab (And.intro h0 f);have i:=(Below.refl w.heap.size w).alloc NLN (.cells #[.string ⟨#[43]⟩,.string ⟨#[45]⟩,.string ⟨#[42]⟩,.string ⟨#[47]⟩,.string ⟨#[37]⟩,.string ⟨#[124]⟩,.string ⟨#[38]⟩,.string ⟨#[92]⟩,.string ⟨#[61,61]⟩,.string ⟨#[33,61]⟩,.string ⟨#[60]⟩,.string ⟨#[60,61]⟩,.string ⟨#[105,110]⟩,.string ⟨#[119,105,116,104,105,110]⟩,.string ⟨#[97,110,100]⟩,.string ⟨#[111,114]⟩] 9);have k:=Ab (fun (p:Nat) (y:List UInt8) (hy:Fa[p]? =some y)=>show (w.alloc (.cells #[.string ⟨#[43]⟩,.string ⟨#[45]⟩,.string ⟨#[42]⟩,.string ⟨#[47]⟩,.string ⟨#[37]⟩,.string ⟨#[124]⟩,.string ⟨#[38]⟩,.string ⟨#[92]⟩,.string ⟨#[61,61]⟩,.string ⟨#[33,61]⟩,.string ⟨#[60]⟩,.string ⟨#[60,61]⟩,.string ⟨#[105,110]⟩,.string ⟨#[119,105,116,104,105,110]⟩,.string ⟨#[97,110,100]⟩,.string ⟨#[111,114]⟩] 9)).cell? ⟨w.heap.size,p,none⟩=some (.string (Ax y)) from by
  have b:p < 16:=(List.getElem?_eq_some_iff.1 hy).1;rw[(AJ w #[.string ⟨#[43]⟩,.string ⟨#[45]⟩,.string ⟨#[42]⟩,.string ⟨#[47]⟩,.string ⟨#[37]⟩,.string ⟨#[124]⟩,.string ⟨#[38]⟩,.string ⟨#[92]⟩,.string ⟨#[61,61]⟩,.string ⟨#[33,61]⟩,.string ⟨#[60]⟩,.string ⟨#[60,61]⟩,.string ⟨#[105,110]⟩,.string ⟨#[119,105,116,104,105,110]⟩,.string ⟨#[97,110,100]⟩,.string ⟨#[111,114]⟩] 16 rfl (by unfold maxLen;omega)).cellAt p b];show (Fa.map fun x=>Value.string (Ax x))[p]? =_;rw[List.getElem?_map,hy];rfl)
 clear h0 f;go_enter Tryz.func60,Tryz.ntmps60
 go_wp2_with fail
 generalize w.alloc (.cells #[.string ⟨#[43]⟩,.string ⟨#[45]⟩,.string ⟨#[42]⟩,.string ⟨#[47]⟩,.string ⟨#[37]⟩,.string ⟨#[124]⟩,.string ⟨#[38]⟩,.string ⟨#[92]⟩,.string ⟨#[61,61]⟩,.string ⟨#[33,61]⟩,.string ⟨#[60]⟩,.string ⟨#[60,61]⟩,.string ⟨#[105,110]⟩,.string ⟨#[119,105,116,104,105,110]⟩,.string ⟨#[97,110,100]⟩,.string ⟨#[111,114]⟩] 9)=n at i k ⊢;go_loopw [3,4,7] (fun _ _ c wr=>Zc w n s a c wr) (fun _ _ c _=>16 - (intOf c).toNat)
 case atStart=>exact ⟨0,Nat.zero_le _,rfl,rfl⟩
 case round=>
  obtain ⟨p,b,rfl,rfl⟩:=hrel;have d:p < Fa.length:=Nat.lt_of_le_of_lt b m;obtain ⟨y,hy⟩:∃ y,Fa[p]? =some y:=⟨_,List.getElem?_eq_getElem d⟩
  have hc:=Aa k p y hy;have t:(p:Int) < 16:=by omega
  have o:=Ab (CQ 16 p (by omega));by_cases e:p=a
  ·subst e;have l:y=s:=by
    have:=(Aa g).1;rw[hy] at this;injection this
   rw[l] at hc;clear l hy d;go_wp2_with fail
   go_ret
   exact ⟨rfl,i⟩
  ·have u:((Ax s).toList==(Ax y).toList)=false:=by
    rw[CI,ByteArray.toList_eq];refine decide_eq_false (fun h=>(Aa g).2 p (by omega) ?_);rw[hy,h];rfl
   have q:=Ab (show Zc w wr s a (.int .i64 ((p:Int)+1)) wr from ⟨p+1,by omega,by rw[Int.natCast_add];rfl,rfl⟩);clear hy d e;go_wp2_with fail
   exact ⟨Aa q,Aa o⟩
structure EZ (w:World) (B nb:Nat) (tv:Value) (N:List Nd) (P:List Int) (nd pl:Value) (nv kv:List Value):Prop where
 row:An w nb #[tv,nd,pl] 44
 nodes:BY w B nd N nv kv
 places:w.ownsRow B 3 1 pl P.length (AN P)
 apart:∀ q,pl.ownBlock=some q→∀ j,(hj:j < kv.length)→kv[j].ownBlock≠some q
 low:B≤nb
theorem EZ.below {w w':World}{B b:Nat}{c:Value}{N:List Nd}{P:List Int}{nd d:Value}{f g:List Value}(h:EZ w B b c N P nd d f g)(a:Below w.heap.size w w'):EZ w' B b c N P nd d f g:=
 ⟨h.row.after a NLN,h.nodes.blocks (fun k _ hk=>a.block k hk),Ac h.places (fun q hq=>a.block q (h.places.lt q hq).2),h.apart,h.low⟩
theorem EZ.pushN {b c:World}{B a g7 c7:Nat}{s:Value}{N:List Nd}{P:List Int}{nd f u k:Value}{i g:List Value}{x:Nd}(C:EZ b B a s N P nd f i g)(o:Obj)(w:B≤b.heap.size)(hu:b.ownsRow B 9 1 u x.names.length (x.names.map Value.string))(hk:b.ownsRow B 3 1 k x.kids.length (AN x.kids))
  (y:∀ j,(d:j < i.length)→∀ q,i[j].ownBlock=some q→u.ownBlock≠some q)(z:∀ j,(d:j < g.length)→∀ q,g[j].ownBlock=some q→k.ownBlock≠some q)(A:∀ q,k.ownBlock=some q→f.ownBlock≠some q)
  (l:(b.alloc o).grownBy c nd.ownBlock)(E:c.ownsRow B 114 5 (.slice (some ⟨g7,0,none⟩) (N.length+1) c7) (N.length+1) (Ir N i g ++GH x u k))(F:nd.ownBlock=some g7∨g7=b.heap.size+1):
  EZ (c.setCell ⟨a,1,none⟩ (.slice (some ⟨g7,0,none⟩) (N.length+1) c7)) B a s (N ++ [x]) P (.slice (some ⟨g7,0,none⟩) (N.length+1) c7) f (i ++ [u]) (g ++ [k])∧Nk B a nd f b (.slice (some ⟨g7,0,none⟩) (N.length+1) c7) f (c.setCell ⟨a,1,none⟩ (.slice (some ⟨g7,0,none⟩) (N.length+1) c7)):=by
 have r:=(Below.refl b.heap.size b).alloc NLN o;have H:=C.below r;have I:=Ac (w':=b.alloc o) hu (fun q hq=>r.block q (hu.lt q hq).2);have J:=Ac (w':=b.alloc o) hk (fun q hq=>r.block q (hk.lt q hq).2);have K:nd.ownBlock≠some a:=Ad C.row C.nodes.own (by decide);have m:An c a #[s,nd,f] 44:=⟨(Ap l a C.row.lt K).trans C.row.out⟩
 have h:=H.nodes.snoc I J y z E l;have t:c.ownsRow B 3 1 f P.length (AN P):=Ac C.places (fun q hq=>Ap l q (C.places.lt q hq).2 (fun e=>Al C.places C.nodes.own (by decide) q hq e));have n:∀ q,q≠a→(c.setCell ⟨a,1,none⟩ (.slice (some ⟨g7,0,none⟩) (N.length+1) c7)).heap[q]? =c.heap[q]? :=fun q hq=>heap_setCell_other c ⟨a,1,none⟩ q _ hq;refine ⟨⟨m.set 1 _,h.upto (fun q hq=>n q (fun e=>Ad m h.own (by decide) (by rw[hq,e]))) (fun j d q hq=>n q (fun e=>Ad m (h.names j (by rw[← h.len];exact d) d) (by decide) (by rw[hq,e]))) (fun j d q hq=>n q (fun e=>Ad m (h.kids j (by rw[← h.lenk];exact d) d) (by decide) (by rw[hq,e]))),Ac t (fun q hq=>n q (fun e=>Ad m t (by decide) (by rw[hq,e]))),fun q hq j d e=>?_,C.low⟩,⟨?_,fun q h1 h2 h3 h4=>(n q h2).trans (Ap l q h1 h3),fun q hq=>?_,fun q hq=> .inl hq⟩⟩
 ·by_cases v:j < g.length
  ·rw[List.getElem_append_left v] at e;exact C.apart q hq j v e
  ·have L:j=g.length:=by simp at d;omega
   subst L;simp at e;exact A q e hq
 ·exact ((r.mono w).grown l (by simp;omega) (fun q hq=>(C.nodes.lts.1 q hq).1)).setCell (p:=⟨a,1,none⟩) C.low _
 ·have e:g7=q:=by simpa[Value.ownBlock] using hq
  subst e;exact F.imp id (fun e=>by omega)
theorem EZ.pushP {f d:World}{B c g7 c7:Nat}{m:Value}{N:List Nd}{P:List Int}{nd g:Value}{n o:List Value}(C:EZ f B c m N P nd g n o)(r:Obj)(a:Int)(u:B≤f.heap.size)
  (h:(f.alloc r).grownBy d g.ownBlock)(s:d.ownsRow B 3 1 (.slice (some ⟨g7,0,none⟩) (P.length+1) c7) (P.length+1) (AN P ++ [.int .i64 a]))(t:g.ownBlock=some g7∨g7=f.heap.size+1):
  EZ (d.setCell ⟨c,2,none⟩ (.slice (some ⟨g7,0,none⟩) (P.length+1) c7)) B c m N (P ++ [a]) nd (.slice (some ⟨g7,0,none⟩) (P.length+1) c7) n o∧Nk B c nd g f nd (.slice (some ⟨g7,0,none⟩) (P.length+1) c7) (d.setCell ⟨c,2,none⟩ (.slice (some ⟨g7,0,none⟩) (P.length+1) c7)):=by
 have v:=(Below.refl f.heap.size f).alloc NLN r;have w:g.ownBlock≠some c:=Ad C.row C.places (by decide);have k:An d c #[m,nd,g] 44:=⟨(Ap h c C.row.lt w).trans C.row.out⟩
 have l:∀ q,q≠c→(d.setCell ⟨c,2,none⟩ (.slice (some ⟨g7,0,none⟩) (P.length+1) c7)).heap[q]? =d.heap[q]? :=fun q hq=>heap_setCell_other d ⟨c,2,none⟩ q _ hq;have i:BY d B nd N n o:=C.nodes.upto (fun q hq=>Ap h q (C.nodes.lts.1 q hq).2 (fun e=>Al C.places C.nodes.own (by decide) q e hq)) (fun j b q hq=>Ap h q (C.nodes.lts.2.1 j b q hq).2 (fun e=>Al C.places (C.nodes.names j (by rw[← C.nodes.len];exact b) b) (by decide) q e hq)) (fun j b q hq=>Ap h q (C.nodes.lts.2.2 j b q hq).2 (fun e=>C.apart q e j b hq));refine ⟨⟨k.set 2 _,i.upto (fun q hq=>l q (fun e=>Ad k i.own (by decide) (by rw[hq,e]))) (fun j b q hq=>l q (fun e=>Ad k (i.names j (by rw[← i.len];exact b) b) (by decide) (by rw[hq,e]))) (fun j b q hq=>l q (fun e=>Ad k (i.kids j (by rw[← i.lenk];exact b) b) (by decide) (by rw[hq,e]))), ?_,fun q hq j b e=>?_,C.low⟩,⟨?_,fun q h1 h2 h3 h4=>(l q h2).trans (Ap h q h1 h4),fun q hq=> .inl hq,fun q hq=>?_⟩⟩
 ·have:=Ac (w':=d.setCell ⟨c,2,none⟩ (.slice (some ⟨g7,0,none⟩) (P.length+1) c7)) s (fun q hq=>l q (fun e=>Ad k s (by decide) (by rw[hq,e])));simpa[AN] using this
 ·have x:g7=q:=by simpa[Value.ownBlock] using hq
  subst x;rcases t with h1 | h1
  ·exact C.apart g7 h1 j b e
  ·have:=(C.nodes.lts.2.2 j b g7 e).2;omega
 ·exact ((v.mono u).grown h (by simp;omega) (fun q hq=>(C.places.lt q hq).1)).setCell (p:=⟨c,2,none⟩) C.low _
 ·have e:g7=q:=by simpa[Value.ownBlock] using hq
  subst e;exact t.imp id (fun e=>by omega)
theorem Ja.of {w w':World}{B b a c:Nat}{T:List Af}{N:List Nd}{P:List Int}{nd d:Value}{f g:List Value}(h:Ja w b a c T)(hC:EZ w' B b (.slice (some ⟨a,0,none⟩) T.length c) N P nd d f g)(i:Below B w w')(k:a < B):Ja w' b a c T:=
 ⟨hC.row.cell 0,fun j u hu=>(i.cell (p:=⟨a,j,none⟩) k).trans (h.cells j u hu),hC.row.lt,by have:=hC.row.lt;have:=hC.low;omega⟩
def NB (B nb:Nat) (tv:Value) (N M:List Nd) (P Q:List Int) (nd pl:Value) (nv kv:List Value) (w:World) (r:Ending) (w':World):Prop:=
 r= .returned (.int .i64 ((N.length+M.length - 1 :Nat):Int))∧∃ nd' pl' nv' kv',EZ w' B nb tv (N ++M) (P ++Q) nd' pl' (nv ++nv') (kv ++kv')∧Nk B nb nd pl w nd' pl' w'∧∀ j,(hj:j < kv'.length)→∀ q,kv'[j].ownBlock=some q→w.heap.size≤q
theorem Jb {w:World}{B d p c:Nat}{T:List Af}{N:List Nd}{P:List Int}{nd s:Value}{A C:List Value}(ar:Ja w d p c T)(aL:p < B)(hC:EZ w B d (.slice (some ⟨p,0,none⟩) T.length c) N P nd s A C)(a6:N.length+1≤65535)(a7:P.length+1≤65535)
  (x:Nd)(a:Option Addr)(g:Nat)(b:Option Addr)(f lo:Nat)(aM:B≤lo)(hu:w.ownsRow B 9 1 (.slice a x.names.length g) x.names.length (x.names.map Value.string))(hk:w.ownsRow lo 3 1 (.slice b x.kids.length f) x.kids.length (AN x.kids))
  (au:∀ j,(aN:j < A.length)→∀ q,A[j].ownBlock=some q→(Value.slice a x.names.length g).ownBlock≠some q)(av:∀ j,(aN:j < C.length)→∀ q,C[j].ownBlock=some q→(Value.slice b x.kids.length f).ownBlock≠some q)(aw:∀ q,(Value.slice b x.kids.length f).ownBlock=some q→s.ownBlock≠some q)(i:Nat)(hi:i < T.length):
  Calls Tryz.prog 58 #[.pointer (some ⟨d,0,none⟩),.agg #[.int .i64 x.op,.int .i64 x.num,.string x.text,.slice a x.names.length g,.slice b x.kids.length f],.int .i64 (i:Int)] w fun r w'=>r= .returned (.int .i64 (N.length:Int))∧∃ ax ay,EZ w' B d (.slice (some ⟨p,0,none⟩) T.length c) (N ++ [x]) (P ++ [(T[i].at_:Int)]) ax ay (A ++ [.slice a x.names.length g]) (C ++ [.slice b x.kids.length f])∧Nk B d nd s w ax ay w':=by
 obtain ⟨o,W⟩:∃ o:Int,o=(T[i].at_:Int):=⟨_,rfl⟩
 rw[← W];have aO:=Ab W;clear W;have az:=hC.row.lt;have X:B≤w.heap.size:=by have:=hC.low;omega
 obtain ⟨aP,aQ,aR,aS,aT⟩:=info_parts Jc;obtain ⟨aU,aV,aW,aX,aY⟩:=info_parts KS;have aZ:=Ab ar;have Y:=Ab (And.intro au (And.intro av aw));have F:=(Below.refl w.heap.size w).alloc NLN (.cells #[.int .i64 x.op,.int .i64 x.num,.string x.text,.slice a x.names.length g,.slice b x.kids.length f] 114);have S:=An.new w #[.int .i64 x.op,.int .i64 x.num,.string x.text,.slice a x.names.length g,.slice b x.kids.length f] 114;have n:=hC.below F;have Z:Nk B d nd s w nd s (w.alloc (.cells #[.int .i64 x.op,.int .i64 x.num,.string x.text,.slice a x.names.length g,.slice b x.kids.length f] 114)):=Nk.of_all F X;have aa:=Ac (w':=w.alloc (.cells #[.int .i64 x.op,.int .i64 x.num,.string x.text,.slice a x.names.length g,.slice b x.kids.length f] 114)) hu (fun q hq=>F.block q (hu.lt q hq).2);have ab:=Ac (w':=w.alloc (.cells #[.int .i64 x.op,.int .i64 x.num,.string x.text,.slice a x.names.length g,.slice b x.kids.length f] 114)) hk (fun q hq=>F.block q (hk.lt q hq).2);have ac:w.heap.size < (w.alloc (.cells #[.int .i64 x.op,.int .i64 x.num,.string x.text,.slice a x.names.length g,.slice b x.kids.length f] 114)).heap.size:=by simp
 clear ar au av aw hu hk F;go_enter Tryz.func58,Tryz.ntmps58
 go_wp2_with fail
 generalize w.alloc (.cells #[.int .i64 x.op,.int .i64 x.num,.string x.text,.slice a x.names.length g,.slice b x.kids.length f] 114)=h at n Z aa ab S ac ⊢;generalize w.heap.size=H at S ac az X ⊢;obtain ⟨I,J,v,_⟩:=Ah n.nodes.own;have ad:=Ab v;clear v;apply QN
 ·intro a0;have v:=Aa ad;obtain ⟨aA,e1,e2,e3,e4⟩:=JI S;have ae:h.cell? ⟨d,1,none⟩=some (nd):=n.row.cell 1;rw[v] at ae;have aB:=n.row.frozen 1;have K:=World.news_of_block (heap_alloc_new h (.cells #[.int .i64 x.op,.int .i64 x.num,.string x.text,.slice a x.names.length g,.slice b x.kids.length f] 114));have af:h.drew.cell? ⟨d,1,none⟩=some (.slice I (N).length J)∧h.drew.frozen? ⟨d,1,none⟩=false:=⟨ae,aB⟩
  have d1:h.drew.cell? ⟨H,0,none⟩=some (.int .i64 x.op):=aA;have d2:h.drew.cell? ⟨H,1,none⟩=some (.int .i64 x.num):=e1;have d3:h.drew.cell? ⟨H,2,none⟩=some (.string x.text):=e2;have d4:h.drew.cell? ⟨H,3,none⟩=some (.slice a x.names.length g):=e3;have d5:h.drew.cell? ⟨H,4,none⟩=some (.slice b x.kids.length f):=e4;have L:(h.alloc (.cells #[.int .i64 x.op,.int .i64 x.num,.string x.text,.slice a x.names.length g,.slice b x.kids.length f] 114)).drew.ownsRow B 114 5 (.slice I (N).length J) (N).length (Ir (N) (A) (C)):=by
   have:=n.nodes.own;rw[v] at this;exact (World.ownsRow.alloc this _).drew
  have t:An (h.alloc (.cells #[.int .i64 x.op,.int .i64 x.num,.string x.text,.slice a x.names.length g,.slice b x.kids.length f] 114)).drew d #[.slice (some ⟨p,0,none⟩) T.length c,nd,s] 44:=⟨(n.row.alloc (.cells #[.int .i64 x.op,.int .i64 x.num,.string x.text,.slice a x.names.length g,.slice b x.kids.length f] 114)).out⟩
  have ag:(h.alloc (.cells #[.int .i64 x.op,.int .i64 x.num,.string x.text,.slice a x.names.length g,.slice b x.kids.length f] 114)).drew.cell? ⟨d,1,none⟩=some (.slice I (N).length J):=by
   have:=t.cell 1;rw[v] at this;exact this
  have U:(Value.slice I (N).length J).ownBlock≠some d:=by rw[← v];exact Ad n.row n.nodes.own (by decide)
  have a1:B≤h.heap.size:=by have:=n.row.lt;have:=n.low;omega
  clear aA e1 e2 e3 e4 ae aB v;go_region_law (refine step_append_lies _ rfl _ _ 24 rfl B 114 aP (.agg #[.int .i64 0,.int .i64 0,.string ByteArray.empty,.slice none 0 0,.slice none 0 0]) 5 80 Tryz.underlying24 aQ aR aS aT rfl (by decide) (.slice I (N).length J) (N).length (Ir (N) (A) (C)) rfl L ⟨h.heap.size,0,none⟩ 1 1 [.int .i64 x.op,.int .i64 x.num,.string x.text,.slice a x.names.length g,.slice b x.kids.length f] rfl rfl K (by intro u hu;simp at hu;rcases hu with rfl | rfl | rfl | rfl | rfl <;> rfl) (by decide) (by unfold maxLen;omega) (by omega) (by simp;omega) _ rfl ?_;intro g7 c7 ah aC y aD a2;have ai:An ah d #[.slice (some ⟨p,0,none⟩) T.length c,nd,s] 44:=⟨(y.block d t.lt (fun e=>U e.symm)).trans t.out⟩;have V:=ai.cell 1;have aj:=ai.frozen 1)
  all_goals
   have aE:(h.alloc (.cells #[.int .i64 x.op,.int .i64 x.num,.string x.text,.slice a x.names.length g,.slice b x.kids.length f] 114)).grownBy ah (nd).ownBlock:=by rw[Aa ad];exact ⟨y.os,y.tape,y.output,y.size,y.block⟩
   obtain ⟨l,M⟩:=n.pushN (g7:=g7) (c7:=c7) (x:=x) (u:= .slice a x.names.length g) (k:= .slice b x.kids.length f) _ a1 aa (Ch ab aM) (Aa Y).1 (Aa Y).2.1 (Aa Y).2.2 aE aC (by rw[Aa ad];exact aD.imp id (fun e=>by rw[e];show (h.alloc _).heap.size=_;simp));have O:=Z.trans M;clear aC y aD a2 ai t ag af d1 d2 d3 d4 d5 K L aE M;clear V aj;generalize ah.setCell ⟨d,1,none⟩ (.slice (some ⟨g7,0,none⟩) ((N).length+1) c7)=m at l O ⊢;clear U;revert O;revert l;revert m;revert c7;revert g7;exact a0.out
 intro g7 c7 m l O;clear S n Z aa ab;go_wp2_with fail
 have ak:=(Aa aZ).of l O.low aL;obtain ⟨_,_,_,al⟩:=ak.at4 i hi;have a8:(i:Int) < (T.length:Int):=by omega
 have a3:B≤m.heap.size:=by have:=l.row.lt;have:=l.low;omega
 rw[← Aa aO] at al;obtain ⟨Q,R,E,_⟩:=Ah l.places;have aF:=Ab E;have af:m.drew.cell? ⟨d,2,none⟩=some (.slice Q (P).length R)∧m.drew.frozen? ⟨d,2,none⟩=false:=⟨by have:=l.row.cell 2;rw[E] at this;exact this,l.row.frozen 2⟩
 have d1:m.drew.cell? ⟨d,0,none⟩=some (.slice (some ⟨p,0,none⟩) T.length c):=ak.at0;have d2:m.drew.cell? ⟨p,i * 4+3,none⟩=some (.int .i64 o):=al;have K:=World.news_of_block (heap_alloc_new m (.cells #[.int .i64 o] 3));have L:(m.alloc (.cells #[.int .i64 o] 3)).drew.ownsRow B 3 1 (.slice Q (P).length R) (P).length (AN P):=by
  have:=l.places;rw[E] at this;exact (World.ownsRow.alloc this _).drew
 have t:An (m.alloc (.cells #[.int .i64 o] 3)).drew d #[.slice (some ⟨p,0,none⟩) T.length c,.slice (some ⟨g7,0,none⟩) (N.length+1) c7,s] 44:=⟨(l.row.alloc (.cells #[.int .i64 o] 3)).out⟩
 have ag:(m.alloc (.cells #[.int .i64 o] 3)).drew.cell? ⟨d,2,none⟩=some (.slice Q (P).length R):=by
  have:=t.cell 2;rw[E] at this;exact this
 have U:(Value.slice Q (P).length R).ownBlock≠some d:=by rw[← E];exact Ad l.row l.places (by decide)
 clear E al ak az X ac;go_region_law (refine step_append_lies _ rfl _ _ 28 rfl B 3 aU (.int .i64 0) 1 8 Tryz.underlying28 aV aW aX aY rfl (by decide) (.slice Q (P).length R) (P).length (AN P) rfl L ⟨m.heap.size,0,none⟩ 1 1 [.int .i64 o] rfl rfl K (by intro u hu;simp at hu;rcases hu with rfl;rfl) (by decide) (by unfold maxLen;omega) (by omega) (by simp;omega) _ rfl ?_;intro g6 aG ao aH z aI a4;have ap:An ao d #[.slice (some ⟨p,0,none⟩) T.length c,.slice (some ⟨g7,0,none⟩) (N.length+1) c7,s] 44:=⟨(z.block d t.lt (fun e=>U e.symm)).trans t.out⟩;have V:=ap.cell 2;have aj:=ap.frozen 2)
 all_goals
  have aJ:(m.alloc (.cells #[.int .i64 o] 3)).grownBy ao (s).ownBlock:=by rw[Aa aF];exact ⟨z.os,z.tape,z.output,z.size,z.block⟩
  obtain ⟨aq,aK⟩:=l.pushP (g7:=g6) (c7:=aG) _ o a3 aJ aH (by rw[Aa aF];exact aI.imp id (fun e=>by rw[e];show (m.alloc _).heap.size=_;simp));have M:=O.trans aK;clear aH z aI a4 aJ V aj ap t K L aK af d1 d2 ag;generalize ao.setCell ⟨d,2,none⟩ (.slice (some ⟨g6,0,none⟩) ((P).length+1) aG)=a5 at aq M ⊢;have V:a5.cell? ⟨d,1,none⟩=some (.slice (some ⟨g7,0,none⟩) ((N).length+1) c7):=aq.row.cell 1;go_wp2_with fail
  go_ret
  exact ⟨by simp,_,_,aq,M⟩
end Go.Proofs.YtdldimphcpojoaaGreatDoor
