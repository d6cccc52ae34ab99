import Derived.Test.YteiieikcjcfkkaaGreatDoorMXAL
import Derived.Test.YteiieikcjcfkkaaGreatDoorJV
import Derived.Deep.RegionLaw
open Go.Proofs.Tryz
open Go.Proofs.Tryz renaming prog->j4
namespace Go.Proofs.YteiieikcjcfkkaaGreatDoor
set_option maxRecDepth 100000
set_option maxHeartbeats 3200000
open Go.RowKit
set_option linter.unusedVariables false
theorem IW (x:Nd)(an:Option Addr)(nn cn:Nat)(g:Option Addr)(h i:Nat)(w:World)(m:Ap w an nn cn x.names)(hs:x.text.size<=1048576):
  Calls j4 52 #[ndV x.op x.num x.text an nn cn g h i] w fun e w'=>e= .returned (.bool (JT x))/\Ah w w':=by
 have r:=m.len;have c:=Ab (fun u v=>LM x an nn cn g h i u (m.below v NLN) hs);have a:=Ab (show JT x=(if x.op=5 then false else if x.op=6 then decide (0<=x.num/\x.num<6)&&decide (x.text.size=0)&&decide (x.names.length=0)else if x.op=7\/x.op=1 then decide (x.text.size=0)&&decide (x.names.length=0)else VR x)from rfl);rw[<-r]at a;generalize JT x=z at a|-;generalize VR x=A at a c;obtain⟨op,num,text,names,kids⟩:=x;unfold ndV at c|-;simp only at a c hs|-;have j:=Ag.new w #[.int .i64 op,.int .i64 num,.string text,.slice an nn cn,.slice g h i] 85;have b:=Av w (Dw op num text an nn cn g h i);obtain⟨n,c1,c2,c3,c4,o⟩:=AP j;have f:text.toList.isEmpty=decide (text.size=0):=by rw[zO,z3,decide_eq_true_iff];exact Cs text
 have d:=Ab f;have Tl:=Ab (Cs text);clear m r f;by_cases k:op=5
 ·subst k;have a:=Ab ((Aa a).trans (by rw[if_pos rfl]));clear c;go_enter func52,ntmps52
  go_wp2
  all_goals
   go_ret
   exact⟨Ad (Aa a).symm,b⟩
 by_cases l:op=6
 ·subst l;have a:=Ab ((Aa a).trans (by rw[if_neg (by omega),if_pos rfl]));clear c;go_enter func52,ntmps52
  go_wp2
  all_goals
   go_ret
   refine⟨Ad ?_,b⟩;rw[Aa a];have f:=Aa d;have s:=Aa Tl;have t:((nn:Int)==0)=decide (nn=0):=by rw[zO];simp
   clear a j b n c1 c2 c3 c4 o d Tl
   simp_all
   try omega
 by_cases p:op=7
 ·subst p;have a:=Ab ((Aa a).trans (by rw[if_neg (by omega),if_neg (by omega),if_pos (.inl rfl)]));clear c;go_enter func52,ntmps52
  go_wp2
  all_goals
   go_ret
   refine⟨Ad ?_,b⟩;rw[Aa a];have f:=Aa d;have s:=Aa Tl;have t:((nn:Int)==0)=decide (nn=0):=by rw[zO];simp
   clear a j b n c1 c2 c3 c4 o d Tl
   simp_all
 by_cases q:op=1
 ·subst q;have a:=Ab ((Aa a).trans (by rw[if_neg (by omega),if_neg (by omega),if_pos (.inr rfl)]));clear c;go_enter func52,ntmps52
  go_wp2
  all_goals
   go_ret
   refine⟨Ad ?_,b⟩;rw[Aa a];have f:=Aa d;have s:=Aa Tl;have t:((nn:Int)==0)=decide (nn=0):=by rw[zO];simp
   clear a j b n c1 c2 c3 c4 o d Tl
   simp_all
 have a:=Ab ((Aa a).trans (by rw[if_neg k,if_neg l,if_neg (by omega)]));have B:=zA.2 q;have C:=zA.2 k;have D:=zA.2 l;have E:=zA.2 p;clear q k l p;go_enter func52,ntmps52
 go_wp2_with (go_at_call 90;refine(Aa c _ b).mono ?_;rintro e F ⟨rfl,y⟩)
 all_goals
  go_ret
  exact⟨Ad (Aa a).symm,b.trans (y.mono b.size)⟩
theorem VX {s:ByteArray}(h:Dm s=true):s.size<=32:=by
 unfold Dm at h;have e:(GK s).length=s.size:=by simp[GK]
 cases hs:GK s with
 |nil=>rw[hs]at e;simp at e;omega
 |cons c a=>
  rw[hs]at h;simp only[zF,zI]at h;rw[<-e,hs];exact h.1.1.1
theorem Oi {ss:List ByteArray}(h:AC ss=true):ss.length<=64/\∀x∈ss,x.size<=32:=by
 unfold AC at h;simp only[zF,zI]at h;refine⟨h.1,fun x hx=>?_⟩;have:=z1.1 h.2.1 x hx;simp only[vnB,zF,zI]at this;omega
theorem JV {N:List Nd}{i:Nat}{Es:List Ex}(b:Es.length=i)(a:∀j,(h:j<Es.length)->Cg N j Es[j]){k:Int}(c: 0<=k/\k<i):∃ (m:Nat) (e:Ex),k=m/\m<i/\Es[m]? =some e/\Cg N m e:=by
 refine⟨k.toNat,Es[k.toNat]'(by omega),by omega,by omega,zG _,a _ _⟩
theorem Aas {w:World}{b:Nat}{a c d f:Value}{t:TypeId}(R:Ag w b #[a,c,d,f] t):w.cell? ⟨b,0,none⟩=some a/\w.cell? ⟨b,1,none⟩=some c/\w.cell? ⟨b,2,none⟩=some d/\w.cell? ⟨b,3,none⟩=some f:=⟨R.cell 0,R.cell 1,R.cell 2,R.cell 3⟩
end Go.Proofs.YteiieikcjcfkkaaGreatDoor
