import Derived.Test.YteiieikcjcfkkaaGreatDoorMXAL
open Go.Proofs.Tryz
open Option renaming none->T,some->X
open Go.Value renaming int->U,slice->Y,string->Q
open Go.IntKind renaming i64->V
open Go.Proofs.Tryz renaming prog->j4
namespace Go.Proofs.YteiieikcjcfkkaaGreatDoor
set_option maxRecDepth 100000
set_option maxHeartbeats 3200000
open Go.RowKit
set_option linter.unusedVariables false
theorem Km (x:Nd)(an:Option Addr)(nn cn:Nat)(o:Option Addr)(c p:Nat)(w:World)(v:Ap w an nn cn x.names)(z:c=x.kids.length)(hs:x.text.size<=1048576)(P:c<=1048576):
  Calls j4 75 #[ndV x.op x.num x.text an nn cn o c p,.bool true] w fun e w'=>e= .returned (.bool (AY x))/\Ah w w':=by
 have A:=v.len;obtain⟨op,num,text,names,kids⟩:=x;simp only at v z hs A|-;have B:=Ag.new w #[U V op,U V num,Q text,Y an nn cn,Y o c p] 85;have y:=Av w (Dw op num text an nn cn o c p);have K:(w.alloc (Dw op num text an nn cn o c p)).heap.size=w.heap.size+1:=by simp
 have L:=Ab A;have M:=Ab z;clear A z;have a:=Ab (show AY ⟨op,num,text,names,kids⟩=(decide ((kids.length:Int)=CI op)&&(if op=1 then decide (text.size=0)&&decide (names.length=0)else if op=2 then CJ text&&decide (num=0)&&decide (names.length=0)else if op=3 then decide (num=0\/num=1)&&decide (text.size=0)&&decide (names.length=0)else if op=4 then AC names&&decide (num=0)&&decide (text.size=0)else if op=5 then false else if op=6 then decide (0<=num/\num<=5)&&decide (text.size=0)&&decide (names.length=0)else if op=7 then decide (0<=num/\num<600)&&decide (text.size=0)&&decide (names.length=0)else decide (num=0)&&decide (text.size=0)&&decide (names.length=0)))from rfl);rw[<-Aa M,<-Aa L]at a;generalize AY ⟨op,num,text,names,kids⟩=S at a|-;unfold ndV;go_enter func75,ntmps75
 go_wp2_with fail
 obtain⟨f,c1,c2,c3,c4,g⟩:=AP B;generalize w.alloc (Dw op num text an nn cn o c p)=s at*;by_cases t:(c:Int)=CI op
 case neg=>
  have N:((c:Int)!=CI op)=true:=zc.2 t;go_region_held3 (fun w'=>w'.cell? ⟨w.heap.size,4,T⟩=X (Y o c p)/\w'.cell? ⟨w.heap.size,0,T⟩=X (U V op)) (go_keep)
   ((go_at_call 116;refine(PQ _ _).mono ?_;rintro e O ⟨rfl,u⟩;rw[u];clear u))
  all_goals
   go_wp2
   go_ret
   exact⟨Ad (by rw[Aa a,zJ t];rfl),y.drew⟩
 have N:((c:Int)!=CI op)=false:=by rw[t];simp
 have q:=Ab t;clear t;go_region_held3 (fun w'=>w'.cell? ⟨w.heap.size,4,T⟩=X (Y o c p)/\w'.cell? ⟨w.heap.size,0,T⟩=X (U V op)) (go_keep)
  ((go_at_call 116;refine(PQ _ _).mono ?_;rintro e O ⟨rfl,u⟩;rw[u];clear u))
 have d:Ag s.drew w.heap.size #[U V op,U V num,Q text,Y an nn cn,Y o c p] 85:=⟨B.out⟩
 have b:Ah w s.drew:=y.drew;have h:Ap s.drew an nn cn names:=(v.below y NLN).drew';have C:s.drew.heap.size=w.heap.size+1:=K;clear B y f c1 c2 c3 c4 g v K;generalize s.drew=D at d b h C|-;have m:=d.alloc (.cells #[U V op,U V 0,Q ⟨#[]⟩,Y T 0 0,Y T 0 0] 85);have n:=b.alloc (by omega) (.cells #[U V op,U V 0,Q ⟨#[]⟩,Y T 0 0,Y T 0 0] 85);have i:=h.below (Av D (.cells #[U V op,U V 0,Q ⟨#[]⟩,Y T 0 0,Y T 0 0] 85)) NLN;have l:=Ag.new D #[U V op,U V 0,Q ⟨#[]⟩,Y T 0 0,Y T 0 0] 85;rw[C]at l;have W:(D.alloc (.cells #[U V op,U V 0,Q ⟨#[]⟩,Y T 0 0,Y T 0 0] 85)).heap.size=w.heap.size+2:=by simp[C]
 obtain⟨f,c1,c2,c3,c4,g⟩:=AP d;have aa:=Cs text;by_cases E:op=1
 ·subst E;have a:=Ab ((Aa a).trans (by rw[zL (Aa q),if_pos rfl,Z0]));go_wp2
  all_goals
   go_ret
   refine⟨Ad ?_,b.alloc (by omega) _⟩;rw[Aa a];have r:((nn:Int)==0)=decide (nn=0):=by rw[zO];simp
   clear a d m l b n h i f c1 c2 c3 c4 g
   simp_all
   try omega
 by_cases o2:op=2
 ·subst o2;have a:=Ab ((Aa a).trans (by rw[zL (Aa q),if_neg (by omega),if_pos rfl,Z0]));cases hq:CJ text
  ·have j:=Ab hq;clear hq;go_wp2_with (go_at_call 117;refine(LJ _ _ hs).mono ?_;rintro e w' ⟨rfl,k⟩;rw[Aa j,k];clear k)
   all_goals
    go_ret
    refine⟨Ad ?_,b.alloc (by omega) _⟩;rw[Aa a];have hq:=Aa j;have r:((nn:Int)==0)=decide (nn=0):=by rw[zO];simp
    clear a d m l b n h i f c1 c2 c3 c4 g
    simp_all
    try omega
  ·have j:=Ab hq;clear hq;go_wp2_with (go_at_call 117;refine(LJ _ _ hs).mono ?_;rintro e w' ⟨rfl,k⟩;rw[Aa j,k];clear k)
   all_goals
    go_ret
    refine⟨Ad ?_,b.alloc (by omega) _⟩;rw[Aa a];have hq:=Aa j;have r:((nn:Int)==0)=decide (nn=0):=by rw[zO];simp
    clear a d m l b n h i f c1 c2 c3 c4 g
    simp_all
    try omega
 by_cases F:op=3
 ·subst F;have a:=Ab ((Aa a).trans (by rw[zL (Aa q),if_neg (by omega),if_neg (by omega),if_pos rfl,Z0]));go_wp2
  all_goals
   go_ret
   refine⟨Ad ?_,b.alloc (by omega) _⟩;rw[Aa a];have r:((nn:Int)==0)=decide (nn=0):=by rw[zO];simp
   clear a d m l b n h i f c1 c2 c3 c4 g
   simp_all
   try omega
 by_cases G:op=4
 ·subst G;have a:=Ab ((Aa a).trans (by rw[zL (Aa q),if_neg (by omega),if_neg (by omega),if_neg (by omega),if_pos rfl,Z0]));cases hq:AC names
  ·have j:=Ab hq;clear hq;go_wp2_with (go_at_call 118;refine(AA _ _ _ _ _ i).mono ?_;rintro e w' ⟨rfl,k⟩;rw[Aa j,k];clear k)
   all_goals
    go_ret
    refine⟨Ad ?_,b.alloc (by omega) _⟩;rw[Aa a];have hq:=Aa j;have r:((nn:Int)==0)=decide (nn=0):=by rw[zO];simp
    clear a d m l b n h i f c1 c2 c3 c4 g
    simp_all
    try omega
  ·have j:=Ab hq;clear hq;go_wp2_with (go_at_call 118;refine(AA _ _ _ _ _ i).mono ?_;rintro e w' ⟨rfl,k⟩;rw[Aa j,k];clear k)
   all_goals
    go_ret
    refine⟨Ad ?_,b.alloc (by omega) _⟩;rw[Aa a];have hq:=Aa j;have r:((nn:Int)==0)=decide (nn=0):=by rw[zO];simp
    clear a d m l b n h i f c1 c2 c3 c4 g
    simp_all
    try omega
 by_cases H:op=5
 ·subst H;have a:=Ab ((Aa a).trans (by rw[zL (Aa q),if_neg (by omega),if_neg (by omega),if_neg (by omega),if_neg (by omega),if_pos rfl,Z0]));go_wp2
  all_goals
   go_ret
   refine⟨Ad ?_,b.alloc (by omega) _⟩;rw[Aa a];simp
 by_cases I:op=6
 ·subst I;have a:=Ab ((Aa a).trans (by rw[zL (Aa q),if_neg (by omega),if_neg (by omega),if_neg (by omega),if_neg (by omega),if_neg (by omega),if_pos rfl,Z0]));go_wp2
  all_goals
   go_ret
   refine⟨Ad ?_,b.alloc (by omega) _⟩;rw[Aa a];have r:((nn:Int)==0)=decide (nn=0):=by rw[zO];simp
   clear a d m l b n h i f c1 c2 c3 c4 g
   simp_all
   try omega
 by_cases J:op=7
 ·subst J;have a:=Ab ((Aa a).trans (by rw[zL (Aa q),if_neg (by omega),if_neg (by omega),if_neg (by omega),if_neg (by omega),if_neg (by omega),if_neg (by omega),if_pos rfl,Z0]));go_wp2
  all_goals
   go_ret
   refine⟨Ad ?_,b.alloc (by omega) _⟩;rw[Aa a];have r:((nn:Int)==0)=decide (nn=0):=by rw[zO];simp
   clear a d m l b n h i f c1 c2 c3 c4 g
   simp_all
   try omega
 have a:=Ab ((Aa a).trans (by rw[zL (Aa q),if_neg E,if_neg o2,if_neg F,if_neg G,if_neg H,if_neg I,if_neg J,Z0]));have ab:=zA.2 E;have ac:=zA.2 o2;have ad:=zA.2 F;have ae:=zA.2 G;have af:=zA.2 H;have ag:=zA.2 I;have ah:=zA.2 J;go_wp2
 all_goals
  go_ret
  refine⟨Ad ?_,b.alloc (by omega) _⟩;rw[Aa a];have r:((nn:Int)==0)=decide (nn=0):=by rw[zO];simp
  clear a d m l b n h i f c1 c2 c3 c4 g
  simp_all
  try omega
end Go.Proofs.YteiieikcjcfkkaaGreatDoor
