import Derived.Test.YtppafecmccdplaaGreatVPA
open Go.Proofs.Tryz
open Option renaming none->T,some->Y
open Go.Value renaming int->U,slice->X,string->Q
open Go.IntKind renaming i64->V
open Go.Proofs.Tryz renaming prog->jL
namespace Go.Proofs.YtppafecmccdplaaGreat
set_option maxRecDepth 100000
set_option maxHeartbeats 3200000
open Go.RowKit
set_option linter.unusedVariables false
variable {b:Nat}{w:World}
theorem Aq {a c d f g:Value}{t:TypeId}(R:Ah w b #[a,c,d,f,g] t):w.cell? ⟨b,0,T⟩=Y a/\w.cell? ⟨b,1,T⟩=Y c/\w.cell? ⟨b,2,T⟩=Y d/\w.cell? ⟨b,3,T⟩=Y f/\w.cell? ⟨b,4,T⟩=Y g/\∀j,w.frozen? ⟨b,j,T⟩=false:=
 ⟨by simpa using R.cell 0,by simpa using R.cell 1,by simpa using R.cell 2,by simpa using R.cell 3,by simpa using R.cell 4,fun j=>R.frozen j⟩
theorem AJ.drew' {a:Option Addr}{n c:Nat}{ss:List ByteArray}(h:AJ w a n c ss):AJ w.drew a n c ss:=⟨h.len,h.cap,h.small,h.sizes,h.cells⟩
theorem Co (s:ByteArray):s.toList=[]↔s.size=0:=by
 rw[zy,<-List.length_eq_zero_iff];have:s.data.toList.length=s.size:=by simp
 rw[this]
def ndV (op num:Int) (text:ByteArray) (an:Option Addr) (nn cn:Nat) (ak:Option Addr) (nk ck:Nat):Value:= .agg #[U V op,U V num,Q text,X an nn cn,X ak nk ck]
def Ji (ty:Bool) (x:Nd):Bool:=(decide ((x.kids.length:Int)=Cz x.op)&&(if x.op=1 then (ty||decide (0<=x.num))&&decide (x.text.size=0)&&decide (x.names.length=0)else if x.op=2 then Ci x.text&&decide (x.num=0)&&decide (x.names.length=0)else if x.op=3 then decide (x.num=0\/x.num=1)&&decide (x.text.size=0)&&decide (x.names.length=0)else if x.op=4 then AR x.names&&decide (x.num=0)&&decide (x.text.size=0)else if x.op=5 then !ty&&(Ek x.text&&decide (x.num=0)&&decide (x.names.length=0))else if x.op=6 then ty&&(decide (0<=x.num/\x.num<=5)&&decide (x.text.size=0)&&decide (x.names.length=0))else if x.op=7 then ty&&(decide (0<=x.num/\x.num<600)&&decide (x.text.size=0)&&decide (x.names.length=0))else decide (x.num=0)&&decide (x.text.size=0)&&decide (x.names.length=0)))
theorem Abr (x:Nd):Ji false x=Bo x:=by
 unfold Ji Bo;by_cases a:x.op=6
 ·simp[a]
 by_cases b:x.op=7
 ·simp[b]
 simp[a,b]
theorem MA (ty:Bool)(x:Nd)(an:Option Addr)(nn cn:Nat)(r:Option Addr)(j s:Nat)(w:World)(C:AJ w an nn cn x.names)(E:j=x.kids.length)(hs:x.text.size<=1048576)(hk:j<=1048576):
  Calls jL 95 #[ndV x.op x.num x.text an nn cn r j s,.bool ty] w fun e w'=>e= .returned (.bool (Ji ty x))/\An w w':=by
 have F:=C.len;obtain⟨op,num,text,names,kids⟩:=x;simp only at C E hs F|-;have G:=Ah.new w #[U V op,U V num,Q text,X an nn cn,X r j s] 134;have D:=AN w (EV op num text an nn cn r j s);have aa:(w.alloc (EV op num text an nn cn r j s)).heap.size=w.heap.size+1:=by simp
 have ab:=Ab F;have ac:=Ab E;clear F E;have a:=Ab (show Ji ty ⟨op,num,text,names,kids⟩=(decide ((kids.length:Int)=Cz op)&&(if op=1 then (ty||decide (0<=num))&&decide (text.size=0)&&decide (names.length=0)else if op=2 then Ci text&&decide (num=0)&&decide (names.length=0)else if op=3 then decide (num=0\/num=1)&&decide (text.size=0)&&decide (names.length=0)else if op=4 then AR names&&decide (num=0)&&decide (text.size=0)else if op=5 then !ty&&(Ek text&&decide (num=0)&&decide (names.length=0))else if op=6 then ty&&(decide (0<=num/\num<=5)&&decide (text.size=0)&&decide (names.length=0))else if op=7 then ty&&(decide (0<=num/\num<600)&&decide (text.size=0)&&decide (names.length=0))else decide (num=0)&&decide (text.size=0)&&decide (names.length=0)))from rfl);rw[<-Aa ac,<-Aa ab]at a;generalize Ji ty ⟨op,num,text,names,kids⟩=af at a|-;unfold ndV;go_enter func95,ntmps95
 go_wp2_with fail
 obtain⟨c0,c1,c2,c3,c4,d⟩:=Aq G;generalize w.alloc (EV op num text an nn cn r j s)=u at*;by_cases v:(j:Int)=Cz op
 case neg=>
  have ad:((j:Int)!=Cz op)=true:=zp.2 v;go_region_held3 (fun w'=>w'.cell? ⟨w.heap.size,4,T⟩=Y (X r j s)/\w'.cell? ⟨w.heap.size,0,T⟩=Y (U V op)) (go_keep)
   ((go_at_call 112;refine(Sf _ _).mono ?_;rintro e ae ⟨rfl,y⟩;rw[y];clear y))
  all_goals
   go_wp2
   go_ret
   exact⟨Ag (by rw[Aa a,zI v];rfl),D.drew⟩
 have ad:((j:Int)!=Cz op)=false:=by rw[v];simp
 have t:=Ab v;clear v;go_region_held3 (fun w'=>w'.cell? ⟨w.heap.size,4,T⟩=Y (X r j s)/\w'.cell? ⟨w.heap.size,0,T⟩=Y (U V op)) (go_keep)
  ((go_at_call 112;refine(Sf _ _).mono ?_;rintro e ae ⟨rfl,y⟩;rw[y];clear y))
 have h:Ah u.drew w.heap.size #[U V op,U V num,Q text,X an nn cn,X r j s] 134:=⟨G.out⟩
 have b:An w u.drew:=D.drew;have k:AJ u.drew an nn cn names:=(C.below D NLN).drew';have H:u.drew.heap.size=w.heap.size+1:=aa;clear G D c0 c1 c2 c3 c4 d C aa;generalize u.drew=I at h b k H|-;have l:=h.alloc (.cells #[U V op,U V 0,Q ⟨#[]⟩,X T 0 0,X T 0 0] 134);have g:=b.alloc (by omega) (.cells #[U V op,U V 0,Q ⟨#[]⟩,X T 0 0,X T 0 0] 134);have m:=k.below (AN I (.cells #[U V op,U V 0,Q ⟨#[]⟩,X T 0 0,X T 0 0] 134)) NLN;have i:=Ah.new I #[U V op,U V 0,Q ⟨#[]⟩,X T 0 0,X T 0 0] 134;rw[H]at i;have ag:(I.alloc (.cells #[U V op,U V 0,Q ⟨#[]⟩,X T 0 0,X T 0 0] 134)).heap.size=w.heap.size+2:=by simp[H]
 obtain⟨c0,c1,c2,c3,c4,d⟩:=Aq h;have ah:=Co text;by_cases J:op=1
 ·subst J;have a:=Ab ((Aa a).trans (by rw[zN (Aa t),if_pos rfl,zr]));cases ty
  all_goals go_wp2
  all_goals
   go_ret
   refine⟨Ag ?_,b.alloc (by omega) _⟩;rw[Aa a];have o:((nn:Int)==0)=decide (nn=0):=by rw[zY];simp
   clear a h l i b g k m c0 c1 c2 c3 c4 d
   simp_all
   try omega
 by_cases K:op=2
 ·subst K;have a:=Ab ((Aa a).trans (by rw[zN (Aa t),if_neg (by omega),if_pos rfl,zr]));cases c:Ci text
  ·have f:=Ab c;clear c;go_wp2_with (go_at_call 60;refine(MY _ _ hs).mono ?_;rintro e w' ⟨rfl,n⟩;rw[Aa f,n];clear n)
   all_goals
    go_ret
    refine⟨Ag ?_,b.alloc (by omega) _⟩;rw[Aa a];have c:=Aa f;have o:((nn:Int)==0)=decide (nn=0):=by rw[zY];simp
    clear a h l i b g k m c0 c1 c2 c3 c4 d
    simp_all
    try omega
  ·have f:=Ab c;clear c;go_wp2_with (go_at_call 60;refine(MY _ _ hs).mono ?_;rintro e w' ⟨rfl,n⟩;rw[Aa f,n];clear n)
   all_goals
    go_ret
    refine⟨Ag ?_,b.alloc (by omega) _⟩;rw[Aa a];have c:=Aa f;have o:((nn:Int)==0)=decide (nn=0):=by rw[zY];simp
    clear a h l i b g k m c0 c1 c2 c3 c4 d
    simp_all
    try omega
 by_cases L:op=3
 ·subst L;have a:=Ab ((Aa a).trans (by rw[zN (Aa t),if_neg (by omega),if_neg (by omega),if_pos rfl,zr]));go_wp2
  all_goals
   go_ret
   refine⟨Ag ?_,b.alloc (by omega) _⟩;rw[Aa a];have o:((nn:Int)==0)=decide (nn=0):=by rw[zY];simp
   clear a h l i b g k m c0 c1 c2 c3 c4 d
   simp_all
   try omega
 by_cases M:op=4
 ·subst M;have a:=Ab ((Aa a).trans (by rw[zN (Aa t),if_neg (by omega),if_neg (by omega),if_neg (by omega),if_pos rfl,zr]));cases c:AR names
  ·have f:=Ab c;clear c;go_wp2_with (go_at_call 61;refine(AH _ _ _ _ _ m).mono ?_;rintro e w' ⟨rfl,n⟩;rw[Aa f,n];clear n)
   all_goals
    go_ret
    refine⟨Ag ?_,b.alloc (by omega) _⟩;rw[Aa a];have c:=Aa f;have o:((nn:Int)==0)=decide (nn=0):=by rw[zY];simp
    clear a h l i b g k m c0 c1 c2 c3 c4 d
    simp_all
    try omega
  ·have f:=Ab c;clear c;go_wp2_with (go_at_call 61;refine(AH _ _ _ _ _ m).mono ?_;rintro e w' ⟨rfl,n⟩;rw[Aa f,n];clear n)
   all_goals
    go_ret
    refine⟨Ag ?_,b.alloc (by omega) _⟩;rw[Aa a];have c:=Aa f;have o:((nn:Int)==0)=decide (nn=0):=by rw[zY];simp
    clear a h l i b g k m c0 c1 c2 c3 c4 d
    simp_all
    try omega
 by_cases N:op=5
 ·subst N;have a:=Ab ((Aa a).trans (by rw[zN (Aa t),if_neg (by omega),if_neg (by omega),if_neg (by omega),if_neg (by omega),if_pos rfl,zr]));cases ty with
  |true=>
   go_wp2
   all_goals
    go_ret
    refine⟨Ag ?_,b.alloc (by omega) _⟩;rw[Aa a];simp
  |false=>
   cases c:Ek text
   ·have f:=Ab c;clear c;go_wp2_with fail
    refine(EU _ _ hs).mono ?_;rintro e w2 ⟨rfl,q⟩;rw[Aa f];have z:=l.after q NLN;have A:=i.after q NLN;have B:=g.trans (q.mono g.size);clear h l i g k m c0 c1 c2 c3 c4 d q;obtain⟨c0,c1,c2,c3,c4,d⟩:=Aq z;obtain⟨O,d1,d2,d3,d4,P⟩:=Aq A;go_wp2
    all_goals
     go_ret
     refine⟨Ag ?_,B⟩;rw[Aa a];have c:=Aa f;have o:((nn:Int)==0)=decide (nn=0):=by rw[zY];simp
     clear a z A B b c0 c1 c2 c3 c4 d O d1 d2 d3 d4 P
     simp_all
     try omega
   ·have f:=Ab c;clear c;go_wp2_with fail
    refine(EU _ _ hs).mono ?_;rintro e w2 ⟨rfl,q⟩;rw[Aa f];have z:=l.after q NLN;have A:=i.after q NLN;have B:=g.trans (q.mono g.size);clear h l i g k m c0 c1 c2 c3 c4 d q;obtain⟨c0,c1,c2,c3,c4,d⟩:=Aq z;obtain⟨O,d1,d2,d3,d4,P⟩:=Aq A;go_wp2
    all_goals
     go_ret
     refine⟨Ag ?_,B.setCell (p:=⟨w.heap.size+1,2,T⟩) (by show w.heap.size<=w.heap.size+1;omega) _⟩;rw[Aa a];have c:=Aa f;have o:((nn:Int)==0)=decide (nn=0):=by rw[zY];simp
     clear a z A B b c0 c1 c2 c3 c4 d O d1 d2 d3 d4 P
     simp_all
     try omega
 by_cases S:op=6
 ·subst S;have a:=Ab ((Aa a).trans (by rw[zN (Aa t),if_neg (by omega),if_neg (by omega),if_neg (by omega),if_neg (by omega),if_neg (by omega),if_pos rfl,zr]));cases ty
  all_goals go_wp2
  all_goals
   go_ret
   refine⟨Ag ?_,b.alloc (by omega) _⟩;rw[Aa a];have o:((nn:Int)==0)=decide (nn=0):=by rw[zY];simp
   clear a h l i b g k m c0 c1 c2 c3 c4 d
   simp_all
   try omega
 by_cases W:op=7
 ·subst W;have a:=Ab ((Aa a).trans (by rw[zN (Aa t),if_neg (by omega),if_neg (by omega),if_neg (by omega),if_neg (by omega),if_neg (by omega),if_neg (by omega),if_pos rfl,zr]));cases ty
  all_goals go_wp2
  all_goals
   go_ret
   refine⟨Ag ?_,b.alloc (by omega) _⟩;rw[Aa a];have o:((nn:Int)==0)=decide (nn=0):=by rw[zY];simp
   clear a h l i b g k m c0 c1 c2 c3 c4 d
   simp_all
   try omega
 have a:=Ab ((Aa a).trans (by rw[zN (Aa t),if_neg J,if_neg K,if_neg L,if_neg M,if_neg N,if_neg S,if_neg W,zr]));have ai:=zA.2 J;have aj:=zA.2 K;have ak:=zA.2 L;have al:=zA.2 M;have ao:=zA.2 N;have ap:=zA.2 S;have aq:=zA.2 W;go_wp2
 all_goals
  go_ret
  refine⟨Ag ?_,b.alloc (by omega) _⟩;rw[Aa a];have o:((nn:Int)==0)=decide (nn=0):=by rw[zY];simp
  clear a h l i b g k m c0 c1 c2 c3 c4 d
  simp_all
  try omega
theorem U0 (x:Nd)(an:Option Addr)(nn cn:Nat)(b:Option Addr)(a c:Nat)(w:World)(d:AJ w an nn cn x.names)(f:a=x.kids.length)(hs:x.text.size<=1048576)(hk:a<=1048576):
  Calls jL 95 #[ndV x.op x.num x.text an nn cn b a c,.bool false] w fun e w'=>e= .returned (.bool (Bo x))/\An w w':=by
 rw[<-Abr];exact MA false x an nn cn b a c w d f hs hk
end Go.Proofs.YtppafecmccdplaaGreat
