import Derived.Test.YtppafecmccdplaaGreatMXAG
open Go.Proofs.Tryz
open Go.Value renaming int->U,slice->X,string->Q
open Go.IntKind renaming i64->V
open Bool renaming false->jA
open Go.Proofs.Tryz renaming prog->jL
namespace Go.Proofs.YtppafecmccdplaaGreat
set_option maxRecDepth 100000
set_option maxHeartbeats 3200000
open Go.RowKit
set_option linter.unusedVariables false
theorem Tx (s:ByteArray)(w:World)(hs:s.size<=1048576):
  Calls jL 60 #[Q s] w fun e w'=>e= .returned (.bool (Nk s))/\w'=w:=by
 by_cases h0:s.size=0
 ·have e:s=⟨#[]⟩:=IN (zj h0);subst e;go_enter func60,ntmps60
  go_wp2
  go_ret
  exact⟨rfl,rfl⟩
 ·have c:=CS h0;have b:=Ab (show Nk s=vnB s by rw[Nk,vnB,show decide (1<=s.size/\s.size<=32)=decide (s.size<=32) by rw[decide_eq_decide];omega]);go_enter func60,ntmps60
  go_wp2_with (go_at_call 91;refine(Fe _ _ (by unfold maxLen;omega)).mono ?_;rintro e w' ⟨rfl,a⟩;rw[a];clear a)
  go_ret
  exact⟨Ag (Aa b).symm,rfl⟩
theorem My (op:Int)(w:World):
  Calls jL 38 #[U V op] w fun e w'=>e= .returned (.bool (VH op))/\w'=w:=by
 go_enter func38,ntmps38
 go_wp2
 all_goals
  go_ret
  refine⟨Ag ?_,rfl⟩;rw[VH];rw[zY,decide_eq_true_iff];simp
  try omega
theorem Mz (i:Cg)(w:World):
  Calls jL 33 #[.agg #[U V i.op,U V i.arg]] w fun e w'=>e= .returned (.bool (Gl i))/\An w w':=by
 have a:=AN w (.cells #[U V i.op,U V i.arg] 49);obtain⟨op,arg⟩:=i;have b:=Ab (show Gl ⟨op,arg⟩=(decide (1<=op/\op<=25)&&(if VH op then decide (0<=arg/\arg<=65535)else decide (arg=0)))from rfl);have c:=Ab (show VH op=decide ((1<=op/\op<=4)\/op=22\/op=23)from rfl);generalize Gl ⟨op,arg⟩=g at b|-;simp only at a|-;by_cases d:(1<=op/\op<=4)\/op=22\/op=23
 ·have:op=1\/op=2\/op=3\/op=4\/op=22\/op=23:=by omega
  rcases this with e|e|e|e|e|e<;>subst e<;>(go_enter func33,ntmps33;go_wp2)<;>(go_ret;refine⟨Ag ?_,a⟩;rw[Aa b,Aa c];clear b c a;simp<;>omega)
 ·have f:=Ab (show VH op=jA by rw[Aa c,zI d]);have e1:(op==1)=jA:=zA.2 (by omega);have e2:(op==2)=jA:=zA.2 (by omega);have e3:(op==3)=jA:=zA.2 (by omega);have e4:(op==4)=jA:=zA.2 (by omega);have h:(op==22)=jA:=zA.2 (by omega);have j:(op==23)=jA:=zA.2 (by omega);clear d;go_enter func33,ntmps33
  go_wp2
  all_goals
   go_ret
   refine⟨Ag ?_,a⟩;rw[Aa b,Aa f]
   first
    |(rw[zN (by omega)];rfl)
    |(rw[zI (by omega)];rfl)
theorem JX (x:Vl)(an:Option Addr)(nn cn:Nat)(w:World)(i:AJ w an nn cn x.names)(hs:x.text.size<=1048576):
  Calls jL 32 #[.agg #[U V x.kind,U V x.num,Q x.text,X an nn cn]] w fun e w'=>e= .returned (.bool (CH x))/\An w w':=by
 have D:=i.cap;have A:=i.small;unfold maxLen at A;have a:=Ab (show CH x=(if x.kind=1 then decide (x.num=0\/x.num=1)&&decide (x.text.size=0)&&decide (nn=0)else if x.kind=2 then decide (x.text.size=0)&&decide (nn=0)else if x.kind=3 then Nk x.text&&decide (x.num=0)&&decide (nn=0)else if x.kind=4 then AR x.names&&decide (x.num=0)&&decide (x.text.size=0)else jA) by rw[CH,<-i.len]);generalize CH x=E at a|-;obtain⟨kind,num,text,names⟩:=x;simp only at a i hs|-;have r:=AN w (.cells #[U V kind,U V num,Q text,X an nn cn] 44);have s:=Ah.new w #[U V kind,U V num,Q text,X an nn cn] 44;have j:=i.below r NLN;have k:=Ab i;clear i;obtain⟨c0,c1,c2,c3⟩:=AC s;go_enter func32,ntmps32
 go_wp2_with fail
 generalize w.alloc (.cells #[U V kind,U V num,Q text,X an nn cn] 44)=q at*;go_region
 have f:Ah q.drew w.heap.size #[U V kind,U V num,Q text,X an nn cn] 44:=⟨s.out⟩
 have b:An w q.drew:=r.drew;have g:AJ q.drew an nn cn names:=⟨j.len,j.cap,j.small,j.sizes,j.cells⟩
 clear s r j c0 c1 c2 c3;generalize q.drew=F at f b g|-;obtain⟨c0,c1,c2,c3⟩:=AC f;by_cases t:kind=1
 ·subst t;have a:=Ab ((Aa a).trans (by rw[if_pos rfl]));go_wp2
  all_goals
   go_ret
   refine⟨Ag ?_,(by first|exact b|exact AN w _)⟩
   rw[Aa a];have l:=Co text;have m:text.toList.isEmpty=decide (text.size=0):=by rw[zY,Z6,decide_eq_true_iff];exact Co text
   have n:((nn:Int)==0)=decide (nn=0):=by rw[zY];simp
   clear a f b g k
   simp_all
   try omega
 by_cases u:kind=2
 ·subst u;have a:=Ab ((Aa a).trans (by rw[if_neg (by omega),if_pos rfl]));go_wp2
  all_goals
   go_ret
   refine⟨Ag ?_,(by first|exact b|exact AN w _)⟩
   rw[Aa a];have l:=Co text;have m:text.toList.isEmpty=decide (text.size=0):=by rw[zY,Z6,decide_eq_true_iff];exact Co text
   have n:((nn:Int)==0)=decide (nn=0):=by rw[zY];simp
   clear a f b g k
   simp_all
   try omega
 by_cases v:kind=3
 ·subst v;have a:=Ab ((Aa a).trans (by rw[if_neg (by omega),if_neg (by omega),if_pos rfl]));cases c:Nk text
  ·have d:=Ab c;clear c;go_wp2_with (go_at_call 57;refine(Im _ _ (by unfold maxLen;omega)).mono ?_;rintro e w2 ⟨rfl,o⟩;rw[show(decide (text.size<=32)&&IJ text.data.toList)=Nk text from rfl];rw[Aa d,o];clear o)
   all_goals
    go_ret
    refine⟨Ag ?_,(by first|exact b|exact AN w _)⟩
    rw[Aa a];have c:=Aa d;have l:=Co text;have m:text.toList.isEmpty=decide (text.size=0):=by rw[zY,Z6,decide_eq_true_iff];exact Co text
    have n:((nn:Int)==0)=decide (nn=0):=by rw[zY];simp
    clear a f b g k
    simp_all
    try omega
  ·have d:=Ab c;clear c;go_wp2_with (go_at_call 57;refine(Im _ _ (by unfold maxLen;omega)).mono ?_;rintro e w2 ⟨rfl,o⟩;rw[show(decide (text.size<=32)&&IJ text.data.toList)=Nk text from rfl];rw[Aa d,o];clear o)
   all_goals
    go_ret
    refine⟨Ag ?_,(by first|exact b|exact AN w _)⟩
    rw[Aa a];have c:=Aa d;have l:=Co text;have m:text.toList.isEmpty=decide (text.size=0):=by rw[zY,Z6,decide_eq_true_iff];exact Co text
    have n:((nn:Int)==0)=decide (nn=0):=by rw[zY];simp
    clear a f b g k
    simp_all
    try omega
 by_cases y:kind=4
 ·subst y;have a:=Ab ((Aa a).trans (by rw[if_neg (by omega),if_neg (by omega),if_neg (by omega),if_pos rfl]));cases c:AR names
  ·have d:=Ab c;clear c;have h:=Ab (And.intro f b);go_wp2_with (go_at_call 58;refine(QJ _ _ _ _ _ g).mono ?_;rintro e w2 ⟨rfl,p⟩;rw[Aa d];have z:=(Aa h).2.trans (p.mono (Aa h).2.size);obtain⟨B,d1,d2,d3⟩:=AC ((Aa h).1.after p NLN))
   all_goals
    go_ret
    refine⟨Ag ?_,by first|exact z|exact b|exact AN w _⟩
    rw[Aa a];have c:=Aa d;have l:=Co text;have m:text.toList.isEmpty=decide (text.size=0):=by rw[zY,Z6,decide_eq_true_iff];exact Co text
    have n:((nn:Int)==0)=decide (nn=0):=by rw[zY];simp
    clear a f b g k h
    simp_all
    try omega
  ·have d:=Ab c;clear c;have h:=Ab (And.intro f b);go_wp2_with (go_at_call 58;refine(QJ _ _ _ _ _ g).mono ?_;rintro e w2 ⟨rfl,p⟩;rw[Aa d];have z:=(Aa h).2.trans (p.mono (Aa h).2.size);obtain⟨B,d1,d2,d3⟩:=AC ((Aa h).1.after p NLN))
   all_goals
    go_ret
    refine⟨Ag ?_,by first|exact z|exact b|exact AN w _⟩
    rw[Aa a];have c:=Aa d;have l:=Co text;have m:text.toList.isEmpty=decide (text.size=0):=by rw[zY,Z6,decide_eq_true_iff];exact Co text
    have n:((nn:Int)==0)=decide (nn=0):=by rw[zY];simp
    clear a f b g k h
    simp_all
    try omega
 have C:=Ab ((Aa a).trans (by rw[if_neg t,if_neg u,if_neg v,if_neg y]));have e1:=zA.2 t;have e2:=zA.2 u;have e3:=zA.2 v;have e4:=zA.2 y;clear a;go_wp2
 all_goals
  go_ret
  exact⟨Ag (Aa C).symm,by first|exact b|exact AN w _⟩
theorem OR (x:Vl)(an:Option Addr)(nn cn:Nat)(w:World)(c:AJ w an nn cn x.names)(hs:x.text.size<=1048576):
  Calls jL 37 #[.agg #[U V x.kind,U V x.num,Q x.text,X an nn cn]] w fun e w'=>e= .returned (.bool (CH x))/\An w w':=by
 have D:=c.cap;have C:=c.small;unfold maxLen at C;have a:=Ab (show CH x=(if x.kind=1 then decide (x.num=0\/x.num=1)&&decide (x.text.size=0)&&decide (nn=0)else if x.kind=2 then decide (x.text.size=0)&&decide (nn=0)else if x.kind=3 then Nk x.text&&decide (x.num=0)&&decide (nn=0)else if x.kind=4 then AR x.names&&decide (x.num=0)&&decide (x.text.size=0)else jA) by rw[CH,<-c.len]);generalize CH x=n at a|-;obtain⟨kind,num,text,names⟩:=x;simp only at a c hs|-;have o:=AN w (.cells #[U V kind,U V num,Q text,X an nn cn] 44);have y:=Ah.new w #[U V kind,U V num,Q text,X an nn cn] 44;have z:=c.below o NLN;have k:=Ab c;clear c;go_enter func37,ntmps37
 have l:=y;have b:=o;have g:=z;clear y o z;by_cases p:kind=1
 ·subst p;have a:=Ab ((Aa a).trans (by rw[if_pos rfl]));go_wp2
  all_goals
   go_ret
   refine⟨Ag ?_,(by first|exact b|exact AN w _)⟩
   rw[Aa a];have q:=Co text;have r:text.toList.isEmpty=decide (text.size=0):=by rw[zY,Z6,decide_eq_true_iff];exact Co text
   have s:((nn:Int)==0)=decide (nn=0):=by rw[zY];simp
   clear a l b g k
   simp_all
   try omega
 by_cases t:kind=2
 ·subst t;have a:=Ab ((Aa a).trans (by rw[if_neg (by omega),if_pos rfl]));go_wp2
  all_goals
   go_ret
   refine⟨Ag ?_,(by first|exact b|exact AN w _)⟩
   rw[Aa a];have q:=Co text;have r:text.toList.isEmpty=decide (text.size=0):=by rw[zY,Z6,decide_eq_true_iff];exact Co text
   have s:((nn:Int)==0)=decide (nn=0):=by rw[zY];simp
   clear a l b g k
   simp_all
   try omega
 by_cases u:kind=3
 ·subst u;have a:=Ab ((Aa a).trans (by rw[if_neg (by omega),if_neg (by omega),if_pos rfl]));cases f:Nk text
  ·have h:=Ab f;clear f;go_wp2_with (go_at_call 60;refine(Tx _ _ hs).mono ?_;rintro e w2 ⟨rfl,i⟩;rw[Aa h,i];clear i)
   all_goals
    go_ret
    refine⟨Ag ?_,(by first|exact b|exact AN w _)⟩
    rw[Aa a];have f:=Aa h;have q:=Co text;have r:text.toList.isEmpty=decide (text.size=0):=by rw[zY,Z6,decide_eq_true_iff];exact Co text
    have s:((nn:Int)==0)=decide (nn=0):=by rw[zY];simp
    clear a l b g k
    simp_all
    try omega
  ·have h:=Ab f;clear f;go_wp2_with (go_at_call 60;refine(Tx _ _ hs).mono ?_;rintro e w2 ⟨rfl,i⟩;rw[Aa h,i];clear i)
   all_goals
    go_ret
    refine⟨Ag ?_,(by first|exact b|exact AN w _)⟩
    rw[Aa a];have f:=Aa h;have q:=Co text;have r:text.toList.isEmpty=decide (text.size=0):=by rw[zY,Z6,decide_eq_true_iff];exact Co text
    have s:((nn:Int)==0)=decide (nn=0):=by rw[zY];simp
    clear a l b g k
    simp_all
    try omega
 by_cases v:kind=4
 ·subst v;have a:=Ab ((Aa a).trans (by rw[if_neg (by omega),if_neg (by omega),if_neg (by omega),if_pos rfl]));by_cases m:num=0
  ·subst m;by_cases j:text.size=0
   ·have A:text=ByteArray.empty:=IN (zj j);subst A;have d:=Ab (show n=AR names by rw[Aa a];simp);clear a j;go_wp2_with (go_at_call 61;refine(AH _ _ _ _ _ g).mono ?_;rintro e w2 ⟨rfl,B⟩;rw[B];clear B)
    go_ret
    exact⟨Ag (Aa d).symm,b⟩
   ·have A:=CS j;have d:=Ab (show n=jA by rw[Aa a,zI j,Bool.and_false]);clear a j;go_wp2
    go_ret
    exact⟨Ag (Aa d).symm,b⟩
  ·have en:(num==0)=jA:=zA.2 m;have d:=Ab (show n=jA by rw[Aa a,zI m];simp);clear a m;go_wp2
   go_ret
   exact⟨Ag (Aa d).symm,b⟩
 have d:=Ab ((Aa a).trans (by rw[if_neg p,if_neg t,if_neg u,if_neg v]));have e1:=zA.2 p;have e2:=zA.2 t;have e3:=zA.2 u;have e4:=zA.2 v;clear a;go_wp2
 all_goals
  go_ret
  exact⟨Ag (Aa d).symm,by first|exact b|exact AN w _⟩
end Go.Proofs.YtppafecmccdplaaGreat
