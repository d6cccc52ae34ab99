/-
  Parse: let, when, last (written by mkgu.py). Own work.
-/
import Derived.Test.YtdldimphcpojoaaGreatDoorMXAS
namespace Go.Proofs.YtdldimphcpojoaaGreatDoor
set_option maxRecDepth 100000
set_option maxHeartbeats 1600000
open Go.RowKit
set_option linter.unusedVariables false
variable {aY : Addr} {pb g c : Nat} {T : List Af} {tl : Nat}
theorem KC (p: 17≤pb)(t:Af)(r:List Af)(q:(CW tl r).kind≠3)(w:World)(k:Nat)(h:Pp w pb g c T tl (t ::r) k)(l:Gy w aY):
  Calls Tryz.prog 85 #[.pointer (some ⟨pb,0,none⟩)] w (LO aY pb g c T tl (.bad r) w):=by
 have a:=(Below.refl w.heap.size w).alloc NLN (.cells #[.int .i64 0,.int .i64 0,.string ⟨#[]⟩,.nilIface,.nilIface] 122);have s:=An.new w #[.int .i64 0,.int .i64 0,.string ⟨#[]⟩,.nilIface,.nilIface] 122;have v:=Ab (l.below a);have x:=h.below a;have nz:=h.row.lt;have H:=Cz (.int .i64 t.kind) (.int .i64 t.num) (.string t.text) (.int .i64 (t.at_:Int));have e3:((CW tl r).kind != 3)=true:=bne_iff_ne.2 q;clear h l;go_enter Tryz.func85,Tryz.ntmps85
 go_wp2_with fail
 generalize w.alloc (.cells #[.int .i64 0,.int .i64 0,.string ⟨#[]⟩,.nilIface,.nilIface] 122)=I at *;refine (BD x).mono ?_;rintro e m ⟨rfl,d,f⟩;have y:=s.touchP f (.inr nz);have z:=(Ai.of_below (lo:=pb) (hi:=pb+1) a NLN).trans f;have A:=Ab (Bp d);have B:=Ab (fun w' (n:Below m.heap.size m w')=>CM (d.below n) (((Aa v).touch f p).below n));clear d;dsimp only[Cw];go_wp2_with fail
 refine (Aa A).mono ?_;rintro e C ⟨rfl,i⟩;generalize CW tl r=u at e3;have J:=Oi (.int .i64 u.kind) (.int .i64 u.num) (.string u.text) (.int .i64 (u.at_:Int));dsimp only[Cw];go_wp2_with fail
 refine (Aa B C i).mono ?_;rintro e K ⟨b,rfl,E,o⟩;have j:=(y.after i NLN).after o NLN;have F:=(z.allP i).allP o;obtain ⟨L,c1,c2,c3,c4,M⟩:=EF j;dsimp only[BS];go_wp2_with fail
 exact bodyPost_ret (Di (cs:=#[]) Tryz.results85 rfl rfl (Bv j (.int .i64 0) (.int .i64 0) (.string ⟨#[]⟩) .nilIface .nilIface)) rfl ⟨⟨_,_,_,_,_,b,rfl,.inl rfl,.inl rfl,E.put5 j (.int .i64 0) (.int .i64 0) (.string ⟨#[]⟩) .nilIface .nilIface⟩,F.put5 NLN (.int .i64 0) (.int .i64 0) (.string ⟨#[]⟩) .nilIface .nilIface⟩
def UZ (t n:Af):PR→SR
 | .bad q=> .bad q
 | .ok e []=> .bad []
 | .ok e (u ::q)=>if see AF u=true then .ok ⟨t.at_,1,n.text,some e,none⟩ q else .bad (u ::q)
theorem MV (o: 17≤pb)(t n:Af)(r:List Af)(y:PR)(L:n.kind=3)(d:D (.beh NU) r y)(w:World)(k:Nat)(h:Pp w pb g c T tl (t ::n ::r) k)(M:Gy w aY):
  Calls Tryz.prog 85 #[.pointer (some ⟨pb,0,none⟩)] w (LO aY pb g c T tl (UZ t n y) w):=by
 have x:=(Below.refl w.heap.size w).alloc NLN (.cells #[.int .i64 0,.int .i64 0,.string ⟨#[]⟩,.nilIface,.nilIface] 122);have ad:=An.new w #[.int .i64 0,.int .i64 0,.string ⟨#[]⟩,.nilIface,.nilIface] 122;have ae:=Ab (M.below x);have N:=h.below x;have nz:=h.row.lt;have aw:=Cz (.int .i64 t.kind) (.int .i64 t.num) (.string t.text) (.int .i64 (t.at_:Int));have ax:=Oi (.int .i64 n.kind) (.int .i64 n.num) (.string n.text) (.int .i64 (n.at_:Int));have ay:=Og (.int .i64 n.kind) (.int .i64 n.num) (.string n.text) (.int .i64 (n.at_:Int));have e3:(n.kind != 3)=false:=by rw[L];rfl
 have af:=Ab d;clear h M;go_enter Tryz.func85,Tryz.ntmps85
 go_wp2_with fail
 generalize w.alloc (.cells #[.int .i64 0,.int .i64 0,.string ⟨#[]⟩,.nilIface,.nilIface] 122)=az at *;refine (BD N).mono ?_;rintro e O ⟨rfl,z,A⟩;have ag:=ad.touchP A (.inr nz);have ah:=(Ai.of_below (lo:=pb) (hi:=pb+1) x NLN).trans A;have ai:=Ab (Bp z);have aj:=Ab (fun w' (ak:Below O.heap.size O w')=>BD (z.below ak));clear z N d L;dsimp only[Cw];go_wp2_with fail
 refine (Aa ai).mono ?_;rintro e al ⟨rfl,B⟩;dsimp only[Cw,CW];go_wp2_with fail
 refine (Aa aj al B).mono ?_;rintro e ao ⟨rfl,P,Q⟩;have R:=(ag.after B NLN).touchP Q (.inr nz);have S:=(Ai.of_below (lo:=pb) (hi:=pb+1) B NLN).trans Q;have U:=ah.trans S;have V:=Ab (((Aa ae).touch A o).touch S o);have ap:=Ab (Ig (aY:=aY) o NU r y (Aa af) ao _ P (Aa V));clear P;dsimp only[Cw];go_wp2_with fail
 refine (Aa ap).mono ?_;intro aA aB W;cases y with
 | bad q=>
  obtain ⟨⟨v,b,rfl,aq,C⟩,i⟩:=W;have j:=R.touchP i (.inr nz);have s:=U.trans i;obtain ⟨X,c1,c2,c3,c4,Y⟩:=EF j;rcases aq with rfl | ⟨aC,aD,rfl⟩
  all_goals
   dsimp only[BS];go_wp2_with fail
   exact bodyPost_ret (Di (cs:=#[]) Tryz.results85 rfl rfl (Bv j (.int .i64 0) (.int .i64 0) (.string ⟨#[]⟩) .nilIface .nilIface)) rfl ⟨⟨_,_,_,_,_,b,rfl,.inl rfl,.inl rfl,C.put5 j (.int .i64 0) (.int .i64 0) (.string ⟨#[]⟩) .nilIface .nilIface⟩,s.put5 NLN (.int .i64 0) (.int .i64 0) (.string ⟨#[]⟩) .nilIface .nilIface⟩
 | ok p q=>
  obtain ⟨⟨e,aE,rfl,he,Z,aa⟩,i⟩:=W;have j:=R.touchP i (.inr nz);have s:=U.trans i;have ar:=Ab ((Aa V).touch i o);obtain ⟨l,m,E⟩:=e.form;have F:=Ab (And.intro he (And.intro Z E));rw[E];have ab:(AL AF q=false→UZ t n (.ok p q)= .bad q)∧(∀ u a,q=u ::a→see AF u=true→UZ t n (.ok p q)= .ok ⟨t.at_,1,n.text,some p,none⟩ a):=⟨fun h=>by
    cases q with
    | nil=>rfl
    | cons u q=>exact if_neg (by rw[show see AF u=false from h];decide),fun u a e h=>by subst e;exact if_pos h⟩
  clear he Z E;cases hq:AL AF q
  ·have H:=Ab (DB aa (Aa ar) AF hq);have I:=Ab (ab.1 hq);clear hq;dsimp only;go_wp2_with fail
   refine (Aa H).mono ?_;rintro e au ⟨b,rfl,C,ac⟩;have f:=j.after ac NLN;have J:=s.allP ac;obtain ⟨X,c1,c2,c3,c4,Y⟩:=EF f;dsimp only[BS];go_wp2_with fail
   rw[Aa I];exact bodyPost_ret (Di (cs:=#[]) Tryz.results85 rfl rfl (Bv f (.int .i64 (t.at_:Int)) (.int .i64 1) (.string n.text) (.iface l m) .nilIface)) rfl ⟨⟨_,_,_,_,_,b,rfl,.inr ⟨_,_,rfl⟩,.inl rfl,C.put5 f (.int .i64 (t.at_:Int)) (.int .i64 1) (.string n.text) (.iface l m) .nilIface⟩,J.put5 NLN (.int .i64 (t.at_:Int)) (.int .i64 1) (.string n.text) (.iface l m) .nilIface⟩
  ·obtain ⟨u,a,rfl⟩:∃ u a,q=u ::a:=by
    cases q with
    | nil=>cases hq
    | cons u a=>exact ⟨u,a,rfl⟩
   have H:=Ab (CN aa AF hq);have I:=Ab (ab.2 u a rfl hq);clear hq;dsimp only;go_wp2_with fail
   refine (Aa H).mono ?_;rintro e au ⟨rfl,av,K⟩;have f:=j.touchP K (.inr nz);have J:=s.trans K;obtain ⟨X,c1,c2,c3,c4,Y⟩:=EF f;dsimp only;go_wp2_with fail
   rw[Aa I];exact bodyPost_ret (Di (cs:=#[]) Tryz.results85 rfl rfl (Bv f (.int .i64 (t.at_:Int)) (.int .i64 1) (.string n.text) (.iface l m) .nilIface)) rfl ⟨⟨some e,none,_,by rw[DE,DE,(Aa F).2.2];rfl,(Aa F).1,trivial,Et f _ _ _ _ _ (some e) (e.own_touch K (Aa F).2.1),trivial,av.put5 f (.int .i64 (t.at_:Int)) (.int .i64 1) (.string n.text) (.iface l m) .nilIface⟩,J.put5 NLN (.int .i64 (t.at_:Int)) (.int .i64 1) (.string n.text) (.iface l m) .nilIface⟩
def Oj (t:Af) (e:Pt):DR→SR
 | .bad q=> .bad q
 | .ok g []=> .bad []
 | .ok g (u ::q)=>if see AF u=true then .ok ⟨t.at_,2,Ax [],some e,g⟩ q else .bad (u ::q)
def Ol (t:Af):DR→SR
 | .bad q=> .bad q
 | .ok g []=> .bad []
 | .ok g (u ::q)=>if see AF u=true then .ok ⟨t.at_,3,Ax [],none,g⟩ q else .bad (u ::q)
theorem MW (o: 17≤pb)(t:Af)(r q:List Af)(d:D (.beh AZ) (t ::r) (.bad q))(w:World)(k:Nat)(h:Pp w pb g c T tl (t ::r) k)(l:Gy w aY):
  Calls Tryz.prog 86 #[.pointer (some ⟨pb,0,none⟩)] w (LO aY pb g c T tl (.bad q) w):=by
 have f:=(Below.refl w.heap.size w).alloc NLN (.cells #[.int .i64 0,.int .i64 0,.string ⟨#[]⟩,.nilIface,.nilIface] 122);have p:=An.new w #[.int .i64 0,.int .i64 0,.string ⟨#[]⟩,.nilIface,.nilIface] 122;have s:=Ab (l.below f);have i:=h.below f;have nz:=h.row.lt;have H:=Cz (.int .i64 t.kind) (.int .i64 t.num) (.string t.text) (.int .i64 (t.at_:Int));have u:=Ab d;clear h l;go_enter Tryz.func86,Tryz.ntmps86
 go_wp2_with fail
 generalize w.alloc (.cells #[.int .i64 0,.int .i64 0,.string ⟨#[]⟩,.nilIface,.nilIface] 122)=I at *;refine (Bp i).mono ?_;rintro e x ⟨rfl,a⟩;have m:=i.below a;have y:=p.after a NLN;have z:=(Ai.of_below (lo:=pb) (hi:=pb+1) f NLN).allP a;have A:=Ab ((Aa s).below a);have B:=Ab (Ig (aY:=aY) o AZ _ _ (Aa u) x _ m (Aa A));clear m i d;dsimp only[Cw,CW];go_wp2_with fail
 refine (Aa B).mono ?_;rintro J K ⟨⟨v,b,rfl,C,E⟩,n⟩;have j:=y.touchP n (.inr nz);have F:=z.trans n;obtain ⟨L,c1,c2,c3,c4,M⟩:=EF j;rcases C with rfl | ⟨N,O,rfl⟩
 all_goals
  dsimp only[BS];go_wp2_with fail
  exact bodyPost_ret (Di (cs:=#[]) Tryz.results86 rfl rfl (Bv j (.int .i64 0) (.int .i64 0) (.string ⟨#[]⟩) .nilIface .nilIface)) rfl ⟨⟨_,_,_,_,_,b,rfl,.inl rfl,.inl rfl,E.put5 j (.int .i64 0) (.int .i64 0) (.string ⟨#[]⟩) .nilIface .nilIface⟩,F.put5 NLN (.int .i64 0) (.int .i64 0) (.string ⟨#[]⟩) .nilIface .nilIface⟩
theorem KF (o: 17≤pb)(t:Af)(r q:List Af)(p:Pt)(y:DR)(d:D (.beh AZ) (t ::r) (.ok p q))(d2:DD Bh q y)(w:World)(k:Nat)(h:Pp w pb g c T tl (t ::r) k)(M:Gy w aY):
  Calls Tryz.prog 86 #[.pointer (some ⟨pb,0,none⟩)] w (LO aY pb g c T tl (Oj t p y) w):=by
 have A:=(Below.refl w.heap.size w).alloc NLN (.cells #[.int .i64 0,.int .i64 0,.string ⟨#[]⟩,.nilIface,.nilIface] 122);have af:=An.new w #[.int .i64 0,.int .i64 0,.string ⟨#[]⟩,.nilIface,.nilIface] 122;have ag:=Ab (M.below A);have B:=h.below A;have nz:=h.row.lt;have aA:=Cz (.int .i64 t.kind) (.int .i64 t.num) (.string t.text) (.int .i64 (t.at_:Int));have ah:=Ab d;have ai:=Ab d2;clear h M;go_enter Tryz.func86,Tryz.ntmps86
 go_wp2_with fail
 generalize w.alloc (.cells #[.int .i64 0,.int .i64 0,.string ⟨#[]⟩,.nilIface,.nilIface] 122)=aB at *;refine (Bp B).mono ?_;rintro e aj ⟨rfl,s⟩;have N:=B.below s;have ak:=af.after s NLN;have al:=(Ai.of_below (lo:=pb) (hi:=pb+1) A NLN).allP s;have O:=Ab ((Aa ag).below s);have ao:=Ab (Ig (aY:=aY) o AZ _ _ (Aa ah) aj _ N (Aa O));clear N B d d2;dsimp only[Cw,CW];go_wp2_with fail
 refine (Aa ao).mono ?_;rintro ap aq ⟨⟨e,aC,rfl,he,P,Q⟩,C⟩;have R:=ak.touchP C (.inr nz);have S:=al.trans C;have U:=Ab ((Aa O).touch C o);obtain ⟨l,m,E⟩:=e.form;have F:=Ab (And.intro he (And.intro P E));rw[E];have ar:=Ab (Ih (aY:=aY) o Bh q y (Aa ai) aq _ Q (Aa U));clear he P E Q;dsimp only;go_wp2_with fail
 refine (Aa ar).mono ?_;intro ap aD V;cases y with
 | bad q2=>
  obtain ⟨⟨v,b,rfl,au,H⟩,i⟩:=V;have n:=R.touchP i (.inr nz);have x:=S.trans i;obtain ⟨W,c1,c2,c3,c4,X⟩:=EF n;rcases au with rfl | ⟨aE,aF,rfl⟩
  all_goals
   dsimp only[BS];go_wp2_with fail
   exact bodyPost_ret (Di (cs:=#[]) Tryz.results86 rfl rfl (Bv n (.int .i64 0) (.int .i64 0) (.string ⟨#[]⟩) .nilIface .nilIface)) rfl ⟨⟨_,_,_,_,_,b,rfl,.inl rfl,.inl rfl,H.put5 n (.int .i64 0) (.int .i64 0) (.string ⟨#[]⟩) .nilIface .nilIface⟩,x.put5 NLN (.int .i64 0) (.int .i64 0) (.string ⟨#[]⟩) .nilIface .nilIface⟩
 | ok g2 q2=>
  obtain ⟨⟨j,aG,rfl,Y,Z,aa⟩,i⟩:=V;have n:=R.touchP i (.inr nz);have x:=S.trans i;have av:=Ab ((Aa U).touch i o);have I:=Ab (And.intro Y (And.intro Z (e.own_touch i (Aa F).2.1)));have ab:=Gq j;have aw:=Ab (show DE j=DE j from rfl);generalize ac:DE j=aH at ab;have ax:=Ab ac;clear aw ac Y Z;have ad:(AL AF q2=false→Oj t p (.ok g2 q2)= .bad q2)∧(∀ u a,q2=u ::a→see AF u=true→Oj t p (.ok g2 q2)= .ok ⟨t.at_,2,Ax [],some p,g2⟩ a):=⟨fun h=>by
    cases q2 with
    | nil=>rfl
    | cons u q=>exact if_neg (by rw[show see AF u=false from h];decide),fun u a e h=>by subst e;exact if_pos h⟩
  rcases ab with rfl | ⟨aI,aJ,rfl⟩
  all_goals
   cases hq:AL AF q2
   ·have J:=Ab (DB aa (Aa av) AF hq);have K:=Ab (ad.1 hq);clear hq;dsimp only;go_wp2_with fail
    refine (Aa J).mono ?_;rintro e ay ⟨b,rfl,H,ae⟩;have f:=n.after ae NLN;have L:=x.allP ae;obtain ⟨W,c1,c2,c3,c4,X⟩:=EF f;dsimp only[BS];go_wp2_with fail
    rw[Aa K];exact bodyPost_ret (Di (cs:=#[]) Tryz.results86 rfl rfl (Bv f (.int .i64 (t.at_:Int)) (.int .i64 2) (.string ⟨#[]⟩) (.iface l m) _)) rfl ⟨⟨_,_,_,_,_,b,rfl,.inr ⟨_,_,rfl⟩,by first | exact .inl rfl | exact .inr ⟨_,_,rfl⟩,H.put5 f (.int .i64 (t.at_:Int)) (.int .i64 2) (.string ⟨#[]⟩) (.iface l m) _⟩,L.put5 NLN (.int .i64 (t.at_:Int)) (.int .i64 2) (.string ⟨#[]⟩) (.iface l m) _⟩
   ·obtain ⟨u,a,rfl⟩:∃ u a,q2=u ::a:=by
     cases q2 with
     | nil=>cases hq
     | cons u a=>exact ⟨u,a,rfl⟩
    have J:=Ab (CN aa AF hq);have K:=Ab (ad.2 u a rfl hq);clear hq;dsimp only;go_wp2_with fail
    refine (Aa J).mono ?_;rintro e ay ⟨rfl,az,z⟩;have f:=n.touchP z (.inr nz);have L:=x.trans z;obtain ⟨W,c1,c2,c3,c4,X⟩:=EF f;dsimp only;go_wp2_with fail
    rw[Aa K];exact bodyPost_ret (Di (cs:=#[]) Tryz.results86 rfl rfl (Bv f (.int .i64 (t.at_:Int)) (.int .i64 2) (.string ⟨#[]⟩) (.iface l m) _)) rfl ⟨⟨some e,j,_,by rw[DE,Aa ax,(Aa F).2.2];rfl,(Aa F).1,(Aa I).1,Et f _ _ _ _ _ (some e) (e.own_touch z (Aa I).2.2),Et f _ _ _ _ _ j (KB z j (Aa I).2.1),az.put5 f (.int .i64 (t.at_:Int)) (.int .i64 2) (.string ⟨#[]⟩) (.iface l m) _⟩,L.put5 NLN (.int .i64 (t.at_:Int)) (.int .i64 2) (.string ⟨#[]⟩) (.iface l m) _⟩
theorem KG (B: 17≤pb)(t:Af)(r:List Af)(y:DR)(d2:DD AI (t ::r) y)(w:World)(k:Nat)(h:Pp w pb g c T tl (t ::r) k)(C:Gy w aY):
  Calls Tryz.prog 87 #[.pointer (some ⟨pb,0,none⟩)] w (LO aY pb g c T tl (Ol t y) w):=by
 have n:=(Below.refl w.heap.size w).alloc NLN (.cells #[.int .i64 0,.int .i64 0,.string ⟨#[]⟩,.nilIface,.nilIface] 122);have V:=An.new w #[.int .i64 0,.int .i64 0,.string ⟨#[]⟩,.nilIface,.nilIface] 122;have W:=Ab (C.below n);have o:=h.below n;have nz:=h.row.lt;have af:=Cz (.int .i64 t.kind) (.int .i64 t.num) (.string t.text) (.int .i64 (t.at_:Int));have X:=Ab d2;clear h C;go_enter Tryz.func87,Tryz.ntmps87
 go_wp2_with fail
 generalize w.alloc (.cells #[.int .i64 0,.int .i64 0,.string ⟨#[]⟩,.nilIface,.nilIface] 122)=ag at *;refine (Bp o).mono ?_;rintro e Y ⟨rfl,l⟩;have E:=o.below l;have F:=V.after l NLN;have H:=(Ai.of_below (lo:=pb) (hi:=pb+1) n NLN).allP l;have I:=Ab ((Aa W).below l);have Z:=Ab (Ih (aY:=aY) B AI (t ::r) y (Aa X) Y _ E (Aa I));clear E o d2;dsimp only[Cw,CW];go_wp2_with fail
 refine (Aa Z).mono ?_;intro ah ai J;cases y with
 | bad q2=>
  obtain ⟨⟨v,b,rfl,aa,p⟩,f⟩:=J;have i:=F.touchP f (.inr nz);have m:=H.trans f;obtain ⟨K,c1,c2,c3,c4,L⟩:=EF i;rcases aa with rfl | ⟨aj,ak,rfl⟩
  all_goals
   dsimp only[BS];go_wp2_with fail
   exact bodyPost_ret (Di (cs:=#[]) Tryz.results87 rfl rfl (Bv i (.int .i64 0) (.int .i64 0) (.string ⟨#[]⟩) .nilIface .nilIface)) rfl ⟨⟨_,_,_,_,_,b,rfl,.inl rfl,.inl rfl,p.put5 i (.int .i64 0) (.int .i64 0) (.string ⟨#[]⟩) .nilIface .nilIface⟩,m.put5 NLN (.int .i64 0) (.int .i64 0) (.string ⟨#[]⟩) .nilIface .nilIface⟩
 | ok g2 q2=>
  obtain ⟨⟨j,al,rfl,M,N,O⟩,f⟩:=J;have i:=F.touchP f (.inr nz);have m:=H.trans f;have ab:=Ab ((Aa I).touch f B);have P:=Ab (And.intro M N);have Q:=Gq j;generalize R:DE j=ao at Q;have ac:=Ab R;clear R M N;have S:(AL AF q2=false→Ol t (.ok g2 q2)= .bad q2)∧(∀ u a,q2=u ::a→see AF u=true→Ol t (.ok g2 q2)= .ok ⟨t.at_,3,Ax [],none,g2⟩ a):=⟨fun h=>by
    cases q2 with
    | nil=>rfl
    | cons u q=>exact if_neg (by rw[show see AF u=false from h];decide),fun u a e h=>by subst e;exact if_pos h⟩
  rcases Q with rfl | ⟨ap,aq,rfl⟩
  all_goals
   cases hq:AL AF q2
   ·have s:=Ab (DB O (Aa ab) AF hq);have x:=Ab (S.1 hq);clear hq;dsimp only;go_wp2_with fail
    refine (Aa s).mono ?_;rintro e ad ⟨b,rfl,p,U⟩;have d:=i.after U NLN;have z:=m.allP U;obtain ⟨K,c1,c2,c3,c4,L⟩:=EF d;dsimp only[BS];go_wp2_with fail
    rw[Aa x];exact bodyPost_ret (Di (cs:=#[]) Tryz.results87 rfl rfl (Bv d (.int .i64 (t.at_:Int)) (.int .i64 3) (.string ⟨#[]⟩) .nilIface _)) rfl ⟨⟨_,_,_,_,_,b,rfl,.inl rfl,by first | exact .inl rfl | exact .inr ⟨_,_,rfl⟩,p.put5 d (.int .i64 (t.at_:Int)) (.int .i64 3) (.string ⟨#[]⟩) .nilIface _⟩,z.put5 NLN (.int .i64 (t.at_:Int)) (.int .i64 3) (.string ⟨#[]⟩) .nilIface _⟩
   ·obtain ⟨u,a,rfl⟩:∃ u a,q2=u ::a:=by
     cases q2 with
     | nil=>cases hq
     | cons u a=>exact ⟨u,a,rfl⟩
    have s:=Ab (CN O AF hq);have x:=Ab (S.2 u a rfl hq);clear hq;dsimp only;go_wp2_with fail
    refine (Aa s).mono ?_;rintro e ad ⟨rfl,ae,A⟩;have d:=i.touchP A (.inr nz);have z:=m.trans A;obtain ⟨K,c1,c2,c3,c4,L⟩:=EF d;dsimp only;go_wp2_with fail
    rw[Aa x];exact bodyPost_ret (Di (cs:=#[]) Tryz.results87 rfl rfl (Bv d (.int .i64 (t.at_:Int)) (.int .i64 3) (.string ⟨#[]⟩) .nilIface _)) rfl ⟨⟨none,j,_,by rw[DE,Aa ac];rfl,trivial,(Aa P).1,trivial,Et d _ _ _ _ _ j (KB A j (Aa P).2),ae.put5 d (.int .i64 (t.at_:Int)) (.int .i64 3) (.string ⟨#[]⟩) .nilIface _⟩,z.put5 NLN (.int .i64 (t.at_:Int)) (.int .i64 3) (.string ⟨#[]⟩) .nilIface _⟩
end Go.Proofs.YtdldimphcpojoaaGreatDoor
