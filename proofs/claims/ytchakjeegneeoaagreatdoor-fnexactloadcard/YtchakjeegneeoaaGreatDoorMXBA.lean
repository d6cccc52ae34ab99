/-
  ECH0, ECH1, ECI, ECP0. Own work.
-/
import Derived.Test.YtchakjeegneeoaaGreatDoorMXAV
import Derived.Test.YtchakjeegneeoaaGreatDoorMXAW
import Derived.Test.YtchakjeegneeoaaGreatDoorMXBD
namespace Go.Proofs.YtchakjeegneeoaaGreatDoor
set_option maxRecDepth 100000
open Go.RowKit
set_option linter.unusedVariables false
abbrev Cs:=List Dc × List Int × List Int
def GoX (aT aN aA:Addr) (B cb mb:Nat) (lv tv:Value) (o:Except (Int × Int) Cs) (w:World) (r:Ending) (w':World):Prop:=
 (∃ D ts tt lv' tv',o= .ok (D,ts,tt)∧r= .returned .nilIface∧Cx B cb mb D ts tt lv' tv' w'∧Kd B cb mb lv tv w lv' tv' w')∨(∃ f g,o= .error f∧r= .returned (.iface 107 (.pointer (some ⟨g,0,none⟩)))∧ErO aT aN aA f g w'∧Below B w w')
def Nl (D:List Dc) (ts tt:List Int) (nm:ByteArray) (i:Int) (ot:Rs) (ys:List Int):Except (Int × Int) Cs:=match ot with
 | .ok t=>if (De D nm).isSome then .error (8,i) else .ok (D ++ [⟨nm,true,ts.length,t⟩],ts ++ [t],tt ++ys)
 | .error f=> .error f
def Ed (c:Int) (D:List Dc) (ts tt:List Int) (i:Int) (ot:Rs) (ys:List Int):Except (Int × Int) Cs:=match ot with
 | .ok t=>if t=c then .ok (D,ts,tt ++ys) else .error (9,i)
 | .error f=> .error f
theorem Ws {D:List Dc}{ts a ys:List Int}{nm:ByteArray}{i t:Int} :Nl D ts a nm i (.ok t) ys=if (De D nm).isSome then .error (8,i) else .ok (D ++ [⟨nm,true,ts.length,t⟩],ts ++ [t],a ++ys):=rfl
theorem H9 {D:List Dc}{ts a ys:List Int}{c i t:Int} :Ed c D ts a i (.ok t) ys=if t=c then .ok (D,ts,a ++ys) else .error (9,i):=rfl
theorem Mq (k l m:Addr)(B b mb:Nat)(D:List Dc)(ts d:List Int)(lv f:Value)(j:Int)(c:Int)(nm:ByteArray)(g:Value)(n:LX g)(w:World)(h:Cx B b mb D ts d lv f w):
  Calls Tryz.prog 97 #[.pointer (some ⟨b,0,none⟩),.agg #[.int .i64 j,.int .i64 c,.string nm,.nilIface,g]] w (GoX k l m B b mb lv f (.ok (D,ts,d)) w):=by
 have i:B≤w.heap.size:=by have:=h.C.low;have:=h.C.row.lt;omega
 rcases n with rfl | ⟨o,p,rfl⟩
 ·have a:=(Below.refl w.heap.size w).alloc NLN (.cells #[.int .i64 j,.int .i64 c,.string nm,.nilIface,.nilIface] 119);go_enter Tryz.func97,Tryz.ntmps97
  go_wp2_with fail
  go_ret
  exact .inl ⟨_,_,_,_,_,rfl,rfl,h.below a,Kd.of_all a i⟩
 ·have a:=(Below.refl w.heap.size w).alloc NLN (.cells #[.int .i64 j,.int .i64 c,.string nm,.nilIface,.iface o p] 119);go_enter Tryz.func97,Tryz.ntmps97
  go_wp2_with fail
  go_ret
  exact .inl ⟨_,_,_,_,_,rfl,rfl,h.below a,Kd.of_all a i⟩
theorem SA (k l m:Addr)(B b mb:Nat)(D:List Dc)(ts d:List Int)(lv f:Value)(j:Int)(c:Int)(nm:ByteArray)(g:Value)(n:LX g)(w:World)(h:Cx B b mb D ts d lv f w):
  Calls Tryz.prog 98 #[.pointer (some ⟨b,0,none⟩),.agg #[.int .i64 j,.int .i64 c,.string nm,g,.nilIface]] w (GoX k l m B b mb lv f (.ok (D,ts,d)) w):=by
 have i:B≤w.heap.size:=by have:=h.C.low;have:=h.C.row.lt;omega
 rcases n with rfl | ⟨o,p,rfl⟩
 ·have a:=(Below.refl w.heap.size w).alloc NLN (.cells #[.int .i64 j,.int .i64 c,.string nm,.nilIface,.nilIface] 119);go_enter Tryz.func98,Tryz.ntmps98
  go_wp2_with fail
  go_ret
  exact .inl ⟨_,_,_,_,_,rfl,rfl,h.below a,Kd.of_all a i⟩
 ·have a:=(Below.refl w.heap.size w).alloc NLN (.cells #[.int .i64 j,.int .i64 c,.string nm,.iface o p,.nilIface] 119);go_enter Tryz.func98,Tryz.ntmps98
  go_wp2_with fail
  go_ret
  exact .inl ⟨_,_,_,_,_,rfl,rfl,h.below a,Kd.of_all a i⟩
set_option maxHeartbeats 6400000
theorem Nm (B a mb:Nat)(D:List Dc)(ts g:List Int)(lv d:Value)(f:World)(p k l:Addr)(aj:KM f p)(O:MG f k l)(hB:f.heap.size≤B)(j:Int)(nm:ByteArray)(T:TypeId)(v:Value)(i:Int)(hp:PlX T v i)(y:Value)(P:LX y)(z:Rs)(ys:List Int)(V:Hid (TxV p k l B a ts mb D lv f (.iface T v) z ys))(w:World)(A:Below B f w)(h:Cx B a mb D ts g lv d w)(Q:g.length+ys.length≤4000)(R:ts.length≤1000):
  Calls Tryz.prog 97 #[.pointer (some ⟨a,0,none⟩),.agg #[.int .i64 j,.int .i64 1,.string nm,.iface T v,y]] w (GoX p k l B a mb lv d (Nl D ts g nm i z ys) w):=by
 have b:B≤w.heap.size:=by have:=h.C.low;have:=h.C.row.lt;omega
 have c:=Ab fun o:Obj=>(Below.refl w.heap.size w).alloc NLN o;have S:w.heap.size≠a:=by have:=h.C.row.lt;omega
 have ak:w.heap.size≠mb:=by have:=h.M.lt;omega
 have U:d.ownBlock≠some w.heap.size:=fun e=>by have:=(h.C.types.lt _ e).2;omega
 have E:=Ab A;clear A;obtain ⟨F,x,al,hp,m,H⟩:=hp;have W:=Ab (Js m.1 m.2.1 m.2.2);have X:=Ab H;clear H m;rcases P with rfl | ⟨ao,ap,rfl⟩
 all_goals
  go_enter Tryz.func97,Tryz.ntmps97
  go_wp2_with fail
  refine (Aa V g d _ ((Aa E).trans ((Aa c _).mono b)) (h.below (Aa c _)).C (h.below (Aa c _)).M Q).mono ?_;rintro r w2 (⟨t,I,rfl,rfl,Y,n⟩ | ⟨Z,aa,rfl,rfl,ab,ac⟩)
  case' inr=>
   dsimp only;go_wp2_with fail
   go_ret
   exact .inr ⟨Z,aa,rfl,rfl,ab,((Aa c _).mono b).trans ac⟩
  have ad:=(h.below (Aa c _)).of_kt Y n;have q:=((Aa c _).mono b).trans n.low;have J:=n.row (Al.new w _ _) S U;obtain ⟨aq,ar,au,av,aw⟩:=Gr J;have ae:Kd B a mb lv d w lv I w2:=(Kd.of_all (Aa c _) b).trans (Kd.of_kt n);dsimp only;go_wp2_with fail
  refine (Zo B a mb D ts _ lv I nm t k l w2 (O.below ((Aa E).trans q) hB) ad R).mono ?_;rintro r ax (⟨s,rfl,ay,af,ag⟩ | ⟨s,rfl,K⟩)
  all_goals
   have L:=Ab s;clear s
  case' inl=>
   dsimp only;go_wp2_with fail
   go_ret
   exact .inl ⟨_,_,_,_,_,Ws.trans (if_neg (by rw[Aa L];exact Bool.false_ne_true)),rfl,af,ae.trans ag⟩
  have u:=q.trans (K.mono (zD b q.size));obtain ⟨az,aA,aB,aC,aD⟩:=Gr (J.after K NLN);dsimp only;go_wp2_with fail
  rw[Aa W,Oper.upon_enter];refine (Aa X _).mono ?_;rintro r aE ⟨rfl,N⟩;dsimp only;go_wp2_with fail
  refine (GN i _ _ _).mono ?_;rintro r aF ⟨rfl,ah,ai⟩;dsimp only;go_wp2_with fail
  go_ret
  exact .inr ⟨(8,i),_,Ws.trans (if_pos (Aa L)),rfl,ah,(u.trans (N.mono (zD b u.size))).trans (ai.mono (zD (zD b u.size) N.size))⟩
theorem Mr (B b mb:Nat)(D:List Dc)(ts g:List Int)(lv d:Value)(f:World)(n p q:Addr)(I:KM f n)(ae:MG f p q)(hB:f.heap.size≤B)(j:Int)(s:Int)(hk:(s== 1)=false)(nm:ByteArray)(T:TypeId)(v:Value)(i:Int)(hp:PlX T v i)(u:Value)(J:LX u)(y:Rs)(ys:List Int)(V:Hid (TxV n p q B b ts mb D lv f (.iface T v) y ys))(w:World)(z:Below B f w)(h:Cx B b mb D ts g lv d w)(K:g.length+ys.length≤4000):
  Calls Tryz.prog 97 #[.pointer (some ⟨b,0,none⟩),.agg #[.int .i64 j,.int .i64 s,.string nm,.iface T v,u]] w (GoX n p q B b mb lv d (Ed 1 D ts g i y ys) w):=by
 have c:B≤w.heap.size:=by have:=h.C.low;have:=h.C.row.lt;omega
 have a:=Ab fun o:Obj=>(Below.refl w.heap.size w).alloc NLN o;have L:w.heap.size≠b:=by have:=h.C.row.lt;omega
 have af:w.heap.size≠mb:=by have:=h.M.lt;omega
 have N:d.ownBlock≠some w.heap.size:=fun e=>by have:=(h.C.types.lt _ e).2;omega
 have A:=Ab z;clear z;obtain ⟨F,x,ag,hp,k,E⟩:=hp;have O:=Ab (Js k.1 k.2.1 k.2.2);have P:=Ab E;clear E k;rcases J with rfl | ⟨ah,ai,rfl⟩
 all_goals
  go_enter Tryz.func97,Tryz.ntmps97
  go_wp2_with fail
  refine (Aa V g d _ ((Aa A).trans ((Aa a _).mono c)) (h.below (Aa a _)).C (h.below (Aa a _)).M K).mono ?_;rintro r w2 (⟨t,Q,rfl,rfl,R,l⟩ | ⟨S,U,rfl,rfl,W,X⟩)
  case' inr=>
   dsimp only;go_wp2_with fail
   go_ret
   exact .inr ⟨S,U,rfl,rfl,W,((Aa a _).mono c).trans X⟩
  have Y:=(h.below (Aa a _)).of_kt R l;have m:=((Aa a _).mono c).trans l.low;have Z:=l.row (Al.new w _ _) L N;obtain ⟨aj,ak,al,ao,ap⟩:=Gr Z;have aa:Kd B b mb lv d w lv Q w2:=(Kd.of_all (Aa a _) c).trans (Kd.of_kt l);dsimp only;by_cases ht:t=1
  case' pos=>
   subst ht;go_wp2_with fail
   go_ret
   exact .inl ⟨_,_,_,_,_,H9.trans (if_pos rfl),rfl,Y,aa⟩
  have nt:(t != 1)=true:=zS.2 ht;have aq:(t== 1)=false:=zB.2 ht;have ab:=Ab ht;clear ht;have ec:=(I.below ((Aa A).trans m) hB).ec;go_wp2_with fail
  rw[Aa O,Oper.upon_enter];refine (Aa P _).mono ?_;rintro r ar ⟨rfl,H⟩;dsimp only;go_wp2_with fail
  refine (GN i _ _ _).mono ?_;rintro r au ⟨rfl,ac,ad⟩;dsimp only;go_wp2_with fail
  go_ret
  exact .inr ⟨(9,i),_,H9.trans (if_neg (Aa ab)),rfl,ac,(m.trans (H.mono (zD c m.size))).trans (ad.mono (zD (zD c m.size) H.size))⟩
theorem Xx (B b mb:Nat)(D:List Dc)(ts k:List Int)(lv c:Value)(d:World)(f n q:Addr)(P:KM d f)(al:MG d n q)(hB:d.heap.size≤B)(j:Int)(Q:Int)(nm:ByteArray)(T:TypeId)(v:Value)(i:Int)(hp:PlX T v i)(E:Value)(R:LX E)(H:Rs)(ys:List Int)(V:Hid (TxV f n q B b ts mb D lv d (.iface T v) H ys))(w:World)(I:Below B d w)(h:Cx B b mb D ts k lv c w)(S:k.length+ys.length≤4000):
  Calls Tryz.prog 98 #[.pointer (some ⟨b,0,none⟩),.agg #[.int .i64 j,.int .i64 Q,.string nm,E,.iface T v]] w (GoX f n q B b mb lv c (Ed 4 D ts k i H ys) w):=by
 have g:B≤w.heap.size:=by have:=h.C.low;have:=h.C.row.lt;omega
 have a:=Ab fun o:Obj=>(Below.refl w.heap.size w).alloc NLN o;have U:w.heap.size≠b:=by have:=h.C.row.lt;omega
 have ao:w.heap.size≠mb:=by have:=h.M.lt;omega
 have W:c.ownBlock≠some w.heap.size:=fun e=>by have:=(h.C.types.lt _ e).2;omega
 have J:=Ab I;clear I;obtain ⟨F,x,ap,hp,l,K⟩:=hp;have X:=Ab (Js l.1 l.2.1 l.2.2);have Y:=Ab K;clear K l;rcases R with rfl | ⟨aq,ar,rfl⟩
 all_goals
  go_enter Tryz.func98,Tryz.ntmps98
  go_wp2_with fail
  refine (Aa V k c _ ((Aa J).trans ((Aa a _).mono g)) (h.below (Aa a _)).C (h.below (Aa a _)).M S).mono ?_;rintro r w2 (⟨t,Z,rfl,rfl,aa,m⟩ | ⟨ab,ac,rfl,rfl,ad,ae⟩)
  case' inr=>
   dsimp only;go_wp2_with fail
   go_ret
   exact .inr ⟨ab,ac,rfl,rfl,ad,((Aa a _).mono g).trans ae⟩
  have af:=(h.below (Aa a _)).of_kt aa m;have s:=((Aa a _).mono g).trans m.low;have L:=m.row (Al.new w _ _) U W;obtain ⟨au,av,aw,ax,ay⟩:=Gr L;have ag:Kd B b mb lv c w lv Z w2:=(Kd.of_all (Aa a _) g).trans (Kd.of_kt m);dsimp only;by_cases ht:t=4
  case' pos=>
   subst ht;go_wp2_with fail
   go_ret
   exact .inl ⟨_,_,_,_,_,H9.trans (if_pos rfl),rfl,af,ag⟩
  have nt:(t != 4)=true:=zS.2 ht;have az:(t== 4)=false:=zB.2 ht;have ah:=Ab ht;clear ht;have u:=P.below ((Aa J).trans s) hB;have y:Below w2.heap.size w2 w2.drew:=BRN.drew;have z:=Ab (show ∀ w',Below w2.heap.size w2 w'→w'.cell? ⟨w.heap.size,4,none⟩=some (.iface T v)∧w'.cell? ⟨10,0,none⟩=some (.iface 276 (.pointer (some f))) from fun w' N=>⟨(L.after N NLN).cell 4,(N.cell (p:=⟨10,0,none⟩) u.e).trans u.ec⟩);have aA:=Aa z _ y;clear u;go_wp2_with fail
  go_region_held3 (fun w'=>w'.cell? ⟨w.heap.size,4,none⟩=some (.iface T v)∧w'.cell? ⟨10,0,none⟩=some (.iface 276 (.pointer (some f)))) (first | assumption | go_keep)
   (first
    |(go_at_call 83;refine (GN i _ _ _).mono ?_;rintro r aB ⟨rfl,ai,aj⟩;have O:=A.trans (aj.mono A.size);have q3:=Aa z _ O)
    |(rw[Aa X,Oper.upon_enter];refine (Aa Y _).mono ?_;rintro r aC ⟨rfl,ak⟩;have A:=y.trans (ak.mono y.size);have q2:=Aa z _ A))
  go_wp2_with fail
  go_ret
  exact .inr ⟨(9,i),_,H9.trans (if_neg (Aa ah)),rfl,ai,s.trans (O.mono (zD g s.size))⟩
def DH (kd:Int) (nm:ByteArray) (st:Cs) (i:Int) (ot:Rs) (ys:List Int):Except (Int × Int) Cs:=
 if kd=1 then Nl st.1 st.2.1 st.2.2 nm i ot ys else Ed 1 st.1 st.2.1 st.2.2 i ot ys
def E8 (st:Cs) (x:Sx):Except (Int × Int) Cs:=match x.cond with
 |none=> .ok st
 |some e=>DH x.kind x.name st e.pos (Bc st.1 e) (CL st.1 e)
def DA (st:Cs) (x:Sx):Except (Int × Int) Cs:=match x.grant with
 |none=> .ok st
 |some e=>Ed 4 st.1 st.2.1 st.2.2 e.pos (Bc st.1 e) (CL st.1 e)
def G6 (st:Cs) (x:Sx):Except (Int × Int) Cs:=(E8 st x).bind fun s=>DA s x
def EK:Cs→List Sx→Except (Int × Int) Cs
 |st, []=> .ok st
 |st,x ::S=>(G6 st x).bind fun s=>EK s S
theorem GO (o:Option Ex):LX (Bu o):=by
 cases o with
 |none=>exact .inl rfl
 |some e=>exact .inr (Ex.form e)
theorem Ms (c f g:Addr)(B b mb:Nat)(st:Cs)(lv i:Value)(a:World)(m:KM a c)(n:MG a f g)(hB:a.heap.size≤B)(r:∀ d∈st.1,1≤d.typ∧d.typ≤4)(s:st.2.1.length≤1000)(j:Int)(k:Int)(nm:ByteArray)(l:Value)(p:LX l)(e:Ex)(he:e.written)(w:World)(q:Below B a w)(h:Cx B b mb st.1 st.2.1 st.2.2 lv i w)(o:st.2.2.length+e.cnt≤4000):
  Calls Tryz.prog 97 #[.pointer (some ⟨b,0,none⟩),.agg #[.int .i64 j,.int .i64 k,.string nm,e.val,l]] w (GoX c f g B b mb lv i (DH k nm st e.pos (Bc st.1 e) (CL st.1 e)) w):=by
 have V:=Ab (KT c f g B b st.2.1 mb st.1 lv a m n hB r e he);rw[← CT st.1 e] at o;obtain ⟨T,v,ev,_,hp⟩:=e.mth;rw[ev] at V ⊢;unfold DH;by_cases hk:k=1
 ·subst hk;rw[if_pos rfl];exact Nm B b mb st.1 st.2.1 st.2.2 lv i a c f g m n hB j nm T v _ hp l p _ _ V w q h o s
 ·rw[if_neg hk];exact Mr B b mb st.1 st.2.1 st.2.2 lv i a c f g m n hB j k (zB.2 hk) nm T v _ hp l p _ _ V w q h o
theorem SD (c f g:Addr)(B b mb:Nat)(st:Cs)(lv i:Value)(a:World)(l:KM a c)(m:MG a f g)(hB:a.heap.size≤B)(p:∀ d∈st.1,1≤d.typ∧d.typ≤4)(s:st.2.1.length≤1000)(j:Int)(n:Int)(nm:ByteArray)(k:Value)(q:LX k)(e:Ex)(he:e.written)(w:World)(r:Below B a w)(h:Cx B b mb st.1 st.2.1 st.2.2 lv i w)(o:st.2.2.length+e.cnt≤4000):
  Calls Tryz.prog 98 #[.pointer (some ⟨b,0,none⟩),.agg #[.int .i64 j,.int .i64 n,.string nm,k,e.val]] w (GoX c f g B b mb lv i (Ed 4 st.1 st.2.1 st.2.2 e.pos (Bc st.1 e) (CL st.1 e)) w):=by
 have V:=Ab (KT c f g B b st.2.1 mb st.1 lv a l m hB p e he);rw[← CT st.1 e] at o;obtain ⟨T,v,ev,_,hp⟩:=e.mth;rw[ev] at V ⊢;exact Xx B b mb st.1 st.2.1 st.2.2 lv i a c f g l m hB j n nm T v _ hp k q _ _ V w r h o
def okO:Option Ex→Prop
 |none=>True
 |some e=>e.written
theorem Nn (c f g:Addr)(B a mb:Nat)(st:Cs)(lv i:Value)(b:World)(m:KM b c)(n:MG b f g)(hB:b.heap.size≤B)(o:∀ d∈st.1,1≤d.typ∧d.typ≤4)(p:st.2.1.length≤1000)(x:Sx)(hs:okO x.cond)(w:World)(q:Below B b w)(h:Cx B a mb st.1 st.2.1 st.2.2 lv i w)(r:st.2.2.length+AH x.cond≤4000):
  Calls Tryz.prog 97 #[.pointer (some ⟨a,0,none⟩),.agg #[.int .i64 x.at',.int .i64 x.kind,.string x.name,Bu x.cond,Bu x.grant]] w (GoX c f g B a mb lv i (E8 st x) w):=by
 have k:=GO x.grant;obtain ⟨j,l,nm,s,t⟩:=x;cases s with
 |none=>exact Mq c f g B a mb st.1 st.2.1 st.2.2 lv i j l nm _ k w h
 |some e=>exact Ms c f g B a mb st lv i b m n hB o p j l nm _ k e hs w q h r
theorem U4 (c f g:Addr)(B a mb:Nat)(st:Cs)(lv i:Value)(b:World)(m:KM b c)(n:MG b f g)(hB:b.heap.size≤B)(o:∀ d∈st.1,1≤d.typ∧d.typ≤4)(p:st.2.1.length≤1000)(x:Sx)(hs:okO x.grant)(w:World)(q:Below B b w)(h:Cx B a mb st.1 st.2.1 st.2.2 lv i w)(r:st.2.2.length+AH x.grant≤4000):
  Calls Tryz.prog 98 #[.pointer (some ⟨a,0,none⟩),.agg #[.int .i64 x.at',.int .i64 x.kind,.string x.name,Bu x.cond,Bu x.grant]] w (GoX c f g B a mb lv i (DA st x) w):=by
 have k:=GO x.cond;obtain ⟨j,l,nm,t,s⟩:=x;cases s with
 |none=>exact SA c f g B a mb st.1 st.2.1 st.2.2 lv i j l nm _ k w h
 |some e=>exact SD c f g B a mb st lv i b m n hB o p j l nm _ k e hs w q h r
theorem No:∀ (L M:List Sx) (st:Cs),EK st (L ++M)=(EK st L).bind fun a=>EK a M
 | [],M,st=>rfl
 |x ::L,M,st=>by
  rw[List.cons_append,EK,EK];cases G6 st x with
  |error f=>rfl
  |ok a=>exact No L M a
theorem PN (x:Sx)(L:List Sx)(st:Cs):EK st (L ++ [x])=(EK st L).bind fun a=>G6 a x:=by
 rw[No]
 congr 1
 funext a
 rw[EK];cases G6 a x <;> rfl
theorem U5 (L:List Sx)(st:Cs)(k:Nat){f:Int × Int}(h:EK st (L.take k)= .error f):EK st L= .error f:=by
 have e:=No (L.take k) (L.drop k) st;rw[z1,h] at e;exact e
def Wst (st:Cs):Prop:=∀ d∈st.1,1≤d.typ∧d.typ≤4
theorem QM {D:List Dc}{ts b ys:List Int}{nm:ByteArray}{i:Int}{a:Rs}{c:Cs}(h:Nl D ts b nm i a ys= .ok c):∃ t,a= .ok t∧De D nm=none∧c=(D ++ [⟨nm,true,ts.length,t⟩],ts ++ [t],b ++ys):=by
 cases a with
 |error f=>cases h
 |ok t=>
  simp only[Nl] at h;split at h
  ·cases h
  ·rename_i d;cases h;exact ⟨t,rfl,by simpa using d,rfl⟩
theorem Gs {c:Int}{D:List Dc}{ts b ys:List Int}{i:Int}{a:Rs}{d:Cs}(h:Ed c D ts b i a ys= .ok d):a= .ok c∧d=(D,ts,b ++ys):=by
 cases a with
 |error f=>cases h
 |ok t=>
  simp only[Ed] at h;split at h
  ·rename_i e;subst e;cases h;exact ⟨rfl,rfl⟩
  ·cases h
theorem IK {st a:Cs}{x:Sx}(h:E8 st x= .ok a):a.2.2.length=st.2.2.length+AH x.cond∧a.2.1.length≤st.2.1.length+1∧(Wst st→Wst a):=by
 obtain ⟨j,g,nm,f,i⟩:=x;cases f with
 |none=>cases h;exact ⟨rfl,zJ _,id⟩
 |some e=>
  simp only[E8,DH] at h;have b:=CT st.1 e;split at h
  ·obtain ⟨t,h1,_,rfl⟩:=QM h;refine ⟨by simp[b,AH],by simp,fun c d hd=>?_⟩;rcases zK.1 hd with hd | hd
   ·exact c d hd
   ·simp at hd;subst hd;exact KS c e t h1
  ·obtain ⟨_,rfl⟩:=Gs h;exact ⟨by simp[b,AH],zJ _,id⟩
theorem U6 {st a:Cs}{x:Sx}(h:DA st x= .ok a):a.2.2.length=st.2.2.length+AH x.grant∧a.2.1=st.2.1∧a.1=st.1:=by
 obtain ⟨j,d,nm,f,b⟩:=x;cases b with
 |none=>cases h;exact ⟨rfl,rfl,rfl⟩
 |some e=>
  simp only[DA] at h;have c:=CT st.1 e;obtain ⟨_,rfl⟩:=Gs h;exact ⟨by simp[c,AH],rfl,rfl⟩
theorem Np:∀ {L:List Sx} {st a:Cs},EK st L= .ok a→a.2.2.length=st.2.2.length+CI L∧a.2.1.length≤st.2.1.length+L.length∧(Wst st→Wst a)
 | [],st,a,h=>by cases h;exact ⟨by simp[CI],by simp,id⟩
 |x ::L,st,a,h=>by
  rw[EK,G6] at h;cases h1:E8 st x with
  |error f=>rw[h1] at h;cases h
  |ok b=>
   rw[h1] at h
   change ((DA b x).bind fun a=>EK a L)= .ok a at h
   cases h2:DA b x with
   |error f=>rw[h2] at h;cases h
   |ok c=>
    rw[h2] at h;obtain ⟨a1,a2,a3⟩:=IK h1;obtain ⟨b1,b2,b3⟩:=U6 h2;obtain ⟨c1,c2,c3⟩:=Np (show EK c L= .ok a from h);rw[Bp];refine ⟨by omega,by rw[b2] at c2;simp;omega,fun d=>c3 (by unfold Wst;rw[b3];exact a3 d)⟩
theorem Xy (L:List Sx)(k:Nat)(h:k < L.length):CI (L.take k)+(AH L[k].cond+AH L[k].grant)≤CI L:=by
 have e:L=L.take k ++(L[k] ::L.drop (k+1)):=by rw[List.getElem_cons_drop,z1]
 have e2:=congrArg CI e;rw[JS,Bp] at e2;omega
def Cn (Es:List Ex) (k:Int):Option Ex:=if k= -1 then none else Es[k.toNat]?
def Id (Es:List Ex):Nat→List St→List Sx
 |_, []=> []
 |i,s ::L=>⟨i,s.kind,s.name,Cn Es s.cond,Cn Es s.grant⟩ ::Id Es (i+1) L
theorem Ww (Es:List Ex)(k:Int):Ie Es k=Bu (Cn Es k):=by
 unfold Ie Cn;split
 ·rfl
 ·cases Es[k.toNat]? <;> rfl
theorem Vb (Es:List Ex):∀ (L:List St) (i:Nat),Vc Es i L=Hj (Id Es i L)
 | [],i=>rfl
 |s ::L,i=>by
  rw[Vc,Id,Vb Es L (i+1),Hj,Hj,zn]
  congr 1
  rw[Xz,Nq,Ww,Ww]
theorem MH (Es:List Ex):∀ (L:List St) (i:Nat),(Id Es i L).length=L.length
 | [],i=>rfl
 |s ::L,i=>by rw[Id,List.length_cons,MH Es L (i+1),List.length_cons]
theorem MI (Es:List Ex)(k:Int):AH (Cn Es k)=Bh Es k:=by
 unfold Cn Bh;split
 ·rfl
 ·cases Es[k.toNat]? <;> rfl
theorem JT (Es:List Ex):∀ (L:List St) (i:Nat),CI (Id Es i L)=Dt Es L
 | [],i=>rfl
 |s ::L,i=>by
  rw[Id,Bp,JT Es L (i+1),MI,MI];simp[Dt]
theorem QU {Es:List Ex} :∀ {L:List St} {i:Nat} {x:Sx},x∈Id Es i L→∃ s∈L,x.cond=Cn Es s.cond∧x.grant=Cn Es s.grant∧x.kind=s.kind∧x.name=s.name
 |s ::L,i,x,h=>by
  rw[Id,zE] at h;rcases h with rfl | h
  ·exact ⟨s,zT ..,rfl,rfl,rfl,rfl⟩
  ·obtain ⟨s',h1,h2⟩:=QU h;exact ⟨s',zY _ h1,h2⟩
 | [],_,_,h=>by cases h
theorem Zq {Es:List Ex}{P:Ex→Prop}(h:∀ e∈Es,P e)(k:Int):match Cn Es k with | none=>True | some e=>P e:=by
 unfold Cn;split
 ·rename_i a;split at a
  ·trivial
  ·trivial
 ·rename_i e a;split at a
  ·cases a
  ·exact h e (z5 a)
end Go.Proofs.YtchakjeegneeoaaGreatDoor
