/-
  GV, GW. Own work.
-/
import Derived.Test.YtoplnhndilmlcaaGreatDoorMXAW
namespace Go.Proofs.YtoplnhndilmlcaaGreatDoor
set_option maxRecDepth 100000
set_option maxHeartbeats 1600000
open Go.RowKit
set_option linter.unusedVariables false
variable {aY : Addr} {pb g c : Nat} {T : List Ae} {tl : Nat}
theorem M5.form {x:SR}{w w':World}{r:Ending}(h:M5 aY pb g c T tl x w r w'):∃ f i n a d e,r= .returned (.tuple #[.agg #[.int .i64 f,.int .i64 i,.string n,a,d],e])∧Gs a∧Gs d∧Gs e:=by
 cases x with
 | ok s q=>obtain ⟨⟨j,l,k,rfl,_⟩,_⟩:=h;exact ⟨_,_,_,_,_,_,rfl,GV j,GV l,.inl rfl⟩
 | bad q=>obtain ⟨⟨f,i,n,a,d,b,rfl,h3,h4,_⟩,_⟩:=h;exact ⟨_,_,_,_,_,_,rfl,h3,h4,.inr ⟨_,_,rfl⟩⟩
theorem M5.put5 {x:SR}{w w':World}{a d:Int}{n:ByteArray}{f i e:Value}(h:M5 aY pb g c T tl x w (.returned (.tuple #[.agg #[.int .i64 a,.int .i64 d,.string n,f,i],e])) w'){b:Nat}{cs:Array Value}(R:Aj w' b cs 47)(j:w.heap.size≤b):
  M5 aY pb g c T tl x w (.returned (.tuple #[.agg #[.int .i64 a,.int .i64 d,.string n,f,i],e])) (IQ w' b (.int .i64 a) (.int .i64 d) (.string n) f i):=by
 cases x with
 | ok s q=>
  obtain ⟨⟨l,o,k,h1,h2,h3,h4,h5,h6⟩,h7⟩:=h;exact ⟨⟨l,o,k,h1,h2,h3,Et R _ _ _ _ _ l h4,Et R _ _ _ _ _ o h5,h6.put5 R _ _ _ _ _⟩,h7.put5 j _ _ _ _ _⟩
 | bad q=>
  obtain ⟨⟨p,r,m,t,u,v,h1,h3,h4,h5⟩,h7⟩:=h;exact ⟨⟨p,r,m,t,u,v,h1,h3,h4,h5.put5 R _ _ _ _ _⟩,h7.put5 j _ _ _ _ _⟩
theorem Gw (t:Ae)(r:List Ae)(x:SR)(hk:see Fu t=true)(i:∀ w k,Pp w pb g c T tl (t ::r) k→Gy w aY→Calls Tryz.prog 112 #[.pointer (some ⟨pb,0,none⟩)] w (M5 aY pb g c T tl x w))(w:World)(k:Nat)(h:Pp w pb g c T tl (t ::r) k)(j:Gy w aY):
  Calls Tryz.prog 77 #[.pointer (some ⟨pb,0,none⟩)] w (M5 aY pb g c T tl x w):=by
 have o:=Ab (show Aw Fu (t ::r)=true from hk);have p:=Ab i;clear i hk;have b:=(Below.refl w.heap.size w).alloc NLN (.cells #[.int .i64 0,.int .i64 0,.string ⟨#[]⟩,.nilIface,.nilIface] 47);have u:=Aj.new w #[.int .i64 0,.int .i64 0,.string ⟨#[]⟩,.nilIface,.nilIface] 47;have v:=Ab (j.below b);have l:=Ab (h.below b);have nz:=h.row.lt;clear h j;go_enter Tryz.func77,Tryz.ntmps77
 go_wp2_with fail
 generalize m:w.alloc (.cells #[.int .i64 0,.int .i64 0,.string ⟨#[]⟩,.nilIface,.nilIface] 47)=y at *;have K:w.heap.size < y.heap.size:=by rw[← m];simp
 clear m;refine (AD (Aa l) Fu).mono ?_;rintro e n ⟨rfl,d⟩;rw[Aa o];have z:=Ab ((Aa l).below d);have A:=Ab ((Aa v).below d);have B:=u.after d NLN;have C:=b.trans (d.mono b.size);dsimp only;go_wp2_with fail
 refine (Aa p n _ (Aa z) (Aa A)).mono ?_;intro L E a;obtain ⟨F,H,nm,M,N,e,rfl,h3,h4,h5⟩:=a.form;have I:Ai pb (pb+1) n E:=by
  cases x with
  | ok s q=>exact a.2
  | bad q=>exact a.2
 have f:=B.touchP I (.inr nz);have J:=Ab (a.from (Ai.of_below (lo:=pb) (hi:=pb+1) C NLN));clear a;obtain ⟨O,c1,c2,c3,c4,P⟩:=EE f;rcases h3 with rfl | ⟨Q,R,rfl⟩ <;> rcases h4 with rfl | ⟨S,U,rfl⟩
 all_goals
  dsimp only;go_wp2_with fail
  exact bodyPost_ret (Dd (cs:=#[]) Tryz.results77 rfl rfl (Bf f (.int .i64 F) (.int .i64 H) (.string nm) _ _)) rfl ((Aa J).put5 f NLN)
theorem GW (t:Ae)(r:List Ae)(x:SR)(hk:see Bk t=true)(j:∀ w k,Pp w pb g c T tl (t ::r) k→Gy w aY→Calls Tryz.prog 113 #[.pointer (some ⟨pb,0,none⟩)] w (M5 aY pb g c T tl x w))(w:World)(k:Nat)(h:Pp w pb g c T tl (t ::r) k)(l:Gy w aY):
  Calls Tryz.prog 77 #[.pointer (some ⟨pb,0,none⟩)] w (M5 aY pb g c T tl x w):=by
 have v:=Ab (show Aw Fu (t ::r)=false from Am hk (by decide));have y:=Ab (show Aw Bk (t ::r)=true from hk);have z:=Ab j;clear j hk;have b:=(Below.refl w.heap.size w).alloc NLN (.cells #[.int .i64 0,.int .i64 0,.string ⟨#[]⟩,.nilIface,.nilIface] 47);have A:=Aj.new w #[.int .i64 0,.int .i64 0,.string ⟨#[]⟩,.nilIface,.nilIface] 47;have B:=Ab (l.below b);have m:=Ab (h.below b);have nz:=h.row.lt;clear h l;go_enter Tryz.func77,Tryz.ntmps77
 go_wp2_with fail
 generalize n:w.alloc (.cells #[.int .i64 0,.int .i64 0,.string ⟨#[]⟩,.nilIface,.nilIface] 47)=C at *;have Q:w.heap.size < C.heap.size:=by rw[← n];simp
 clear n;refine (AD (Aa m) Fu).mono ?_;rintro e R ⟨rfl,d⟩;rw[Aa v];have o:=Ab ((Aa m).below d);have E:=Ab ((Aa B).below d);have F:=A.after d NLN;have p:=b.trans (d.mono b.size);dsimp only;go_wp2_with fail
 refine (AD (Aa o) Bk).mono ?_;rintro e u ⟨rfl,f⟩;rw[Aa y];have H:=Ab ((Aa o).below f);have I:=Ab ((Aa E).below f);have J:=F.after f NLN;have K:=p.trans (f.mono p.size);dsimp only;go_wp2_with fail
 refine (Aa z u _ (Aa H) (Aa I)).mono ?_;intro S L a;obtain ⟨M,N,nm,U,V,e,rfl,h3,h4,h5⟩:=a.form;have O:Ai pb (pb+1) u L:=by
  cases x with
  | ok s q=>exact a.2
  | bad q=>exact a.2
 have i:=J.touchP O (.inr nz);have P:=Ab (a.from (Ai.of_below (lo:=pb) (hi:=pb+1) K NLN));clear a;obtain ⟨W,c1,c2,c3,c4,X⟩:=EE i;rcases h3 with rfl | ⟨Y,Z,rfl⟩ <;> rcases h4 with rfl | ⟨aa,ab,rfl⟩
 all_goals
  dsimp only;go_wp2_with fail
  exact bodyPost_ret (Dd (cs:=#[]) Tryz.results77 rfl rfl (Bf i (.int .i64 M) (.int .i64 N) (.string nm) _ _)) rfl ((Aa P).put5 i NLN)
theorem JD (t:Ae)(r:List Ae)(x:SR)(hk:see AE t=true)(l:∀ w k,Pp w pb g c T tl (t ::r) k→Gy w aY→Calls Tryz.prog 114 #[.pointer (some ⟨pb,0,none⟩)] w (M5 aY pb g c T tl x w))(w:World)(k:Nat)(h:Pp w pb g c T tl (t ::r) k)(m:Gy w aY):
  Calls Tryz.prog 77 #[.pointer (some ⟨pb,0,none⟩)] w (M5 aY pb g c T tl x w):=by
 have A:=Ab (show Aw Fu (t ::r)=false from Am hk (by decide));have B:=Ab (show Aw Bk (t ::r)=false from Am hk (by decide));have C:=Ab (show Aw AE (t ::r)=true from hk);have E:=Ab l;clear l hk;have b:=(Below.refl w.heap.size w).alloc NLN (.cells #[.int .i64 0,.int .i64 0,.string ⟨#[]⟩,.nilIface,.nilIface] 47);have F:=Aj.new w #[.int .i64 0,.int .i64 0,.string ⟨#[]⟩,.nilIface,.nilIface] 47;have H:=Ab (m.below b);have n:=Ab (h.below b);have nz:=h.row.lt;clear h m;go_enter Tryz.func77,Tryz.ntmps77
 go_wp2_with fail
 generalize o:w.alloc (.cells #[.int .i64 0,.int .i64 0,.string ⟨#[]⟩,.nilIface,.nilIface] 47)=I at *;have X:w.heap.size < I.heap.size:=by rw[← o];simp
 clear o;refine (AD (Aa n) Fu).mono ?_;rintro e Y ⟨rfl,d⟩;rw[Aa A];have p:=Ab ((Aa n).below d);have J:=Ab ((Aa H).below d);have K:=F.after d NLN;have u:=b.trans (d.mono b.size);dsimp only;go_wp2_with fail
 refine (AD (Aa p) Bk).mono ?_;rintro e Z ⟨rfl,f⟩;rw[Aa B];have v:=Ab ((Aa p).below f);have L:=Ab ((Aa J).below f);have M:=K.after f NLN;have y:=u.trans (f.mono u.size);dsimp only;go_wp2_with fail
 refine (AD (Aa v) AE).mono ?_;rintro e z ⟨rfl,i⟩;rw[Aa C];have N:=Ab ((Aa v).below i);have O:=Ab ((Aa L).below i);have P:=M.after i NLN;have Q:=y.trans (i.mono y.size);dsimp only;go_wp2_with fail
 refine (Aa E z _ (Aa N) (Aa O)).mono ?_;intro aa R a;obtain ⟨S,U,nm,ab,ac,e,rfl,h3,h4,h5⟩:=a.form;have V:Ai pb (pb+1) z R:=by
  cases x with
  | ok s q=>exact a.2
  | bad q=>exact a.2
 have j:=P.touchP V (.inr nz);have W:=Ab (a.from (Ai.of_below (lo:=pb) (hi:=pb+1) Q NLN));clear a;obtain ⟨ad,c1,c2,c3,c4,ae⟩:=EE j;rcases h3 with rfl | ⟨af,ag,rfl⟩ <;> rcases h4 with rfl | ⟨ah,ai,rfl⟩
 all_goals
  dsimp only;go_wp2_with fail
  exact bodyPost_ret (Dd (cs:=#[]) Tryz.results77 rfl rfl (Bf j (.int .i64 S) (.int .i64 U) (.string nm) _ _)) rfl ((Aa W).put5 j NLN)
theorem Vg (a:List Ae)(h1:Aw Fu a=false)(h2:Aw Bk a=false)(h3:Aw AE a=false)(w:World)(k:Nat)(h:Pp w pb g c T tl a k)(m:Gy w aY):
  Calls Tryz.prog 77 #[.pointer (some ⟨pb,0,none⟩)] w (M5 aY pb g c T tl (.bad a) w):=by
 have u:=Ab h1;have v:=Ab h2;have x:=Ab h3;clear h1 h2 h3;have d:=(Below.refl w.heap.size w).alloc NLN (.cells #[.int .i64 0,.int .i64 0,.string ⟨#[]⟩,.nilIface,.nilIface] 47);have y:=Aj.new w #[.int .i64 0,.int .i64 0,.string ⟨#[]⟩,.nilIface,.nilIface] 47;have z:=Ab (m.below d);have n:=Ab (h.below d);have nz:=h.row.lt;clear h m;go_enter Tryz.func77,Tryz.ntmps77
 go_wp2_with fail
 generalize o:w.alloc (.cells #[.int .i64 0,.int .i64 0,.string ⟨#[]⟩,.nilIface,.nilIface] 47)=A at *;have N:w.heap.size < A.heap.size:=by rw[← o];simp
 clear o;refine (AD (Aa n) Fu).mono ?_;rintro e O ⟨rfl,f⟩;rw[Aa u];have p:=Ab ((Aa n).below f);have B:=Ab ((Aa z).below f);have C:=y.after f NLN;have q:=d.trans (f.mono d.size);dsimp only;go_wp2_with fail
 refine (AD (Aa p) Bk).mono ?_;rintro e P ⟨rfl,i⟩;rw[Aa v];have r:=Ab ((Aa p).below i);have E:=Ab ((Aa B).below i);have F:=C.after i NLN;have s:=q.trans (i.mono q.size);dsimp only;go_wp2_with fail
 refine (AD (Aa r) AE).mono ?_;rintro e Q ⟨rfl,j⟩;rw[Aa x];have H:=Ab ((Aa r).below j);have I:=Ab ((Aa E).below j);have J:=F.after j NLN;have K:=s.trans (j.mono s.size);dsimp only;go_wp2_with fail
 refine (CH (Aa H) (Aa I)).mono ?_;rintro e R ⟨b,rfl,L,t⟩;have l:=J.after t NLN;have M:=(Ai.of_below (lo:=pb) (hi:=pb+1) K NLN).allP t;obtain ⟨S,c1,c2,c3,c4,U⟩:=EE l;dsimp only[By];go_wp2_with fail
 exact bodyPost_ret (Dd (cs:=#[]) Tryz.results77 rfl rfl (Bf l (.int .i64 0) (.int .i64 0) (.string ⟨#[]⟩) .nilIface .nilIface)) rfl ⟨⟨_,_,_,_,_,b,rfl,.inl rfl,.inl rfl,L.put5 l (.int .i64 0) (.int .i64 0) (.string ⟨#[]⟩) .nilIface .nilIface⟩,M.put5 NLN (.int .i64 0) (.int .i64 0) (.string ⟨#[]⟩) .nilIface .nilIface⟩
theorem Ly (b: 16≤pb)(l:List Ae)(x:SR)(d:DS l x)(w:World)(k:Nat)(h:Pp w pb g c T tl l k)(a:Gy w aY):
  Calls Tryz.prog 77 #[.pointer (some ⟨pb,0,none⟩)] w (M5 aY pb g c T tl x w):=by
 cases d with
 | @let_nil t hk=>exact Gw t [] _ hk (fun w k h a=>Lu b t [] (show (0 :Int)≠3 by decide) w k h a) w k h a
 | @let_no t n r hk j=>exact Gw t _ _ hk (fun w k h a=>Lu b t (n ::r) j w k h a) w k h a
 | @let_bad t n r q hk j d=>exact Gw t _ _ hk (fun w k h a=>OX b t n r _ j d w k h a) w k h a
 | @let_end t n r q e hk j d hq=>
  have f:W9 t n (.ok e q)= .bad q:=by
   cases q with
   | nil=>rfl
   | cons u q=>exact if_neg (by rw[show see Ax u=false from hq];decide)
  rw[← f];exact Gw t _ _ hk (fun w k h a=>OX b t n r _ j d w k h a) w k h a
 | @let_ t n u r q e hk j d hq=>
  have f:W9 t n (.ok e (u ::q))= .ok ⟨t.at_,1,n.text,some e,none⟩ q:=if_pos hq;rw[← f];exact Gw t _ _ hk (fun w k h a=>OX b t n r _ j d w k h a) w k h a
 | @when_bad t r q hk d=>exact GW t _ _ hk (fun w k h a=>OY b t r q d w k h a) w k h a
 | @when_bad2 t r q p e hk d d2=>exact GW t _ _ hk (fun w k h a=>Lv b t r q e (.bad p) d d2 w k h a) w k h a
 | @when_end t r q p e i hk d d2 hq=>
  have f:Qp t e (.ok i p)= .bad p:=by
   cases p with
   | nil=>rfl
   | cons u q=>exact if_neg (by rw[show see Ax u=false from hq];decide)
  rw[← f];exact GW t _ _ hk (fun w k h a=>Lv b t r q e _ d d2 w k h a) w k h a
 | @when t u r q p e i hk d d2 hq=>
  have f:Qp t e (.ok i (u ::p))= .ok ⟨t.at_,2,Bg [],some e,i⟩ p:=if_pos hq;rw[← f];exact GW t _ _ hk (fun w k h a=>Lv b t r q e _ d d2 w k h a) w k h a
 | @else_bad t r q hk d=>exact JD t _ _ hk (fun w k h a=>Lw b t r (.bad q) d w k h a) w k h a
 | @else_end t r q i hk d hq=>
  have f:Qq t (.ok i q)= .bad q:=by
   cases q with
   | nil=>rfl
   | cons u q=>exact if_neg (by rw[show see Ax u=false from hq];decide)
  rw[← f];exact JD t _ _ hk (fun w k h a=>Lw b t r _ d w k h a) w k h a
 | @else_ t u r q i hk d hq=>
  have f:Qq t (.ok i (u ::q))= .ok ⟨t.at_,3,Bg [],none,i⟩ q:=if_pos hq;rw[← f];exact JD t _ _ hk (fun w k h a=>Lw b t r _ d w k h a) w k h a
 | none h1 h2 h3=>exact Vg l h1 h2 h3 w k h a
end Go.Proofs.YtoplnhndilmlcaaGreatDoor
namespace Go.Proofs.YtoplnhndilmlcaaGreatDoor
set_option maxRecDepth 100000
set_option maxHeartbeats 6400000
open Go.RowKit
set_option linter.unusedVariables false
variable {aY : Addr} {pb g c : Nat} {T : List Ae} {tl : Nat}
theorem Zj:(Tryz.prog.info? 47).map (fun i=>(i.zero,i.size,i.bytes))=some (some (.agg #[.int .i64 0,.int .i64 0,.string ByteArray.empty,.nilIface,.nilIface]),5,64):=by kernel_rfl
def SxP (lo:Nat) (w:World) (x:Sx) (s:Ps):Prop:=x.at'=(s.at_:Int)∧x.kind=s.kind∧x.name=s.name∧ErO x.cond s.cond∧ErO x.grant s.grant∧KA lo w x.cond∧KA lo w x.grant
def Cy (lo:Nat) (w:World):List Sx→List Ps→Prop
 | [], []=>True
 | x ::X,s ::S=>SxP lo w x s∧Cy lo w X S
 | _,_=>False
theorem DO {lo:Nat}{w w':World}(hk:∀ (v:Value) (n:Nat) (b:List Value),w.ownsRow lo 9 1 v n b→∀ q,v.ownBlock=some q→w'.heap[q]? =w.heap[q]?)(a:Option Ex)(h:KA lo w a):KA lo w' a:=by
 cases a with
 | none=>trivial
 | some e=>exact e.own_of hk h
theorem Cy.of {lo:Nat}{w w':World}(hk:∀ (v:Value) (n:Nat) (a:List Value),w.ownsRow lo 9 1 v n a→∀ q,v.ownBlock=some q→w'.heap[q]? =w.heap[q]?):∀ (X:List Sx) (S:List Ps),Cy lo w X S→Cy lo w' X S
 | [], [],_=>trivial
 | x ::X,s ::S,h=>⟨⟨h.1.1,h.1.2.1,h.1.2.2.1,h.1.2.2.2.1,h.1.2.2.2.2.1,DO hk _ h.1.2.2.2.2.2.1,DO hk _ h.1.2.2.2.2.2.2⟩,Cy.of hk X S h.2⟩
 | [],_ ::_,h=>h
 | _ ::_, [],h=>h
theorem Cy.snoc {lo:Nat}{w:World}{x:Sx}{s:Ps}(hx:SxP lo w x s):∀ (X:List Sx) (S:List Ps),Cy lo w X S→Cy lo w (X ++ [x]) (S ++ [s])
 | [], [],_=>⟨hx,trivial⟩
 | _ ::X,_ ::S,h=>⟨h.1,Cy.snoc hx X S h.2⟩
 | [],_ ::_,h=>absurd h id
 | _ ::_, [],h=>absurd h id
theorem Cy.len {lo:Nat}{w:World} :∀ (X:List Sx) (S:List Ps),Cy lo w X S→X.length=S.length
 | [], [],_=>rfl
 | _ ::X,_ ::S,h=>by rw[List.length_cons,List.length_cons,Cy.len X S h.2]
 | [],_ ::_,h=>absurd h id
 | _ ::_, [],h=>absurd h id
def QR.pre (L:List Ps):QR→QR
 | .ok S=> .ok (L ++S)
 | .bad q=> .bad q
theorem QR.pre_cons (L:List Ps)(s:Ps)(y:QR):QR.pre L (y.cons s)=QR.pre (L ++ [s]) y:=by
 cases y with
 | ok S=>simp[QR.pre,QR.cons]
 | bad q=>rfl
theorem DS.less {a q:List Ae}{s:Ps}(d:DS a (.ok s q)):q.length < a.length:=by
 obtain ⟨b,c,f⟩:=d.suf;have h1: 0 < b.length:=List.length_pos_iff.2 (f _ _ rfl);rw[c,List.length_append];show q.length < _+q.length;omega
theorem OZ {w:World}{b:Nat}{v0 v1 a c d:Value}{t:TypeId}(R:Aj w b #[v0,v1,a,c,d] t):∀ j u, [v0,v1,a,c,d][j]? =some u→w.cell? ((⟨b,0,none⟩:Addr).add j)=some u:=fun j u h=>by
 have f:(⟨b,0,none⟩:Addr).add j=⟨b,j,none⟩:=by by_cases e:j=0 <;> simp[Addr.add,e]
 rw[f,R.cell j,← h];simp
def PlA (aY:Addr) (pb:Nat) (tl:Nat):QR→World→Ending→World→Prop
 | .ok S,w,r,w'=>(∃ X a cx,r= .returned (.tuple #[.slice a X.length cx,.nilIface])∧w'.ownsRow w.heap.size 47 5 (.slice a X.length cx) X.length (NE X)∧Cy (pb+1) w' X S∧X.length≤4000)∧Ai pb (pb+1) w w'
 | .bad q,w,r,w'=>(∃ b,r= .returned (.tuple #[.slice none 0 0,By b])∧Wx aY tl q b w')∧Ai pb (pb+1) w w'
def Wy (pb g c:Nat) (T:List Ae) (tl:Nat) (x:QR) (w:World) (n:Nat) (v:Value) (wr:World):Prop:=
 ∃ X L a cx r k y,v= .slice a X.length cx∧wr.ownsRow w.heap.size 47 5 v X.length (NE X)∧Cy (pb+1) wr X L∧Pp wr pb g c T tl r k∧DP r y∧x=QR.pre L y∧n=r.length∧X.length+r.length≤T.length∧Ai pb (pb+1) w wr
theorem IR (X:List Sx)(x:Sx):NE (X ++ [x])=NE X ++Xa x:=by simp[NE]
theorem SG (aI: 16≤pb)(aO:List Ae)(x:QR)(d:DP aO x)(w:World)(k:Nat)(h:Pp w pb g c T tl aO k)(a2:Gy w aY):
  Calls Tryz.prog 40 #[.pointer (some ⟨pb,0,none⟩)] w (PlA aY pb tl x w):=by
 obtain ⟨i,hi,aP,aQ,aR⟩:=info_parts Zj;have aK:=Ab a2;have nz:=h.row.lt;have ao:=Ab h.small;have a3:=Ab (show Wy pb g c T tl x w aO.length (.slice none 0 0) w from ⟨[], [],none,0,aO,k,x,rfl,World.ownsRow_nil _ _ _ _,trivial,h,d,by cases x <;> rfl,rfl,by have:=h.len;simp;omega,Ai.refl _ _ _⟩);clear h a2 d;go_enter Tryz.func40,Tryz.ntmps40
 go_wp2_with fail
 go_loopw [4] (fun v wr=>∃ n,Wy pb g c T tl x w n v wr) (fun v wr=>BJ (fun n=>Wy pb g c T tl x w n v wr))
 case atStart=>exact ⟨_,Aa a3⟩
 case round=>
  clear a3;have a4:=Gu hrel;have aL:=Ab (show ∀ n aw w',n < BJ (fun n=>Wy pb g c T tl x w n u4 wr)→Wy pb g c T tl x w n aw w'→BJ (fun n=>Wy pb g c T tl x w n aw w') < BJ (fun n=>Wy pb g c T tl x w n u4 wr) from fun n aw w' h1 h2=>JB h1 h2);generalize a5:BJ (fun n=>Wy pb g c T tl x w n u4 wr)=m at a4 aL;have aS:=Ab a5;clear a5 hrel;obtain ⟨X,L,a,ap,r,bo,y,rfl,aT,a6,a7,a8,hx,hm,a9,aU⟩:=a4;have aq:=Ab (And.intro hm a9);have ba:=Ab a6;have bA:=Ab hx;have bp:=Ab ((Aa aK).touch aU aI);have bB:=aU.size;have bq:∃ ax,DS r ax∧(∀ q,ax= .bad q→x= .bad q)∧(∀ s q,ax= .ok s q→(s.kind≠3∧∃ ab,DP q ab∧x=QR.pre (L ++ [s]) ab∧q.length < r.length)∨(s.kind=3∧q= []∧x= .ok (L ++ [s]))∨(s.kind=3∧q≠ []∧x= .bad q)):=by
   cases a8 with
   | bad d=>exact ⟨_,d,fun q e=>(by cases e;rw[hx];rfl),fun s q e=>by cases e⟩
   | @more _ aW s ab d hk d2=>exact ⟨_,d,fun q e=>(by cases e),fun s q e=>by
     cases e;obtain ⟨br,bs,bt⟩:=d.suf;have h1: 0 < br.length:=List.length_pos_iff.2 (bt _ _ rfl);exact .inl ⟨hk,ab,d2,by rw[hx,QR.pre_cons],by rw[bs,List.length_append];show aW.length < _+aW.length;omega⟩⟩
   | @last _ s d hk=>exact ⟨_,d,fun q e=>(by cases e),fun s q e=>by cases e;exact .inr (.inl ⟨hk,rfl,by rw[hx];rfl⟩)⟩
   | @over _ aW t s d hk=>exact ⟨_,d,fun q e=>(by cases e),fun s q e=>by cases e;exact .inr (.inr ⟨hk,by simp,by rw[hx];rfl⟩)⟩
  obtain ⟨ax,aX,bb,bc⟩:=bq;have bd:=Ab (Ly (aY:=aY) aI r ax aX wr bo a7 (Aa bp));have aZ:=Ab (And.intro bb bc);have bu:=Ab (show ∀ s q,ax= .ok s q→q.length < r.length from fun s q e=>by subst e;exact aX.less);clear a6 hx a7 a8 hm a9 aX bb bc;go_wp2_with fail
  refine (Aa bd).mono ?_;intro bC j bf;cases ax with
  | bad q=>
   obtain ⟨⟨bD,bE,nm,bv,bw,b,rfl,h3,h4,au⟩,aM⟩:=bf;have bx:=Ab ((Aa aZ).1 q rfl);rcases h3 with rfl | ⟨C,u3,rfl⟩ <;> rcases h4 with rfl | ⟨l,u4,rfl⟩
   all_goals
    dsimp only[By];go_wp2_with fail
    go_ret2
    rw[Aa bx];have bg:=fun bz=>(Below.refl j.heap.size j).alloc NLN bz;exact ⟨⟨b,rfl,Aj.after au (bg _) NLN⟩,(aU.trans aM).allP (bg _)⟩
  | ok s q=>
   obtain ⟨⟨I,J,E,rfl,bh,bi,bj,bk,bl⟩,aM⟩:=bf;have aV:=(Aa aZ).2 s q rfl;have aN:=aU.trans aM;have B:j.ownsRow w.heap.size 47 5 (.slice a X.length ap) X.length (NE X):=Ac aT (fun q hq=>aM.block q (aT.lt q hq).2 (.inr (by have:=(aT.lt q hq).1;omega)));have av:=Ab (Cy.of (w':=j) (fun v n ac aa q hq=>aM.block q (aa.lt q hq).2 (.inr (aa.lt q hq).1)) X L (Aa ba));have K:=Ab (show SxP (pb+1) j ⟨(s.at_:Int),s.kind,s.name,I,J⟩ s from ⟨rfl,rfl,rfl,bh,bi,bj,bk⟩);have aJ:=Ab (show Xa ⟨(s.at_:Int),s.kind,s.name,I,J⟩= [.int .i64 (s.at_:Int),.int .i64 s.kind,.string s.name,DG I,DG J] from rfl);have p:=Ab bl;have bF:X.length < 4000:=by have:=(Aa aq).2;have:=Aa ao;have:=(Aa bu) s q rfl;omega
   have bm:=GV I;have bn:=GV J;generalize DG I=bv at bm aJ;generalize DG J=bw at bn aJ;have bG:=aN.size;clear bh bi bj bk bl aT aZ ba bd;rcases bm with rfl | ⟨C,u3,rfl⟩ <;> rcases bn with rfl | ⟨l,u4,rfl⟩
   ·have Q:=(Below.refl j.heap.size j).alloc NLN (.cells #[.int .i64 (s.at_:Int),.int .i64 s.kind,.string s.name,.nilIface,.nilIface] 47);have R:=Q.alloc Q.size (.cells #[.int .i64 (s.at_:Int),.int .i64 s.kind,.string s.name,.nilIface,.nilIface] 47);have ad:=(B.alloc (.cells #[.int .i64 (s.at_:Int),.int .i64 s.kind,.string s.name,.nilIface,.nilIface] 47)).alloc (.cells #[.int .i64 (s.at_:Int),.int .i64 s.kind,.string s.name,.nilIface,.nilIface] 47);have S:=Aj.new (j.alloc (.cells #[.int .i64 (s.at_:Int),.int .i64 s.kind,.string s.name,.nilIface,.nilIface] 47)) #[.int .i64 (s.at_:Int),.int .i64 s.kind,.string s.name,.nilIface,.nilIface] 47;simp only[World.size_alloc] at S;have ae:=(Aj.new j #[.int .i64 (s.at_:Int),.int .i64 s.kind,.string s.name,.nilIface,.nilIface] 47).alloc (.cells #[.int .i64 (s.at_:Int),.int .i64 s.kind,.string s.name,.nilIface,.nilIface] 47);dsimp only;go_wp2_with (at_builtin;refine wpList_append_own _ rfl _ _ 42 rfl w.heap.size 47 i (.agg #[.int .i64 0,.int .i64 0,.string ByteArray.empty,.nilIface,.nilIface]) 5 64 Tryz.underlying42 hi aP aQ aR rfl (by decide) _ _ _ rfl ad ⟨j.heap.size+1,0,none⟩ 1 1 [.int .i64 (s.at_:Int),.int .i64 s.kind,.string s.name,.nilIface,.nilIface] rfl rfl ?k0c1 ?k0c2 ?k0c3 ?k0c4 ?k0c5 ?_)
    case k0c1=>exact OZ S
    case k0c2=>intro u hu;simp at hu;rcases hu with rfl | rfl | rfl | rfl | rfl <;> rfl
    case k0c3=>unfold maxLen;omega
    case k0c4=>omega
    case k0c5=>simp;omega
    intro aw f U A _;have V:∀ q,q < j.heap.size+2→(Value.slice a X.length ap).ownBlock≠some q→f.heap[q]? =((j.alloc (.cells #[.int .i64 (s.at_:Int),.int .i64 s.kind,.string s.name,.nilIface,.nilIface] 47)).alloc (.cells #[.int .i64 (s.at_:Int),.int .i64 s.kind,.string s.name,.nilIface,.nilIface] 47)).heap[q]? :=fun q h1 h2=>A.block q (by simp;omega) (fun e=>h2 e.symm);have af:Aj f j.heap.size #[.int .i64 (s.at_:Int),.int .i64 s.kind,.string s.name,.nilIface,.nilIface] 47:=⟨(V _ (by omega) (fun e=>by have:=(B.lt _ e).2;omega)).trans ae.out⟩
    have M:∀ q,q < j.heap.size→(Value.slice a X.length ap).ownBlock≠some q→f.heap[q]? =j.heap[q]? :=fun q h1 h2=>(V q (by omega) h2).trans (R.block q h1);have o:Pp f pb g c T tl q E:=⟨⟨(M pb (Aa p).row.lt (Ad (Aa p).row B (by decide))).trans (Aa p).row.out⟩,Ac (Aa p).toks (fun q hq=>M q ((Aa p).toks.lt q hq).2 (fun e=>Ak B (Aa p).toks (by decide) q e hq)),(Aa p).drop,(Aa p).len,(Aa p).small⟩
    have N:∀ (v:Value) (n:Nat) (ac:List Value),j.ownsRow (pb+1) 9 1 v n ac→∀ q,v.ownBlock=some q→f.heap[q]? =j.heap[q]? :=fun v n ac aa q hq=>M q (aa.lt q hq).2 (fun e=>Ak B aa (by decide) q e hq);have ag:=Ab (Cy.of N X L (Aa av));have ah:=Ab (show SxP (pb+1) f ⟨(s.at_:Int),s.kind,s.name,I,J⟩ s from ⟨rfl,rfl,rfl,(Aa K).2.2.2.1,(Aa K).2.2.2.2.1,DO N _ (Aa K).2.2.2.2.2.1,DO N _ (Aa K).2.2.2.2.2.2⟩);have ai:=Ab (Cy.snoc (Aa ah) X L (Aa ag));have F:Ai pb (pb+1) w f:=by
     have l:=aN.allP R;exact ⟨A.os.trans l.os,A.tape.trans l.tape,A.output.trans l.output,Nat.le_trans l.size A.size,fun q h1 h2=>(A.block q (Nat.lt_of_lt_of_le h1 l.size) (fun e=>by have:=(B.lt q e.symm).1;omega)).trans (l.block q h1 h2)⟩
    obtain ⟨O,P,hf⟩:=Af U;have aj:Hid (f.ownsRow w.heap.size 47 5 (.slice O (X.length+1) P) (X.length+1) (NE (X ++ [⟨(s.at_:Int),s.kind,s.name,I,J⟩]))):=Ab (by rw[IR,Aa aJ,← hf.1];exact U);have ay:=hf.1;subst ay;have a0:f.cell? ⟨j.heap.size,1,none⟩=some (.int .i64 s.kind):=af.cell 1;clear A V M N U hf ad Q R S ae af B av K ag ah;rcases aV with ⟨hk,ab,ak,z,az⟩ | ⟨hk,rfl,z⟩ | ⟨hk,hq,z⟩
    ·have ek:(s.kind== 3)=false:=beq_eq_false_iff_ne.2 hk;have al:=Ab (show Wy pb g c T tl x w q.length (.slice O (X.length+1) P) f from ⟨X ++ [⟨(s.at_:Int),s.kind,s.name,I,J⟩],L ++ [s],O,P,q,E,ab,by simp,by rw[List.length_append];exact Aa aj,Aa ai,o,ak,z,rfl,by have:=(Aa aq).2;simp;omega,F⟩);have aA:=Ab (show q.length < m by have:=(Aa aq).1;omega);clear hk ak z az o F;go_wp2_with fail
     go_roundw
     case rel=>exact ⟨_,Aa al⟩
     case measure=>rw[Aa aS];exact Aa aL _ _ _ (Aa aA) (Aa al)
    ·have ek:(s.kind== 3)=true:=beq_iff_eq.2 hk;have W:=Ab z;have H:=o.len;have Y:=o.row.cell 0;have Z:=o.row.cell 1;simp only[List.getElem?_toArray,List.getElem?_cons_zero,List.getElem?_cons_succ] at Y Z;clear hk z;have aB:=Aa ao;have aC:wrap64 (((T.length+1 :Nat):Int) - 1)=(T.length:Int):=by simp[wrap64];omega
     have aD:decide (E < T.length)=false:=by rw[decide_eq_false_iff_not];simp at H;omega
     have ar: ¬ E < T.length:=by simp at H;omega
     clear H;go_wp2_with fail
     go_region
     all_goals
      go_wp2_with fail
      go_ret2
      rw[Aa W];have aE:=(Below.refl f.heap.size f).drew;exact ⟨⟨X ++ [(⟨(s.at_:Int),s.kind,s.name,I,J⟩:Sx)],O,P,by rw[List.length_append];rfl,by rw[List.length_append];exact Ac (Aa aj) (fun q hq=>rfl),Cy.of (w:=f) (w':=f.drew) (fun _ _ _ _ _ _=>rfl) _ _ (Aa ai),by simp;omega⟩,F.allP aE⟩
    ·have ek:(s.kind== 3)=true:=beq_iff_eq.2 hk;have W:=Ab z;have H:=o.len;have Y:=o.row.cell 0;have Z:=o.row.cell 1;simp only[List.getElem?_toArray,List.getElem?_cons_zero,List.getElem?_cons_succ] at Y Z;have aF:=Ab (CH (o.drew) (((Aa aK).touch F aI).below (Below.refl f.heap.size f).drew));clear hk z;have aB:=Aa ao;have aG: 0 < q.length:=List.length_pos_iff.2 hq;have aC:wrap64 (((T.length+1 :Nat):Int) - 1)=(T.length:Int):=by simp[wrap64];omega
     have aD:decide (E < T.length)=true:=by rw[decide_eq_true_eq];omega
     have ar:E < T.length:=by omega
     clear H hq aG;go_wp2_with fail
     go_region
     all_goals
      go_wp2_with fail
      refine (Aa aF).mono ?_;rintro e a1 ⟨b,rfl,au,aH⟩;dsimp only[By];go_wp2_with fail
      go_ret2
      rw[Aa W];exact ⟨⟨b,rfl,au⟩,(F.allP (Below.refl f.heap.size f).drew).allP aH⟩
   ·have Q:=(Below.refl j.heap.size j).alloc NLN (.cells #[.int .i64 (s.at_:Int),.int .i64 s.kind,.string s.name,.nilIface,(.iface l u4)] 47);have R:=Q.alloc Q.size (.cells #[.int .i64 (s.at_:Int),.int .i64 s.kind,.string s.name,.nilIface,(.iface l u4)] 47);have ad:=(B.alloc (.cells #[.int .i64 (s.at_:Int),.int .i64 s.kind,.string s.name,.nilIface,(.iface l u4)] 47)).alloc (.cells #[.int .i64 (s.at_:Int),.int .i64 s.kind,.string s.name,.nilIface,(.iface l u4)] 47);have S:=Aj.new (j.alloc (.cells #[.int .i64 (s.at_:Int),.int .i64 s.kind,.string s.name,.nilIface,(.iface l u4)] 47)) #[.int .i64 (s.at_:Int),.int .i64 s.kind,.string s.name,.nilIface,(.iface l u4)] 47;simp only[World.size_alloc] at S;have ae:=(Aj.new j #[.int .i64 (s.at_:Int),.int .i64 s.kind,.string s.name,.nilIface,(.iface l u4)] 47).alloc (.cells #[.int .i64 (s.at_:Int),.int .i64 s.kind,.string s.name,.nilIface,(.iface l u4)] 47);dsimp only;go_wp2_with (at_builtin;refine wpList_append_own _ rfl _ _ 42 rfl w.heap.size 47 i (.agg #[.int .i64 0,.int .i64 0,.string ByteArray.empty,.nilIface,.nilIface]) 5 64 Tryz.underlying42 hi aP aQ aR rfl (by decide) _ _ _ rfl ad ⟨j.heap.size+1,0,none⟩ 1 1 [.int .i64 (s.at_:Int),.int .i64 s.kind,.string s.name,.nilIface,(.iface l u4)] rfl rfl ?k1c1 ?k1c2 ?k1c3 ?k1c4 ?k1c5 ?_)
    case k1c1=>exact OZ S
    case k1c2=>intro u hu;simp at hu;rcases hu with rfl | rfl | rfl | rfl | rfl <;> rfl
    case k1c3=>unfold maxLen;omega
    case k1c4=>omega
    case k1c5=>simp;omega
    intro aw f U A _;have V:∀ q,q < j.heap.size+2→(Value.slice a X.length ap).ownBlock≠some q→f.heap[q]? =((j.alloc (.cells #[.int .i64 (s.at_:Int),.int .i64 s.kind,.string s.name,.nilIface,(.iface l u4)] 47)).alloc (.cells #[.int .i64 (s.at_:Int),.int .i64 s.kind,.string s.name,.nilIface,(.iface l u4)] 47)).heap[q]? :=fun q h1 h2=>A.block q (by simp;omega) (fun e=>h2 e.symm);have af:Aj f j.heap.size #[.int .i64 (s.at_:Int),.int .i64 s.kind,.string s.name,.nilIface,(.iface l u4)] 47:=⟨(V _ (by omega) (fun e=>by have:=(B.lt _ e).2;omega)).trans ae.out⟩
    have M:∀ q,q < j.heap.size→(Value.slice a X.length ap).ownBlock≠some q→f.heap[q]? =j.heap[q]? :=fun q h1 h2=>(V q (by omega) h2).trans (R.block q h1);have o:Pp f pb g c T tl q E:=⟨⟨(M pb (Aa p).row.lt (Ad (Aa p).row B (by decide))).trans (Aa p).row.out⟩,Ac (Aa p).toks (fun q hq=>M q ((Aa p).toks.lt q hq).2 (fun e=>Ak B (Aa p).toks (by decide) q e hq)),(Aa p).drop,(Aa p).len,(Aa p).small⟩
    have N:∀ (v:Value) (n:Nat) (ac:List Value),j.ownsRow (pb+1) 9 1 v n ac→∀ q,v.ownBlock=some q→f.heap[q]? =j.heap[q]? :=fun v n ac aa q hq=>M q (aa.lt q hq).2 (fun e=>Ak B aa (by decide) q e hq);have ag:=Ab (Cy.of N X L (Aa av));have ah:=Ab (show SxP (pb+1) f ⟨(s.at_:Int),s.kind,s.name,I,J⟩ s from ⟨rfl,rfl,rfl,(Aa K).2.2.2.1,(Aa K).2.2.2.2.1,DO N _ (Aa K).2.2.2.2.2.1,DO N _ (Aa K).2.2.2.2.2.2⟩);have ai:=Ab (Cy.snoc (Aa ah) X L (Aa ag));have F:Ai pb (pb+1) w f:=by
     have l:=aN.allP R;exact ⟨A.os.trans l.os,A.tape.trans l.tape,A.output.trans l.output,Nat.le_trans l.size A.size,fun q h1 h2=>(A.block q (Nat.lt_of_lt_of_le h1 l.size) (fun e=>by have:=(B.lt q e.symm).1;omega)).trans (l.block q h1 h2)⟩
    obtain ⟨O,P,hf⟩:=Af U;have aj:Hid (f.ownsRow w.heap.size 47 5 (.slice O (X.length+1) P) (X.length+1) (NE (X ++ [⟨(s.at_:Int),s.kind,s.name,I,J⟩]))):=Ab (by rw[IR,Aa aJ,← hf.1];exact U);have ay:=hf.1;subst ay;have a0:f.cell? ⟨j.heap.size,1,none⟩=some (.int .i64 s.kind):=af.cell 1;clear A V M N U hf ad Q R S ae af B av K ag ah;rcases aV with ⟨hk,ab,ak,z,az⟩ | ⟨hk,rfl,z⟩ | ⟨hk,hq,z⟩
    ·have ek:(s.kind== 3)=false:=beq_eq_false_iff_ne.2 hk;have al:=Ab (show Wy pb g c T tl x w q.length (.slice O (X.length+1) P) f from ⟨X ++ [⟨(s.at_:Int),s.kind,s.name,I,J⟩],L ++ [s],O,P,q,E,ab,by simp,by rw[List.length_append];exact Aa aj,Aa ai,o,ak,z,rfl,by have:=(Aa aq).2;simp;omega,F⟩);have aA:=Ab (show q.length < m by have:=(Aa aq).1;omega);clear hk ak z az o F;go_wp2_with fail
     go_roundw
     case rel=>exact ⟨_,Aa al⟩
     case measure=>rw[Aa aS];exact Aa aL _ _ _ (Aa aA) (Aa al)
    ·have ek:(s.kind== 3)=true:=beq_iff_eq.2 hk;have W:=Ab z;have H:=o.len;have Y:=o.row.cell 0;have Z:=o.row.cell 1;simp only[List.getElem?_toArray,List.getElem?_cons_zero,List.getElem?_cons_succ] at Y Z;clear hk z;have aB:=Aa ao;have aC:wrap64 (((T.length+1 :Nat):Int) - 1)=(T.length:Int):=by simp[wrap64];omega
     have aD:decide (E < T.length)=false:=by rw[decide_eq_false_iff_not];simp at H;omega
     have ar: ¬ E < T.length:=by simp at H;omega
     clear H;go_wp2_with fail
     go_region
     all_goals
      go_wp2_with fail
      go_ret2
      rw[Aa W];have aE:=(Below.refl f.heap.size f).drew;exact ⟨⟨X ++ [(⟨(s.at_:Int),s.kind,s.name,I,J⟩:Sx)],O,P,by rw[List.length_append];rfl,by rw[List.length_append];exact Ac (Aa aj) (fun q hq=>rfl),Cy.of (w:=f) (w':=f.drew) (fun _ _ _ _ _ _=>rfl) _ _ (Aa ai),by simp;omega⟩,F.allP aE⟩
    ·have ek:(s.kind== 3)=true:=beq_iff_eq.2 hk;have W:=Ab z;have H:=o.len;have Y:=o.row.cell 0;have Z:=o.row.cell 1;simp only[List.getElem?_toArray,List.getElem?_cons_zero,List.getElem?_cons_succ] at Y Z;have aF:=Ab (CH (o.drew) (((Aa aK).touch F aI).below (Below.refl f.heap.size f).drew));clear hk z;have aB:=Aa ao;have aG: 0 < q.length:=List.length_pos_iff.2 hq;have aC:wrap64 (((T.length+1 :Nat):Int) - 1)=(T.length:Int):=by simp[wrap64];omega
     have aD:decide (E < T.length)=true:=by rw[decide_eq_true_eq];omega
     have ar:E < T.length:=by omega
     clear H hq aG;go_wp2_with fail
     go_region
     all_goals
      go_wp2_with fail
      refine (Aa aF).mono ?_;rintro e a1 ⟨b,rfl,au,aH⟩;dsimp only[By];go_wp2_with fail
      go_ret2
      rw[Aa W];exact ⟨⟨b,rfl,au⟩,(F.allP (Below.refl f.heap.size f).drew).allP aH⟩
   ·have Q:=(Below.refl j.heap.size j).alloc NLN (.cells #[.int .i64 (s.at_:Int),.int .i64 s.kind,.string s.name,(.iface C u3),.nilIface] 47);have R:=Q.alloc Q.size (.cells #[.int .i64 (s.at_:Int),.int .i64 s.kind,.string s.name,(.iface C u3),.nilIface] 47);have ad:=(B.alloc (.cells #[.int .i64 (s.at_:Int),.int .i64 s.kind,.string s.name,(.iface C u3),.nilIface] 47)).alloc (.cells #[.int .i64 (s.at_:Int),.int .i64 s.kind,.string s.name,(.iface C u3),.nilIface] 47);have S:=Aj.new (j.alloc (.cells #[.int .i64 (s.at_:Int),.int .i64 s.kind,.string s.name,(.iface C u3),.nilIface] 47)) #[.int .i64 (s.at_:Int),.int .i64 s.kind,.string s.name,(.iface C u3),.nilIface] 47;simp only[World.size_alloc] at S;have ae:=(Aj.new j #[.int .i64 (s.at_:Int),.int .i64 s.kind,.string s.name,(.iface C u3),.nilIface] 47).alloc (.cells #[.int .i64 (s.at_:Int),.int .i64 s.kind,.string s.name,(.iface C u3),.nilIface] 47);dsimp only;go_wp2_with (at_builtin;refine wpList_append_own _ rfl _ _ 42 rfl w.heap.size 47 i (.agg #[.int .i64 0,.int .i64 0,.string ByteArray.empty,.nilIface,.nilIface]) 5 64 Tryz.underlying42 hi aP aQ aR rfl (by decide) _ _ _ rfl ad ⟨j.heap.size+1,0,none⟩ 1 1 [.int .i64 (s.at_:Int),.int .i64 s.kind,.string s.name,(.iface C u3),.nilIface] rfl rfl ?k2c1 ?k2c2 ?k2c3 ?k2c4 ?k2c5 ?_)
    case k2c1=>exact OZ S
    case k2c2=>intro u hu;simp at hu;rcases hu with rfl | rfl | rfl | rfl | rfl <;> rfl
    case k2c3=>unfold maxLen;omega
    case k2c4=>omega
    case k2c5=>simp;omega
    intro aw f U A _;have V:∀ q,q < j.heap.size+2→(Value.slice a X.length ap).ownBlock≠some q→f.heap[q]? =((j.alloc (.cells #[.int .i64 (s.at_:Int),.int .i64 s.kind,.string s.name,(.iface C u3),.nilIface] 47)).alloc (.cells #[.int .i64 (s.at_:Int),.int .i64 s.kind,.string s.name,(.iface C u3),.nilIface] 47)).heap[q]? :=fun q h1 h2=>A.block q (by simp;omega) (fun e=>h2 e.symm);have af:Aj f j.heap.size #[.int .i64 (s.at_:Int),.int .i64 s.kind,.string s.name,(.iface C u3),.nilIface] 47:=⟨(V _ (by omega) (fun e=>by have:=(B.lt _ e).2;omega)).trans ae.out⟩
    have M:∀ q,q < j.heap.size→(Value.slice a X.length ap).ownBlock≠some q→f.heap[q]? =j.heap[q]? :=fun q h1 h2=>(V q (by omega) h2).trans (R.block q h1);have o:Pp f pb g c T tl q E:=⟨⟨(M pb (Aa p).row.lt (Ad (Aa p).row B (by decide))).trans (Aa p).row.out⟩,Ac (Aa p).toks (fun q hq=>M q ((Aa p).toks.lt q hq).2 (fun e=>Ak B (Aa p).toks (by decide) q e hq)),(Aa p).drop,(Aa p).len,(Aa p).small⟩
    have N:∀ (v:Value) (n:Nat) (ac:List Value),j.ownsRow (pb+1) 9 1 v n ac→∀ q,v.ownBlock=some q→f.heap[q]? =j.heap[q]? :=fun v n ac aa q hq=>M q (aa.lt q hq).2 (fun e=>Ak B aa (by decide) q e hq);have ag:=Ab (Cy.of N X L (Aa av));have ah:=Ab (show SxP (pb+1) f ⟨(s.at_:Int),s.kind,s.name,I,J⟩ s from ⟨rfl,rfl,rfl,(Aa K).2.2.2.1,(Aa K).2.2.2.2.1,DO N _ (Aa K).2.2.2.2.2.1,DO N _ (Aa K).2.2.2.2.2.2⟩);have ai:=Ab (Cy.snoc (Aa ah) X L (Aa ag));have F:Ai pb (pb+1) w f:=by
     have l:=aN.allP R;exact ⟨A.os.trans l.os,A.tape.trans l.tape,A.output.trans l.output,Nat.le_trans l.size A.size,fun q h1 h2=>(A.block q (Nat.lt_of_lt_of_le h1 l.size) (fun e=>by have:=(B.lt q e.symm).1;omega)).trans (l.block q h1 h2)⟩
    obtain ⟨O,P,hf⟩:=Af U;have aj:Hid (f.ownsRow w.heap.size 47 5 (.slice O (X.length+1) P) (X.length+1) (NE (X ++ [⟨(s.at_:Int),s.kind,s.name,I,J⟩]))):=Ab (by rw[IR,Aa aJ,← hf.1];exact U);have ay:=hf.1;subst ay;have a0:f.cell? ⟨j.heap.size,1,none⟩=some (.int .i64 s.kind):=af.cell 1;clear A V M N U hf ad Q R S ae af B av K ag ah;rcases aV with ⟨hk,ab,ak,z,az⟩ | ⟨hk,rfl,z⟩ | ⟨hk,hq,z⟩
    ·have ek:(s.kind== 3)=false:=beq_eq_false_iff_ne.2 hk;have al:=Ab (show Wy pb g c T tl x w q.length (.slice O (X.length+1) P) f from ⟨X ++ [⟨(s.at_:Int),s.kind,s.name,I,J⟩],L ++ [s],O,P,q,E,ab,by simp,by rw[List.length_append];exact Aa aj,Aa ai,o,ak,z,rfl,by have:=(Aa aq).2;simp;omega,F⟩);have aA:=Ab (show q.length < m by have:=(Aa aq).1;omega);clear hk ak z az o F;go_wp2_with fail
     go_roundw
     case rel=>exact ⟨_,Aa al⟩
     case measure=>rw[Aa aS];exact Aa aL _ _ _ (Aa aA) (Aa al)
    ·have ek:(s.kind== 3)=true:=beq_iff_eq.2 hk;have W:=Ab z;have H:=o.len;have Y:=o.row.cell 0;have Z:=o.row.cell 1;simp only[List.getElem?_toArray,List.getElem?_cons_zero,List.getElem?_cons_succ] at Y Z;clear hk z;have aB:=Aa ao;have aC:wrap64 (((T.length+1 :Nat):Int) - 1)=(T.length:Int):=by simp[wrap64];omega
     have aD:decide (E < T.length)=false:=by rw[decide_eq_false_iff_not];simp at H;omega
     have ar: ¬ E < T.length:=by simp at H;omega
     clear H;go_wp2_with fail
     go_region
     all_goals
      go_wp2_with fail
      go_ret2
      rw[Aa W];have aE:=(Below.refl f.heap.size f).drew;exact ⟨⟨X ++ [(⟨(s.at_:Int),s.kind,s.name,I,J⟩:Sx)],O,P,by rw[List.length_append];rfl,by rw[List.length_append];exact Ac (Aa aj) (fun q hq=>rfl),Cy.of (w:=f) (w':=f.drew) (fun _ _ _ _ _ _=>rfl) _ _ (Aa ai),by simp;omega⟩,F.allP aE⟩
    ·have ek:(s.kind== 3)=true:=beq_iff_eq.2 hk;have W:=Ab z;have H:=o.len;have Y:=o.row.cell 0;have Z:=o.row.cell 1;simp only[List.getElem?_toArray,List.getElem?_cons_zero,List.getElem?_cons_succ] at Y Z;have aF:=Ab (CH (o.drew) (((Aa aK).touch F aI).below (Below.refl f.heap.size f).drew));clear hk z;have aB:=Aa ao;have aG: 0 < q.length:=List.length_pos_iff.2 hq;have aC:wrap64 (((T.length+1 :Nat):Int) - 1)=(T.length:Int):=by simp[wrap64];omega
     have aD:decide (E < T.length)=true:=by rw[decide_eq_true_eq];omega
     have ar:E < T.length:=by omega
     clear H hq aG;go_wp2_with fail
     go_region
     all_goals
      go_wp2_with fail
      refine (Aa aF).mono ?_;rintro e a1 ⟨b,rfl,au,aH⟩;dsimp only[By];go_wp2_with fail
      go_ret2
      rw[Aa W];exact ⟨⟨b,rfl,au⟩,(F.allP (Below.refl f.heap.size f).drew).allP aH⟩
   ·have Q:=(Below.refl j.heap.size j).alloc NLN (.cells #[.int .i64 (s.at_:Int),.int .i64 s.kind,.string s.name,(.iface C u3),(.iface l u4)] 47);have R:=Q.alloc Q.size (.cells #[.int .i64 (s.at_:Int),.int .i64 s.kind,.string s.name,(.iface C u3),(.iface l u4)] 47);have ad:=(B.alloc (.cells #[.int .i64 (s.at_:Int),.int .i64 s.kind,.string s.name,(.iface C u3),(.iface l u4)] 47)).alloc (.cells #[.int .i64 (s.at_:Int),.int .i64 s.kind,.string s.name,(.iface C u3),(.iface l u4)] 47);have S:=Aj.new (j.alloc (.cells #[.int .i64 (s.at_:Int),.int .i64 s.kind,.string s.name,(.iface C u3),(.iface l u4)] 47)) #[.int .i64 (s.at_:Int),.int .i64 s.kind,.string s.name,(.iface C u3),(.iface l u4)] 47;simp only[World.size_alloc] at S;have ae:=(Aj.new j #[.int .i64 (s.at_:Int),.int .i64 s.kind,.string s.name,(.iface C u3),(.iface l u4)] 47).alloc (.cells #[.int .i64 (s.at_:Int),.int .i64 s.kind,.string s.name,(.iface C u3),(.iface l u4)] 47);dsimp only;go_wp2_with (at_builtin;refine wpList_append_own _ rfl _ _ 42 rfl w.heap.size 47 i (.agg #[.int .i64 0,.int .i64 0,.string ByteArray.empty,.nilIface,.nilIface]) 5 64 Tryz.underlying42 hi aP aQ aR rfl (by decide) _ _ _ rfl ad ⟨j.heap.size+1,0,none⟩ 1 1 [.int .i64 (s.at_:Int),.int .i64 s.kind,.string s.name,(.iface C u3),(.iface l u4)] rfl rfl ?k3c1 ?k3c2 ?k3c3 ?k3c4 ?k3c5 ?_)
    case k3c1=>exact OZ S
    case k3c2=>intro u hu;simp at hu;rcases hu with rfl | rfl | rfl | rfl | rfl <;> rfl
    case k3c3=>unfold maxLen;omega
    case k3c4=>omega
    case k3c5=>simp;omega
    intro aw f U A _;have V:∀ q,q < j.heap.size+2→(Value.slice a X.length ap).ownBlock≠some q→f.heap[q]? =((j.alloc (.cells #[.int .i64 (s.at_:Int),.int .i64 s.kind,.string s.name,(.iface C u3),(.iface l u4)] 47)).alloc (.cells #[.int .i64 (s.at_:Int),.int .i64 s.kind,.string s.name,(.iface C u3),(.iface l u4)] 47)).heap[q]? :=fun q h1 h2=>A.block q (by simp;omega) (fun e=>h2 e.symm);have af:Aj f j.heap.size #[.int .i64 (s.at_:Int),.int .i64 s.kind,.string s.name,(.iface C u3),(.iface l u4)] 47:=⟨(V _ (by omega) (fun e=>by have:=(B.lt _ e).2;omega)).trans ae.out⟩
    have M:∀ q,q < j.heap.size→(Value.slice a X.length ap).ownBlock≠some q→f.heap[q]? =j.heap[q]? :=fun q h1 h2=>(V q (by omega) h2).trans (R.block q h1);have o:Pp f pb g c T tl q E:=⟨⟨(M pb (Aa p).row.lt (Ad (Aa p).row B (by decide))).trans (Aa p).row.out⟩,Ac (Aa p).toks (fun q hq=>M q ((Aa p).toks.lt q hq).2 (fun e=>Ak B (Aa p).toks (by decide) q e hq)),(Aa p).drop,(Aa p).len,(Aa p).small⟩
    have N:∀ (v:Value) (n:Nat) (ac:List Value),j.ownsRow (pb+1) 9 1 v n ac→∀ q,v.ownBlock=some q→f.heap[q]? =j.heap[q]? :=fun v n ac aa q hq=>M q (aa.lt q hq).2 (fun e=>Ak B aa (by decide) q e hq);have ag:=Ab (Cy.of N X L (Aa av));have ah:=Ab (show SxP (pb+1) f ⟨(s.at_:Int),s.kind,s.name,I,J⟩ s from ⟨rfl,rfl,rfl,(Aa K).2.2.2.1,(Aa K).2.2.2.2.1,DO N _ (Aa K).2.2.2.2.2.1,DO N _ (Aa K).2.2.2.2.2.2⟩);have ai:=Ab (Cy.snoc (Aa ah) X L (Aa ag));have F:Ai pb (pb+1) w f:=by
     have l:=aN.allP R;exact ⟨A.os.trans l.os,A.tape.trans l.tape,A.output.trans l.output,Nat.le_trans l.size A.size,fun q h1 h2=>(A.block q (Nat.lt_of_lt_of_le h1 l.size) (fun e=>by have:=(B.lt q e.symm).1;omega)).trans (l.block q h1 h2)⟩
    obtain ⟨O,P,hf⟩:=Af U;have aj:Hid (f.ownsRow w.heap.size 47 5 (.slice O (X.length+1) P) (X.length+1) (NE (X ++ [⟨(s.at_:Int),s.kind,s.name,I,J⟩]))):=Ab (by rw[IR,Aa aJ,← hf.1];exact U);have ay:=hf.1;subst ay;have a0:f.cell? ⟨j.heap.size,1,none⟩=some (.int .i64 s.kind):=af.cell 1;clear A V M N U hf ad Q R S ae af B av K ag ah;rcases aV with ⟨hk,ab,ak,z,az⟩ | ⟨hk,rfl,z⟩ | ⟨hk,hq,z⟩
    ·have ek:(s.kind== 3)=false:=beq_eq_false_iff_ne.2 hk;have al:=Ab (show Wy pb g c T tl x w q.length (.slice O (X.length+1) P) f from ⟨X ++ [⟨(s.at_:Int),s.kind,s.name,I,J⟩],L ++ [s],O,P,q,E,ab,by simp,by rw[List.length_append];exact Aa aj,Aa ai,o,ak,z,rfl,by have:=(Aa aq).2;simp;omega,F⟩);have aA:=Ab (show q.length < m by have:=(Aa aq).1;omega);clear hk ak z az o F;go_wp2_with fail
     go_roundw
     case rel=>exact ⟨_,Aa al⟩
     case measure=>rw[Aa aS];exact Aa aL _ _ _ (Aa aA) (Aa al)
    ·have ek:(s.kind== 3)=true:=beq_iff_eq.2 hk;have W:=Ab z;have H:=o.len;have Y:=o.row.cell 0;have Z:=o.row.cell 1;simp only[List.getElem?_toArray,List.getElem?_cons_zero,List.getElem?_cons_succ] at Y Z;clear hk z;have aB:=Aa ao;have aC:wrap64 (((T.length+1 :Nat):Int) - 1)=(T.length:Int):=by simp[wrap64];omega
     have aD:decide (E < T.length)=false:=by rw[decide_eq_false_iff_not];simp at H;omega
     have ar: ¬ E < T.length:=by simp at H;omega
     clear H;go_wp2_with fail
     go_region
     all_goals
      go_wp2_with fail
      go_ret2
      rw[Aa W];have aE:=(Below.refl f.heap.size f).drew;exact ⟨⟨X ++ [(⟨(s.at_:Int),s.kind,s.name,I,J⟩:Sx)],O,P,by rw[List.length_append];rfl,by rw[List.length_append];exact Ac (Aa aj) (fun q hq=>rfl),Cy.of (w:=f) (w':=f.drew) (fun _ _ _ _ _ _=>rfl) _ _ (Aa ai),by simp;omega⟩,F.allP aE⟩
    ·have ek:(s.kind== 3)=true:=beq_iff_eq.2 hk;have W:=Ab z;have H:=o.len;have Y:=o.row.cell 0;have Z:=o.row.cell 1;simp only[List.getElem?_toArray,List.getElem?_cons_zero,List.getElem?_cons_succ] at Y Z;have aF:=Ab (CH (o.drew) (((Aa aK).touch F aI).below (Below.refl f.heap.size f).drew));clear hk z;have aB:=Aa ao;have aG: 0 < q.length:=List.length_pos_iff.2 hq;have aC:wrap64 (((T.length+1 :Nat):Int) - 1)=(T.length:Int):=by simp[wrap64];omega
     have aD:decide (E < T.length)=true:=by rw[decide_eq_true_eq];omega
     have ar:E < T.length:=by omega
     clear H hq aG;go_wp2_with fail
     go_region
     all_goals
      go_wp2_with fail
      refine (Aa aF).mono ?_;rintro e a1 ⟨b,rfl,au,aH⟩;dsimp only[By];go_wp2_with fail
      go_ret2
      rw[Aa W];exact ⟨⟨b,rfl,au⟩,(F.allP (Below.refl f.heap.size f).drew).allP aH⟩
end Go.Proofs.YtoplnhndilmlcaaGreatDoor
