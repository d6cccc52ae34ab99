/-
  ONC, OND, ONE, GJ. Own work.
-/
import Derived.Test.YtffkofkjpckmpaaGreatDoorMXAP
import Derived.Test.YtffkofkjpckmpaaGreatDoorMXBC
namespace Go.Proofs.YtffkofkjpckmpaaGreatDoor
open Go.RowKit
set_option linter.unusedVariables false
theorem Qv {w:World}{lo n c:Nat}{a:Option Addr}{L:List Int}(h:w.ownsRow lo 3 1 (.slice a n c) n (AF L))(hl:L.length=n)(b:n≤1048576):IP w a n c L:=by
 refine ⟨hl,b,fun j d=>?_⟩;obtain ⟨x,f,e,hx⟩:=Af h;cases e;obtain ⟨g,rfl,i,hc⟩:=hx (by omega);refine ⟨g,0,rfl,(h.lt g rfl).2, ?_⟩;rw[zW];exact hc j _ (by rw[AF,zd,zM d];rfl)
def Dm (L:List St):List Value:=L.flatMap fun s=> [.int .i64 s.kind,.string s.name,.int .i64 s.cond,.int .i64 s.grant]
theorem VT:∀ (L:List St) (j:Nat) (h:j < L.length),∀ r,r < 4→(Dm L)[j * 4+r]? =([Value.int .i64 L[j].kind,.string L[j].name,.int .i64 L[j].cond,.int .i64 L[j].grant]:List Value)[r]?
 |s ::L,0,_,r,hr=>by
  rw[Dm,zi,Nat.zero_mul,zW,yJ (by simp;omega)];rfl
 |s ::L,j+1,h,r,hr=>by
  have a:=VT L j (by simpa using h) r hr;rw[Dm,zi,yC (by simp;omega)];have e:(j+1) * 4+r - ([Value.int .i64 s.kind,.string s.name,.int .i64 s.cond,.int .i64 s.grant]:List Value).length=j * 4+r:=by simp;omega
  rw[e];rw[Dm] at a;rw[a];rfl
 | [],_,h,_,_=>absurd h (by simp)
end Go.Proofs.YtffkofkjpckmpaaGreatDoor
namespace Go.Proofs.YtffkofkjpckmpaaGreatDoor
set_option maxRecDepth 100000
set_option maxHeartbeats 1600000
open Go.RowKit
set_option linter.unusedVariables false
variable {aY : Addr} {pb g c : Nat} {T : List Ae} {tl : Nat}
theorem Yj (k:Nat)(ts:List Ae)(x:PR)(d:D (.opd k) ts x)(b:∀ nt x,D nt ts x→nt.good→nt.rank < (NT.opd k).rank→CS aY pb g c T tl nt ts x):CS aY pb g c T tl (.opd k) ts x:=by
 intro w l h f;show Calls Tryz.prog 186 #[.pointer (some ⟨pb,0,none⟩),.int .i64 (k:Int)] w (FH aY pb g c T tl x w);cases d
 case opd1 d=>
  have i:=Ab (b _ _ d (.inr (.inl rfl)) (by decide) w l h f);clear h f b;go_enter Tryz.func186,Tryz.ntmps186
  go_wp2_with fail
  refine (Aa i).mono ?_;intro r m a;obtain ⟨v,e,rfl,n,he⟩:=a.form;have j:=Ab a;clear a;dsimp only;go_wp2_with fail
  go_ret2
  exact Aa j
 case opd2 d=>
  have i:=Ab (b _ _ d trivial (by decide) w l h f);clear h f b;go_enter Tryz.func186,Tryz.ntmps186
  go_wp2_with fail
  refine (Aa i).mono ?_;intro r m a;obtain ⟨v,e,rfl,n,he⟩:=a.form;have j:=Ab a;clear a;dsimp only;go_wp2_with fail
  go_ret2
  exact Aa j
 case opd4 d=>
  have i:=Ab (b _ _ d (.inr (.inr (.inl rfl))) (by decide) w l h f);clear h f b;go_enter Tryz.func186,Tryz.ntmps186
  go_wp2_with fail
  refine (Aa i).mono ?_;intro r m a;obtain ⟨v,e,rfl,n,he⟩:=a.form;have j:=Ab a;clear a;dsimp only;go_wp2_with fail
  go_ret2
  exact Aa j
 case opd5 d=>
  have i:=Ab (b _ _ d (.inr (.inr (.inr rfl))) (by decide) w l h f);clear h f b;go_enter Tryz.func186,Tryz.ntmps186
  go_wp2_with fail
  refine (Aa i).mono ?_;intro r m a;obtain ⟨v,e,rfl,n,he⟩:=a.form;have j:=Ab a;clear a;dsimp only;go_wp2_with fail
  go_ret2
  exact Aa j
 case opd6 d=>
  have i:=Ab (b _ _ d trivial (by decide) w l h f);clear h f b;go_enter Tryz.func186,Tryz.ntmps186
  go_wp2_with fail
  refine (Aa i).mono ?_;intro r m a;obtain ⟨v,e,rfl,n,he⟩:=a.form;have j:=Ab a;clear a;dsimp only;go_wp2_with fail
  go_ret2
  exact Aa j
def PR.pre (i:Nat) (op:Int):PR→PR
 | .ok e q=> .ok (.un i op e) q
 | .bad q=> .bad q
theorem Qa (hp: 17≤pb)(op:Int)(t:Ae)(r:List Ae)(x:PR)(w:World)(k:Nat)(h:Pp w pb g c T tl (t ::r) k)(i:Gy w aY)(j:CS aY pb g c T tl .neg r x):
  Calls Tryz.prog 192 #[.pointer (some ⟨pb,0,none⟩),.int .i64 op,.func (.func 190) #[.pointer (some ⟨pb,0,none⟩)] #[]] w (FH aY pb g c T tl (x.pre t.at_ op) w):=by
 have s:=Ab (Cc h);have u:Hid (∀ w' a,Pp w' pb g c T tl r a→Gy w' aY→Calls Tryz.prog 190 #[.pointer (some ⟨pb,0,none⟩)] w' (FH aY pb g c T tl x w')):=Ab (fun w' a y=>j w' a y);have z:=Ab i;have I:=CM (.int .i64 t.kind) (.int .i64 t.num) (.string t.text) (.int .i64 (t.at_:Int));clear h i j;go_enter Tryz.func192,Tryz.ntmps192
 go_wp2_with fail
 refine (Aa s).mono ?_;rintro e A ⟨rfl,l,d⟩;dsimp only[Dc];go_wp2_with fail
 refine (Aa u A _ l ((Aa z).touch d hp)).mono ?_;clear l;intro J K m;cases x with
 |bad q=>
  obtain ⟨⟨v,b,rfl,B,C⟩,f⟩:=m;rcases B with rfl | ⟨L,M,rfl⟩
  all_goals
   dsimp only[Ck];go_wp2_with fail
   go_ret2
   exact ⟨⟨.nilIface,b,rfl,.inl rfl,C⟩,d.trans f⟩
 |ok p q=>
  obtain ⟨⟨e,E,rfl,he,n,F⟩,f⟩:=m;obtain ⟨N,O,hf⟩:=e.form;have o:=Ab (And.intro he n);rw[hf];have H:=Ab hf;clear he n hf;dsimp only;go_wp2_with fail
  go_ret2
  exact ⟨⟨.un t.at_ op e,E,by rw[Ex.val,Aa H];rfl,⟨rfl,rfl,(Aa o).1⟩,(Aa o).2,F⟩,d.trans f⟩
theorem Qb (hp: 17≤pb)(op:Int)(t:Ae)(r:List Ae)(x:PR)(w:World)(k:Nat)(h:Pp w pb g c T tl (t ::r) k)(i:Gy w aY)(j:CS aY pb g c T tl .una r x):
  Calls Tryz.prog 192 #[.pointer (some ⟨pb,0,none⟩),.int .i64 op,.func (.func 191) #[.pointer (some ⟨pb,0,none⟩)] #[]] w (FH aY pb g c T tl (x.pre t.at_ op) w):=by
 have s:=Ab (Cc h);have u:Hid (∀ w' a,Pp w' pb g c T tl r a→Gy w' aY→Calls Tryz.prog 191 #[.pointer (some ⟨pb,0,none⟩)] w' (FH aY pb g c T tl x w')):=Ab (fun w' a y=>j w' a y);have z:=Ab i;have I:=CM (.int .i64 t.kind) (.int .i64 t.num) (.string t.text) (.int .i64 (t.at_:Int));clear h i j;go_enter Tryz.func192,Tryz.ntmps192
 go_wp2_with fail
 refine (Aa s).mono ?_;rintro e A ⟨rfl,l,d⟩;dsimp only[Dc];go_wp2_with fail
 refine (Aa u A _ l ((Aa z).touch d hp)).mono ?_;clear l;intro J K m;cases x with
 |bad q=>
  obtain ⟨⟨v,b,rfl,B,C⟩,f⟩:=m;rcases B with rfl | ⟨L,M,rfl⟩
  all_goals
   dsimp only[Ck];go_wp2_with fail
   go_ret2
   exact ⟨⟨.nilIface,b,rfl,.inl rfl,C⟩,d.trans f⟩
 |ok p q=>
  obtain ⟨⟨e,E,rfl,he,n,F⟩,f⟩:=m;obtain ⟨N,O,hf⟩:=e.form;have o:=Ab (And.intro he n);rw[hf];have H:=Ab hf;clear he n hf;dsimp only;go_wp2_with fail
  go_ret2
  exact ⟨⟨.un t.at_ op e,E,by rw[Ex.val,Aa H];rfl,⟨rfl,rfl,(Aa o).1⟩,(Aa o).2,F⟩,d.trans f⟩
theorem Od (hp: 17≤pb)(op:Int)(t:Ae)(r:List Ae)(x:PR)(w:World)(k:Nat)(h:Pp w pb g c T tl (t ::r) k)(i:Gy w aY)(j:CS aY pb g c T tl .encl r x):
  Calls Tryz.prog 192 #[.pointer (some ⟨pb,0,none⟩),.int .i64 op,.func (.func 195) #[.pointer (some ⟨pb,0,none⟩)] #[]] w (FH aY pb g c T tl (x.pre t.at_ op) w):=by
 have s:=Ab (Cc h);have u:Hid (∀ w' a,Pp w' pb g c T tl r a→Gy w' aY→Calls Tryz.prog 195 #[.pointer (some ⟨pb,0,none⟩)] w' (FH aY pb g c T tl x w')):=Ab (fun w' a y=>j w' a y);have z:=Ab i;have I:=CM (.int .i64 t.kind) (.int .i64 t.num) (.string t.text) (.int .i64 (t.at_:Int));clear h i j;go_enter Tryz.func192,Tryz.ntmps192
 go_wp2_with fail
 refine (Aa s).mono ?_;rintro e A ⟨rfl,l,d⟩;dsimp only[Dc];go_wp2_with fail
 refine (Aa u A _ l ((Aa z).touch d hp)).mono ?_;clear l;intro J K m;cases x with
 |bad q=>
  obtain ⟨⟨v,b,rfl,B,C⟩,f⟩:=m;rcases B with rfl | ⟨L,M,rfl⟩
  all_goals
   dsimp only[Ck];go_wp2_with fail
   go_ret2
   exact ⟨⟨.nilIface,b,rfl,.inl rfl,C⟩,d.trans f⟩
 |ok p q=>
  obtain ⟨⟨e,E,rfl,he,n,F⟩,f⟩:=m;obtain ⟨N,O,hf⟩:=e.form;have o:=Ab (And.intro he n);rw[hf];have H:=Ab hf;clear he n hf;dsimp only;go_wp2_with fail
  go_ret2
  exact ⟨⟨.un t.at_ op e,E,by rw[Ex.val,Aa H];rfl,⟨rfl,rfl,(Aa o).1⟩,(Aa o).2,F⟩,d.trans f⟩
theorem Yk (hp: 17≤pb)(ts:List Ae)(x:PR)(d:D .neg ts x)(i:∀ x,D .cmp ts x→CS aY pb g c T tl .cmp ts x)(j:∀ r x,D .neg r x→r.length < ts.length→CS aY pb g c T tl .neg r x):CS aY pb g c T tl .neg ts x:=by
 intro w o h f;show Calls Tryz.prog 190 #[.pointer (some ⟨pb,0,none⟩)] w (FH aY pb g c T tl x w);have p:=Ab (AW h DT);have s:(AM DT ts=false∧D .cmp ts x)∨(∃ t r y,ts=t ::r∧see DT t=true∧D .neg r y∧x=y.pre t.at_ 9):=by
  cases d
  case neg_no hs d=>exact .inl ⟨hs,d⟩
  case neg_bad t r q hs d=>exact .inr ⟨t,r,.bad q,rfl,hs,d,rfl⟩
  case neg t r q e hs d=>exact .inr ⟨t,r,.ok e q,rfl,hs,d,rfl⟩
 clear d;rcases s with ⟨hs,d⟩ | ⟨t,r,y,rfl,hs,d,rfl⟩
 ·have k:=Ab hs;have l:=Ab (fun w' (a:Below w.heap.size w w')=>i _ d w' o (h.below a) (f.below a));clear h f i j hs d;go_enter Tryz.func190,Tryz.ntmps190
  go_wp2_with fail
  refine (Aa p).mono ?_;rintro e m ⟨rfl,a⟩;rw[Aa k];dsimp only;go_wp2_with fail
  refine (Aa l m a).mono ?_;intro r u b;obtain ⟨v,e,rfl,z,he⟩:=b.form;have n:=Ab (b.from (Ak.of_below a NLN));clear b;dsimp only;go_wp2_with fail
  go_ret2
  exact Aa n
 ·have k:=Ab (show AM DT (t ::r)=true from hs);have l:=Ab (fun w' (a:Below w.heap.size w w')=>Qa hp 9 t r y w' o (h.below a) (f.below a) (j r y d (by simp)));clear h f i j hs d;go_enter Tryz.func190,Tryz.ntmps190
  go_wp2_with fail
  refine (Aa p).mono ?_;rintro e m ⟨rfl,a⟩;rw[Aa k];dsimp only;go_wp2_with fail
  refine (Aa l m a).mono ?_;intro r u b;obtain ⟨v,e,rfl,z,he⟩:=b.form;have n:=Ab (b.from (Ak.of_below a NLN));clear b;dsimp only;go_wp2_with fail
  go_ret2
  exact Aa n
theorem Yl (hp: 17≤pb)(ts:List Ae)(x:PR)(d:D .una ts x)(i:∀ x,D .prim ts x→CS aY pb g c T tl .prim ts x)(j:∀ r x,D .una r x→r.length < ts.length→CS aY pb g c T tl .una r x):CS aY pb g c T tl .una ts x:=by
 intro w o h f;show Calls Tryz.prog 191 #[.pointer (some ⟨pb,0,none⟩)] w (FH aY pb g c T tl x w);have p:=Ab (AW h Bd);have s:(AM Bd ts=false∧D .prim ts x)∨(∃ t r y,ts=t ::r∧see Bd t=true∧D .una r y∧x=y.pre t.at_ 8):=by
  cases d
  case una_no hs d=>exact .inl ⟨hs,d⟩
  case una_bad t r q hs d=>exact .inr ⟨t,r,.bad q,rfl,hs,d,rfl⟩
  case una t r q e hs d=>exact .inr ⟨t,r,.ok e q,rfl,hs,d,rfl⟩
 clear d;rcases s with ⟨hs,d⟩ | ⟨t,r,y,rfl,hs,d,rfl⟩
 ·have k:=Ab hs;have l:=Ab (fun w' (a:Below w.heap.size w w')=>i _ d w' o (h.below a) (f.below a));clear h f i j hs d;go_enter Tryz.func191,Tryz.ntmps191
  go_wp2_with fail
  refine (Aa p).mono ?_;rintro e m ⟨rfl,a⟩;rw[Aa k];dsimp only;go_wp2_with fail
  refine (Aa l m a).mono ?_;intro r u b;obtain ⟨v,e,rfl,z,he⟩:=b.form;have n:=Ab (b.from (Ak.of_below a NLN));clear b;dsimp only;go_wp2_with fail
  go_ret2
  exact Aa n
 ·have k:=Ab (show AM Bd (t ::r)=true from hs);have l:=Ab (fun w' (a:Below w.heap.size w w')=>Qb hp 8 t r y w' o (h.below a) (f.below a) (j r y d (by simp)));clear h f i j hs d;go_enter Tryz.func191,Tryz.ntmps191
  go_wp2_with fail
  refine (Aa p).mono ?_;rintro e m ⟨rfl,a⟩;rw[Aa k];dsimp only;go_wp2_with fail
  refine (Aa l m a).mono ?_;intro r u b;obtain ⟨v,e,rfl,z,he⟩:=b.form;have n:=Ab (b.from (Ak.of_below a NLN));clear b;dsimp only;go_wp2_with fail
  go_ret2
  exact Aa n
end Go.Proofs.YtffkofkjpckmpaaGreatDoor
