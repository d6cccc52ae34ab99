/-
  Parse: operand, prefixed, negation, unary (written by mkgj.py). Own work.
-/
import Derived.Test.YtoplnhndilmlcaaGreatDoorMXAQ
namespace Go.Proofs.YtoplnhndilmlcaaGreatDoor
set_option maxRecDepth 100000
set_option maxHeartbeats 1600000
open Go.RowKit
set_option linter.unusedVariables false
variable {aY : Addr} {pb g c : Nat} {T : List Ae} {tl : Nat}
theorem WR (k:Nat)(m:List Ae)(x:PR)(d:D (.opd k) m x)(b:∀ nt x,D nt m x→nt.good→nt.rank < (NT.opd k).rank→CS aY pb g c T tl nt m x):CS aY pb g c T tl (.opd k) m x:=by
 intro w l h f;show Calls Tryz.prog 165 #[.pointer (some ⟨pb,0,none⟩),.int .i64 (k:Int)] w (EW aY pb g c T tl x w);cases d
 case opd1 d=>
  have i:=Ab (b _ _ d (.inr (.inl rfl)) (by decide) w l h f);clear h f b;go_enter Tryz.func165,Tryz.ntmps165
  go_wp2_with fail
  refine (Aa i).mono ?_;intro r n a;obtain ⟨v,e,rfl,o,he⟩:=a.form;have j:=Ab a;clear a;dsimp only;go_wp2_with fail
  go_ret2
  exact Aa j
 case opd2 d=>
  have i:=Ab (b _ _ d trivial (by decide) w l h f);clear h f b;go_enter Tryz.func165,Tryz.ntmps165
  go_wp2_with fail
  refine (Aa i).mono ?_;intro r n a;obtain ⟨v,e,rfl,o,he⟩:=a.form;have j:=Ab a;clear a;dsimp only;go_wp2_with fail
  go_ret2
  exact Aa j
 case opd4 d=>
  have i:=Ab (b _ _ d (.inr (.inr (.inl rfl))) (by decide) w l h f);clear h f b;go_enter Tryz.func165,Tryz.ntmps165
  go_wp2_with fail
  refine (Aa i).mono ?_;intro r n a;obtain ⟨v,e,rfl,o,he⟩:=a.form;have j:=Ab a;clear a;dsimp only;go_wp2_with fail
  go_ret2
  exact Aa j
 case opd5 d=>
  have i:=Ab (b _ _ d (.inr (.inr (.inr rfl))) (by decide) w l h f);clear h f b;go_enter Tryz.func165,Tryz.ntmps165
  go_wp2_with fail
  refine (Aa i).mono ?_;intro r n a;obtain ⟨v,e,rfl,o,he⟩:=a.form;have j:=Ab a;clear a;dsimp only;go_wp2_with fail
  go_ret2
  exact Aa j
 case opd6 d=>
  have i:=Ab (b _ _ d trivial (by decide) w l h f);clear h f b;go_enter Tryz.func165,Tryz.ntmps165
  go_wp2_with fail
  refine (Aa i).mono ?_;intro r n a;obtain ⟨v,e,rfl,o,he⟩:=a.form;have j:=Ab a;clear a;dsimp only;go_wp2_with fail
  go_ret2
  exact Aa j
def PR.pre (i:Nat) (op:Int):PR→PR
 | .ok e q=> .ok (.un i op e) q
 | .bad q=> .bad q
theorem OT (s: 16≤pb)(op:Int)(t:Ae)(r:List Ae)(x:PR)(w:World)(k:Nat)(h:Pp w pb g c T tl (t ::r) k)(i:Gy w aY)(j:CS aY pb g c T tl .neg r x):
  Calls Tryz.prog 171 #[.pointer (some ⟨pb,0,none⟩),.int .i64 op,.func (.func 169) #[.pointer (some ⟨pb,0,none⟩)] #[]] w (EW aY pb g c T tl (x.pre t.at_ op) w):=by
 have u:=Ab (Bm h);have y:Hid (∀ w' a,Pp w' pb g c T tl r a→Gy w' aY→Calls Tryz.prog 169 #[.pointer (some ⟨pb,0,none⟩)] w' (EW aY pb g c T tl x w')):=Ab (fun w' a z=>j w' a z);have A:=Ab i;have J:=Cp (.int .i64 t.kind) (.int .i64 t.num) (.string t.text) (.int .i64 (t.at_:Int));clear h i j;go_enter Tryz.func171,Tryz.ntmps171
 go_wp2_with fail
 refine (Aa u).mono ?_;rintro e B ⟨rfl,l,d⟩;dsimp only[Cf];go_wp2_with fail
 refine (Aa y B _ l ((Aa A).touch d s)).mono ?_;clear l;intro K L m;cases x with
 | bad q=>
  obtain ⟨⟨v,b,rfl,C,E⟩,f⟩:=m;rcases C with rfl | ⟨M,N,rfl⟩
  all_goals
   dsimp only[By];go_wp2_with fail
   go_ret2
   exact ⟨⟨.nilIface,b,rfl,.inl rfl,E⟩,d.trans f⟩
 | ok p q=>
  obtain ⟨⟨e,F,rfl,he,n,H⟩,f⟩:=m;obtain ⟨O,P,hf⟩:=e.form;have o:=Ab (And.intro he n);rw[hf];have I:=Ab hf;clear he n hf;dsimp only;go_wp2_with fail
  go_ret2
  exact ⟨⟨.un t.at_ op e,F,by rw[Ex.val,Aa I];rfl,⟨rfl,rfl,(Aa o).1⟩,(Aa o).2,H⟩,d.trans f⟩
theorem OV (s: 16≤pb)(op:Int)(t:Ae)(r:List Ae)(x:PR)(w:World)(k:Nat)(h:Pp w pb g c T tl (t ::r) k)(i:Gy w aY)(j:CS aY pb g c T tl .una r x):
  Calls Tryz.prog 171 #[.pointer (some ⟨pb,0,none⟩),.int .i64 op,.func (.func 170) #[.pointer (some ⟨pb,0,none⟩)] #[]] w (EW aY pb g c T tl (x.pre t.at_ op) w):=by
 have u:=Ab (Bm h);have y:Hid (∀ w' a,Pp w' pb g c T tl r a→Gy w' aY→Calls Tryz.prog 170 #[.pointer (some ⟨pb,0,none⟩)] w' (EW aY pb g c T tl x w')):=Ab (fun w' a z=>j w' a z);have A:=Ab i;have J:=Cp (.int .i64 t.kind) (.int .i64 t.num) (.string t.text) (.int .i64 (t.at_:Int));clear h i j;go_enter Tryz.func171,Tryz.ntmps171
 go_wp2_with fail
 refine (Aa u).mono ?_;rintro e B ⟨rfl,l,d⟩;dsimp only[Cf];go_wp2_with fail
 refine (Aa y B _ l ((Aa A).touch d s)).mono ?_;clear l;intro K L m;cases x with
 | bad q=>
  obtain ⟨⟨v,b,rfl,C,E⟩,f⟩:=m;rcases C with rfl | ⟨M,N,rfl⟩
  all_goals
   dsimp only[By];go_wp2_with fail
   go_ret2
   exact ⟨⟨.nilIface,b,rfl,.inl rfl,E⟩,d.trans f⟩
 | ok p q=>
  obtain ⟨⟨e,F,rfl,he,n,H⟩,f⟩:=m;obtain ⟨O,P,hf⟩:=e.form;have o:=Ab (And.intro he n);rw[hf];have I:=Ab hf;clear he n hf;dsimp only;go_wp2_with fail
  go_ret2
  exact ⟨⟨.un t.at_ op e,F,by rw[Ex.val,Aa I];rfl,⟨rfl,rfl,(Aa o).1⟩,(Aa o).2,H⟩,d.trans f⟩
theorem M4 (s: 16≤pb)(op:Int)(t:Ae)(r:List Ae)(x:PR)(w:World)(k:Nat)(h:Pp w pb g c T tl (t ::r) k)(i:Gy w aY)(j:CS aY pb g c T tl .encl r x):
  Calls Tryz.prog 171 #[.pointer (some ⟨pb,0,none⟩),.int .i64 op,.func (.func 174) #[.pointer (some ⟨pb,0,none⟩)] #[]] w (EW aY pb g c T tl (x.pre t.at_ op) w):=by
 have u:=Ab (Bm h);have y:Hid (∀ w' a,Pp w' pb g c T tl r a→Gy w' aY→Calls Tryz.prog 174 #[.pointer (some ⟨pb,0,none⟩)] w' (EW aY pb g c T tl x w')):=Ab (fun w' a z=>j w' a z);have A:=Ab i;have J:=Cp (.int .i64 t.kind) (.int .i64 t.num) (.string t.text) (.int .i64 (t.at_:Int));clear h i j;go_enter Tryz.func171,Tryz.ntmps171
 go_wp2_with fail
 refine (Aa u).mono ?_;rintro e B ⟨rfl,l,d⟩;dsimp only[Cf];go_wp2_with fail
 refine (Aa y B _ l ((Aa A).touch d s)).mono ?_;clear l;intro K L m;cases x with
 | bad q=>
  obtain ⟨⟨v,b,rfl,C,E⟩,f⟩:=m;rcases C with rfl | ⟨M,N,rfl⟩
  all_goals
   dsimp only[By];go_wp2_with fail
   go_ret2
   exact ⟨⟨.nilIface,b,rfl,.inl rfl,E⟩,d.trans f⟩
 | ok p q=>
  obtain ⟨⟨e,F,rfl,he,n,H⟩,f⟩:=m;obtain ⟨O,P,hf⟩:=e.form;have o:=Ab (And.intro he n);rw[hf];have I:=Ab hf;clear he n hf;dsimp only;go_wp2_with fail
  go_ret2
  exact ⟨⟨.un t.at_ op e,F,by rw[Ex.val,Aa I];rfl,⟨rfl,rfl,(Aa o).1⟩,(Aa o).2,H⟩,d.trans f⟩
theorem WS (u: 16≤pb)(b:List Ae)(x:PR)(d:D .neg b x)(j:∀ x,D .cmp b x→CS aY pb g c T tl .cmp b x)(k:∀ r x,D .neg r x→r.length < b.length→CS aY pb g c T tl .neg r x):CS aY pb g c T tl .neg b x:=by
 intro w p h i;show Calls Tryz.prog 169 #[.pointer (some ⟨pb,0,none⟩)] w (EW aY pb g c T tl x w);have s:=Ab (AD h FE);have z:(Aw FE b=false∧D .cmp b x)∨(∃ t r y,b=t ::r∧see FE t=true∧D .neg r y∧x=y.pre t.at_ 9):=by
  cases d
  case neg_no hs d=>exact .inl ⟨hs,d⟩
  case neg_bad t r q hs d=>exact .inr ⟨t,r,.bad q,rfl,hs,d,rfl⟩
  case neg t r q e hs d=>exact .inr ⟨t,r,.ok e q,rfl,hs,d,rfl⟩
 clear d;rcases z with ⟨hs,d⟩ | ⟨t,r,y,rfl,hs,d,rfl⟩
 ·have l:=Ab hs;have m:=Ab (fun w' (a:Below w.heap.size w w')=>j _ d w' p (h.below a) (i.below a));clear h i j k hs d;go_enter Tryz.func169,Tryz.ntmps169
  go_wp2_with fail
  refine (Aa s).mono ?_;rintro e n ⟨rfl,a⟩;rw[Aa l];dsimp only;go_wp2_with fail
  refine (Aa m n a).mono ?_;intro r A f;obtain ⟨v,e,rfl,B,he⟩:=f.form;have o:=Ab (f.from (Ai.of_below a NLN));clear f;dsimp only;go_wp2_with fail
  go_ret2
  exact Aa o
 ·have l:=Ab (show Aw FE (t ::r)=true from hs);have m:=Ab (fun w' (a:Below w.heap.size w w')=>OT u 9 t r y w' p (h.below a) (i.below a) (k r y d (by simp)));clear h i j k hs d;go_enter Tryz.func169,Tryz.ntmps169
  go_wp2_with fail
  refine (Aa s).mono ?_;rintro e n ⟨rfl,a⟩;rw[Aa l];dsimp only;go_wp2_with fail
  refine (Aa m n a).mono ?_;intro r A f;obtain ⟨v,e,rfl,B,he⟩:=f.form;have o:=Ab (f.from (Ai.of_below a NLN));clear f;dsimp only;go_wp2_with fail
  go_ret2
  exact Aa o
theorem WT (u: 16≤pb)(b:List Ae)(x:PR)(d:D .una b x)(j:∀ x,D .prim b x→CS aY pb g c T tl .prim b x)(k:∀ r x,D .una r x→r.length < b.length→CS aY pb g c T tl .una r x):CS aY pb g c T tl .una b x:=by
 intro w p h i;show Calls Tryz.prog 170 #[.pointer (some ⟨pb,0,none⟩)] w (EW aY pb g c T tl x w);have s:=Ab (AD h Cs);have z:(Aw Cs b=false∧D .prim b x)∨(∃ t r y,b=t ::r∧see Cs t=true∧D .una r y∧x=y.pre t.at_ 8):=by
  cases d
  case una_no hs d=>exact .inl ⟨hs,d⟩
  case una_bad t r q hs d=>exact .inr ⟨t,r,.bad q,rfl,hs,d,rfl⟩
  case una t r q e hs d=>exact .inr ⟨t,r,.ok e q,rfl,hs,d,rfl⟩
 clear d;rcases z with ⟨hs,d⟩ | ⟨t,r,y,rfl,hs,d,rfl⟩
 ·have l:=Ab hs;have m:=Ab (fun w' (a:Below w.heap.size w w')=>j _ d w' p (h.below a) (i.below a));clear h i j k hs d;go_enter Tryz.func170,Tryz.ntmps170
  go_wp2_with fail
  refine (Aa s).mono ?_;rintro e n ⟨rfl,a⟩;rw[Aa l];dsimp only;go_wp2_with fail
  refine (Aa m n a).mono ?_;intro r A f;obtain ⟨v,e,rfl,B,he⟩:=f.form;have o:=Ab (f.from (Ai.of_below a NLN));clear f;dsimp only;go_wp2_with fail
  go_ret2
  exact Aa o
 ·have l:=Ab (show Aw Cs (t ::r)=true from hs);have m:=Ab (fun w' (a:Below w.heap.size w w')=>OV u 8 t r y w' p (h.below a) (i.below a) (k r y d (by simp)));clear h i j k hs d;go_enter Tryz.func170,Tryz.ntmps170
  go_wp2_with fail
  refine (Aa s).mono ?_;rintro e n ⟨rfl,a⟩;rw[Aa l];dsimp only;go_wp2_with fail
  refine (Aa m n a).mono ?_;intro r A f;obtain ⟨v,e,rfl,B,he⟩:=f.form;have o:=Ab (f.from (Ai.of_below a NLN));clear f;dsimp only;go_wp2_with fail
  go_ret2
  exact Aa o
end Go.Proofs.YtoplnhndilmlcaaGreatDoor
