/-
  GR, GN, GO, GS. Own work.
-/
import Derived.Test.YtffkofkjpckmpaaGreatDoorMXAX
import Derived.Test.YtffkofkjpckmpaaGreatDoorMXAV
import Derived.Test.YtffkofkjpckmpaaGreatDoorMXBC
namespace Go.Proofs.YtffkofkjpckmpaaGreatDoor
set_option maxRecDepth 100000
set_option maxHeartbeats 1600000
open Go.RowKit
set_option linter.unusedVariables false
variable {aY : Addr} {pb g c : Nat} {T : List Ae} {tl : Nat}
theorem KA (t:Ae)(r:List Ae)(y:PR)(h4:t.kind=1∧y= .ok (.int t.at_ t.num) r∨t.kind=2∧y= .ok (.text t.at_ t.text) r∨t.kind=3∧y= .ok (.name t.at_ t.text) r):CS aY pb g c T tl .prim (t ::r) y:=by
 intro w k h i;show Calls Tryz.prog 194 #[.pointer (some ⟨pb,0,none⟩)] w (FH aY pb g c T tl y w);have m:=Ab (BN h);have j:=Ab h;have p:=Ab i;clear h i;rcases h4 with ⟨hk,rfl⟩ | ⟨hk,rfl⟩ | ⟨hk,rfl⟩
 case' inl=>have e1:(t.kind== 1)=true:=zI.2 hk
 case' inr.inl=>have e2:(t.kind== 2)=true:=zI.2 hk
 case' inr.inr=>
  have e3:(t.kind== 3)=true:=zI.2 hk;have e2:(t.kind== 2)=false:=zA.2 (by omega)
 all_goals
  try have e1:(t.kind== 1)=false:=zA.2 (by omega)
  clear hk;go_enter Tryz.func194,Tryz.ntmps194
  go_wp2_with fail
  refine (Aa m).mono ?_;rintro e l ⟨rfl,d⟩;dsimp only[Dc,Dw];have a:=d.alloc d.size (.cells #[.int .i64 t.kind,.int .i64 t.num,.string t.text,.int .i64 (t.at_:Int)] 42);have n:=Am.new l #[.int .i64 t.kind,.int .i64 t.num,.string t.text,.int .i64 (t.at_:Int)] 42;have q:=(Aa j).row.lt;have s:=d.size;go_wp2_with fail
  generalize l.alloc (.cells #[.int .i64 t.kind,.int .i64 t.num,.string t.text,.int .i64 (t.at_:Int)] 42)=u at *;have o:=Ab (Cc ((Aa j).below a));refine (Aa o).mono ?_;rintro e v ⟨rfl,f,b⟩;obtain ⟨x,c1,c2,c3,z⟩:=AU (n.touchP b (.inr (by omega)));dsimp only[Dc];go_wp2_with fail
  go_ret2
  first | exact ⟨⟨.int t.at_ t.num,_,rfl,⟨rfl,rfl⟩,trivial,f⟩,(Ak.of_below a NLN).trans b⟩ | exact ⟨⟨.text t.at_ t.text,_,rfl,⟨rfl,rfl⟩,trivial,f⟩,(Ak.of_below a NLN).trans b⟩ | exact ⟨⟨.name t.at_ t.text,_,rfl,⟨rfl,rfl⟩,trivial,f⟩,(Ak.of_below a NLN).trans b⟩
theorem GY {t:Ae}{s:List UInt8}(h:see s t=true):(t.kind== 1)=false∧(t.kind== 2)=false∧(t.kind== 3)=false:=by
 rcases GU h with e | e <;> rw[e] <;> decide
theorem VE {t:Ae}{s:List UInt8}(h:see s t=true)(u:List UInt8):(t.text.toList== u)=decide (s=u):=by
 rw[Mu h,zZ];show (s== u)=_;by_cases e:s=u
 ·rw[zR e,e];simp
 ·rw[zK e];simpa using e
theorem Yq (t:Ae)(r:List Ae)(hk:see BS t=true):CS aY pb g c T tl .prim (t ::r) (.ok (.bool t.at_ true) r):=by
 intro w k h f;show Calls Tryz.prog 194 #[.pointer (some ⟨pb,0,none⟩)] w (FH aY pb g c T tl (.ok (.bool t.at_ true) r) w);have o:=Ab (BN h);have i:=Ab h;have z:=Ab f;obtain ⟨e1,e2,e3⟩:=GY hk;have e4:(t.text.toList== [116,114,117,101])=true:=by rw[VE hk];decide
 have p:=Ab (fun s w' (q:Below w.heap.size w w')=>AW (h.below q) s);have u:=Ab (show AM BS (t ::r)=true from hk);clear h f hk;go_enter Tryz.func194,Tryz.ntmps194
 go_wp2_with fail
 refine (Aa o).mono ?_;rintro e j ⟨rfl,a⟩;dsimp only[Dc,Dw];have b:=a.alloc a.size (.cells #[.int .i64 t.kind,.int .i64 t.num,.string t.text,.int .i64 (t.at_:Int)] 42);have l:=Am.new j #[.int .i64 t.kind,.int .i64 t.num,.string t.text,.int .i64 (t.at_:Int)] 42;have A:=(Aa i).row.lt;have B:=a.size;go_wp2_with fail
 generalize j.alloc (.cells #[.int .i64 t.kind,.int .i64 t.num,.string t.text,.int .i64 (t.at_:Int)] 42)=v at *;refine (Aa p BS v b).mono ?_;rintro e C ⟨rfl,d⟩;rw[Aa u];have m:=b.trans (d.mono b.size);dsimp only;have x:=Ab (Cc ((Aa i).below m));obtain ⟨E,b1,b2,b3,F⟩:=AU (l.after d NLN);go_wp2_with fail
 refine (Aa x).mono ?_;rintro e H ⟨rfl,y,n⟩;obtain ⟨I,c1,c2,c3,J⟩:=AU ((l.after d NLN).touchP n (.inr (by omega)));dsimp only[Dc];go_wp2_with fail
 go_ret2
 exact ⟨⟨.bool t.at_ true,_,rfl,⟨rfl,rfl⟩,trivial,y⟩,(Ak.of_below m NLN).trans n⟩
theorem Yr (t:Ae)(r:List Ae)(hk:see Bl t=true):CS aY pb g c T tl .prim (t ::r) (.ok (.bool t.at_ false) r):=by
 intro w k h j;show Calls Tryz.prog 194 #[.pointer (some ⟨pb,0,none⟩)] w (FH aY pb g c T tl (.ok (.bool t.at_ false) r) w);have u:=Ab (BN h);have l:=Ab h;have E:=Ab j;obtain ⟨e1,e2,e3⟩:=GY hk;have e4:(t.text.toList== [116,114,117,101])=false:=by rw[VE hk];decide
 have m:=Ab (fun s w' (v:Below w.heap.size w w')=>AW (h.below v) s);have x:=Ab (show AM BS (t ::r)=false from Ag hk (by decide));have y:=Ab (show AM Bl (t ::r)=true from hk);clear h j hk;go_enter Tryz.func194,Tryz.ntmps194
 go_wp2_with fail
 refine (Aa u).mono ?_;rintro e n ⟨rfl,b⟩;dsimp only[Dc,Dw];have d:=b.alloc b.size (.cells #[.int .i64 t.kind,.int .i64 t.num,.string t.text,.int .i64 (t.at_:Int)] 42);have o:=Am.new n #[.int .i64 t.kind,.int .i64 t.num,.string t.text,.int .i64 (t.at_:Int)] 42;have F:=(Aa l).row.lt;have H:=b.size;go_wp2_with fail
 generalize n.alloc (.cells #[.int .i64 t.kind,.int .i64 t.num,.string t.text,.int .i64 (t.at_:Int)] 42)=z at *;refine (Aa m BS z d).mono ?_;rintro e A ⟨rfl,a⟩;rw[Aa x];have f:=d.trans (a.mono d.size);dsimp only;go_wp2_with fail
 refine (Aa m Bl A f).mono ?_;rintro e I ⟨rfl,i⟩;rw[Aa y];have p:=f.trans (i.mono f.size);dsimp only;have B:=Ab (Cc ((Aa l).below p));obtain ⟨J,b1,b2,b3,K⟩:=AU (o.after (a.trans (i.mono a.size)) NLN);go_wp2_with fail
 refine (Aa B).mono ?_;rintro e L ⟨rfl,C,q⟩;obtain ⟨M,c1,c2,c3,N⟩:=AU ((o.after (a.trans (i.mono a.size)) NLN).touchP q (.inr (by omega)));dsimp only[Dc];go_wp2_with fail
 go_ret2
 exact ⟨⟨.bool t.at_ false,_,rfl,⟨rfl,rfl⟩,trivial,C⟩,(Ak.of_below p NLN).trans q⟩
theorem OV (hp: 17≤pb)(t:Ae)(r:List Ae)(x:PR)(hk:see Cb t=true)(n:CS aY pb g c T tl .encl r x):CS aY pb g c T tl .prim (t ::r) (x.pre t.at_ 10):=by
 intro w k h b;show Calls Tryz.prog 194 #[.pointer (some ⟨pb,0,none⟩)] w (FH aY pb g c T tl (x.pre t.at_ 10) w);have q:=Ab (BN h);have u:=Ab h;have M:=Ab b;obtain ⟨e1,e2,e3⟩:=GY hk;have y:Hid (∀ w',Below w.heap.size w w'→Calls Tryz.prog 192 #[.pointer (some ⟨pb,0,none⟩),.int .i64 10,.func (.func 195) #[.pointer (some ⟨pb,0,none⟩)] #[]] w' (FH aY pb g c T tl (x.pre t.at_ 10) w')):=Ab (fun w' a=>Od hp 10 t r x w' k (h.below a) (b.below a) n);have d:=Ab (fun s w' (a:Below w.heap.size w w')=>AW (h.below a) s);have z:=Ab (show AM BS (t ::r)=false from Ag hk (by decide));have A:=Ab (show AM Bl (t ::r)=false from Ag hk (by decide));have B:=Ab (show AM Cb (t ::r)=true from hk);clear h b hk n;go_enter Tryz.func194,Tryz.ntmps194
 go_wp2_with fail
 refine (Aa q).mono ?_;rintro e o ⟨rfl,f⟩;dsimp only[Dc,Dw];have i:=f.alloc f.size (.cells #[.int .i64 t.kind,.int .i64 t.num,.string t.text,.int .i64 (t.at_:Int)] 42);have N:=Am.new o #[.int .i64 t.kind,.int .i64 t.num,.string t.text,.int .i64 (t.at_:Int)] 42;have O:=(Aa u).row.lt;have P:=f.size;go_wp2_with fail
 generalize o.alloc (.cells #[.int .i64 t.kind,.int .i64 t.num,.string t.text,.int .i64 (t.at_:Int)] 42)=C at *;refine (Aa d BS C i).mono ?_;rintro e E ⟨rfl,F⟩;rw[Aa z];have j:=i.trans (F.mono i.size);dsimp only;go_wp2_with fail
 refine (Aa d Bl E j).mono ?_;rintro e H ⟨rfl,I⟩;rw[Aa A];have l:=j.trans (I.mono j.size);dsimp only;go_wp2_with fail
 refine (Aa d Cb H l).mono ?_;rintro e J ⟨rfl,K⟩;rw[Aa B];have p:=l.trans (K.mono l.size);dsimp only;go_wp2_with fail
 refine (Aa y J p).mono ?_;intro Q R m;obtain ⟨v,e,rfl,S,he⟩:=m.form;have L:=Ab (m.from (Ak.of_below p NLN));clear m;dsimp only;go_wp2_with fail
 go_ret2
 exact Aa L
theorem Ys (hp: 17≤pb)(t:Ae)(r:List Ae)(x:PR)(hk:see AH t=true)(o:CS aY pb g c T tl .encl (t ::r) x):CS aY pb g c T tl .prim (t ::r) (x):=by
 intro w k h d;show Calls Tryz.prog 194 #[.pointer (some ⟨pb,0,none⟩)] w (FH aY pb g c T tl (x) w);have u:=Ab (BN h);have y:=Ab h;have Q:=Ab d;obtain ⟨e1,e2,e3⟩:=GY hk;have z:Hid (∀ w',Below w.heap.size w w'→Calls Tryz.prog 195 #[.pointer (some ⟨pb,0,none⟩)] w' (FH aY pb g c T tl (x) w')):=Ab (fun w' a=>o w' k (h.below a) (d.below a));have b:=Ab (fun s w' (a:Below w.heap.size w w')=>AW (h.below a) s);have A:=Ab (show AM BS (t ::r)=false from Ag hk (by decide));have B:=Ab (show AM Bl (t ::r)=false from Ag hk (by decide));have C:=Ab (show AM Cb (t ::r)=false from Ag hk (by decide));have E:=Ab (show AM AH (t ::r)=true from hk);clear h d hk o;go_enter Tryz.func194,Tryz.ntmps194
 go_wp2_with fail
 refine (Aa u).mono ?_;rintro e p ⟨rfl,f⟩;dsimp only[Dc,Dw];have i:=f.alloc f.size (.cells #[.int .i64 t.kind,.int .i64 t.num,.string t.text,.int .i64 (t.at_:Int)] 42);have R:=Am.new p #[.int .i64 t.kind,.int .i64 t.num,.string t.text,.int .i64 (t.at_:Int)] 42;have S:=(Aa y).row.lt;have U:=f.size;go_wp2_with fail
 generalize p.alloc (.cells #[.int .i64 t.kind,.int .i64 t.num,.string t.text,.int .i64 (t.at_:Int)] 42)=F at *;refine (Aa b BS F i).mono ?_;rintro e H ⟨rfl,I⟩;rw[Aa A];have j:=i.trans (I.mono i.size);dsimp only;go_wp2_with fail
 refine (Aa b Bl H j).mono ?_;rintro e J ⟨rfl,K⟩;rw[Aa B];have l:=j.trans (K.mono j.size);dsimp only;go_wp2_with fail
 refine (Aa b Cb J l).mono ?_;rintro e L ⟨rfl,M⟩;rw[Aa C];have m:=l.trans (M.mono l.size);dsimp only;go_wp2_with fail
 refine (Aa b AH L m).mono ?_;rintro e N ⟨rfl,O⟩;rw[Aa E];have q:=m.trans (O.mono m.size);dsimp only;go_wp2_with fail
 refine (Aa z N q).mono ?_;intro V W n;obtain ⟨v,e,rfl,X,he⟩:=n.form;have P:=Ab (n.from (Ak.of_below q NLN));clear n;dsimp only;go_wp2_with fail
 go_ret2
 exact Aa P
theorem MB (hp: 17≤pb)(t:Ae)(r:List Ae)(hk:see Ch t=true):CS aY pb g c T tl .prim (t ::r) (Kz t (Ga r)):=by
 intro w k h d;show Calls Tryz.prog 194 #[.pointer (some ⟨pb,0,none⟩)] w (FH aY pb g c T tl (Kz t (Ga r)) w);have u:=Ab (BN h);have x:=Ab h;have S:=Ab d;obtain ⟨e1,e2,e3⟩:=GY hk;have y:Hid (∀ w',Below w.heap.size w w'→Calls Tryz.prog 196 #[.pointer (some ⟨pb,0,none⟩)] w' (FH aY pb g c T tl (Kz t (Ga r)) w')):=Ab (fun w' b=>Yp hp t r w' k (h.below b) (d.below b));have a:=Ab (fun s w' (b:Below w.heap.size w w')=>AW (h.below b) s);have z:=Ab (show AM BS (t ::r)=false from Ag hk (by decide));have A:=Ab (show AM Bl (t ::r)=false from Ag hk (by decide));have B:=Ab (show AM Cb (t ::r)=false from Ag hk (by decide));have C:=Ab (show AM AH (t ::r)=false from Ag hk (by decide));have E:=Ab (show AM Ch (t ::r)=true from hk);clear h d hk;go_enter Tryz.func194,Tryz.ntmps194
 go_wp2_with fail
 refine (Aa u).mono ?_;rintro e p ⟨rfl,f⟩;dsimp only[Dc,Dw];have i:=f.alloc f.size (.cells #[.int .i64 t.kind,.int .i64 t.num,.string t.text,.int .i64 (t.at_:Int)] 42);have U:=Am.new p #[.int .i64 t.kind,.int .i64 t.num,.string t.text,.int .i64 (t.at_:Int)] 42;have V:=(Aa x).row.lt;have W:=f.size;go_wp2_with fail
 generalize p.alloc (.cells #[.int .i64 t.kind,.int .i64 t.num,.string t.text,.int .i64 (t.at_:Int)] 42)=F at *;refine (Aa a BS F i).mono ?_;rintro e H ⟨rfl,I⟩;rw[Aa z];have j:=i.trans (I.mono i.size);dsimp only;go_wp2_with fail
 refine (Aa a Bl H j).mono ?_;rintro e J ⟨rfl,K⟩;rw[Aa A];have l:=j.trans (K.mono j.size);dsimp only;go_wp2_with fail
 refine (Aa a Cb J l).mono ?_;rintro e L ⟨rfl,M⟩;rw[Aa B];have m:=l.trans (M.mono l.size);dsimp only;go_wp2_with fail
 refine (Aa a AH L m).mono ?_;rintro e N ⟨rfl,O⟩;rw[Aa C];have n:=m.trans (O.mono m.size);dsimp only;go_wp2_with fail
 refine (Aa a Ch N n).mono ?_;rintro e P ⟨rfl,Q⟩;rw[Aa E];have q:=n.trans (Q.mono n.size);dsimp only;go_wp2_with fail
 refine (Aa y P q).mono ?_;intro X Y o;obtain ⟨v,e,rfl,Z,he⟩:=o.form;have R:=Ab (o.from (Ak.of_below q NLN));clear o;dsimp only;go_wp2_with fail
 go_ret2
 exact Aa R
theorem OW (ts:List Ae)(h1:(Dw tl ts).kind≠1)(h2:(Dw tl ts).kind≠2)(h3:(Dw tl ts).kind≠3)(h4:AM BS ts=false)(h5:AM Bl ts=false)(h6:AM Cb ts=false)(h7:AM AH ts=false)(h8:AM Ch ts=false):CS aY pb g c T tl .prim ts (.bad ts):=by
 intro w k h f;show Calls Tryz.prog 194 #[.pointer (some ⟨pb,0,none⟩)] w (FH aY pb g c T tl (.bad ts) w);have r:=Ab (BN h);have u:=Ab h;have R:=Ab f;have e1:((Dw tl ts).kind== 1)=false:=zA.2 h1;have e2:((Dw tl ts).kind== 2)=false:=zA.2 h2;have e3:((Dw tl ts).kind== 3)=false:=zA.2 h3;have v:=Ab h4;have x:=Ab h5;have y:=Ab h6;have z:=Ab h7;have A:=Ab h8;have a:=Ab (fun s w' (d:Below w.heap.size w w')=>AW (h.below d) s);have B:=Ab (fun w' (d:Below w.heap.size w w')=>EZ (h.below d) (f.below d));clear h f h1 h2 h3 h4 h5 h6 h7 h8;go_enter Tryz.func194,Tryz.ntmps194
 go_wp2_with fail
 refine (Aa r).mono ?_;rintro e p ⟨rfl,i⟩;generalize Dw tl ts=t at e1 e2 e3;dsimp only[Dc];have j:=i.alloc i.size (.cells #[.int .i64 t.kind,.int .i64 t.num,.string t.text,.int .i64 (t.at_:Int)] 42);have S:=Am.new p #[.int .i64 t.kind,.int .i64 t.num,.string t.text,.int .i64 (t.at_:Int)] 42;have U:=(Aa u).row.lt;have V:=i.size;go_wp2_with fail
 generalize p.alloc (.cells #[.int .i64 t.kind,.int .i64 t.num,.string t.text,.int .i64 (t.at_:Int)] 42)=C at *;refine (Aa a BS C j).mono ?_;rintro e E ⟨rfl,F⟩;rw[Aa v];have l:=j.trans (F.mono j.size);dsimp only;go_wp2_with fail
 refine (Aa a Bl E l).mono ?_;rintro e H ⟨rfl,I⟩;rw[Aa x];have m:=l.trans (I.mono l.size);dsimp only;go_wp2_with fail
 refine (Aa a Cb H m).mono ?_;rintro e J ⟨rfl,K⟩;rw[Aa y];have n:=m.trans (K.mono m.size);dsimp only;go_wp2_with fail
 refine (Aa a AH J n).mono ?_;rintro e L ⟨rfl,M⟩;rw[Aa z];have o:=n.trans (M.mono n.size);dsimp only;go_wp2_with fail
 refine (Aa a Ch L o).mono ?_;rintro e N ⟨rfl,O⟩;rw[Aa A];have q:=o.trans (O.mono o.size);dsimp only;go_wp2_with fail
 refine (Aa B N q).mono ?_;rintro e W ⟨b,rfl,P,Q⟩;dsimp only[Ck];go_wp2_with fail
 go_ret2
 exact ⟨⟨.nilIface,b,rfl,.inl rfl,P⟩,(Ak.of_below q NLN).allP Q⟩
theorem WC (hp: 17≤pb)(ts:List Ae)(x:PR)(d:D .prim ts x)(a:∀ r x,D .encl r x→r.length≤ts.length→CS aY pb g c T tl .encl r x):CS aY pb g c T tl .prim ts x:=by
 cases d with
 |num h=>exact KA _ _ _ (.inl ⟨h,rfl⟩)
 |text h=>exact KA _ _ _ (.inr (.inl ⟨h,rfl⟩))
 |name h=>exact KA _ _ _ (.inr (.inr ⟨h,rfl⟩))
 |tru h=>exact Yq _ _ h
 |fls h=>exact Yr _ _ h
 |@size_bad t r q h d=>exact OV hp t r _ h (a r _ d (by simp))
 |@size t r q e h d=>exact OV hp t r _ h (a r _ d (by simp))
 |@par t r x h d=>exact Ys hp t r x h (a _ _ d NLN)
 |@set_bad t r q b h hs=>
  have e:Kz t (Ga r)= .bad q:=by rw[hs];rfl
  rw[← e];exact MB hp t r h
 |@set_end t r q b h hs hq=>
  have e:Kz t (Ga r)= .bad q:=by
   rw[hs,Kz,if_pos rfl];cases q with
   |nil=>rfl
   |cons u q=>exact if_neg (by rw[show see Bp u=false from hq];decide)
  rw[← e];exact MB hp t r h
 |@set t u r q b h hs hq=>
  have e:Kz t (Ga r)= .ok (.set t.at_ b) q:=by rw[hs,Kz,if_pos rfl];exact if_pos hq
  rw[← e];exact MB hp t r h
 |prim_nil=>exact OW [] (show (0 :Int)≠1 by decide) (show (0 :Int)≠2 by decide) (show (0 :Int)≠3 by decide) rfl rfl rfl rfl rfl
 |prim_no h1 h2 h3 h4 h5 h6 h7 h8=>exact OW _ h1 h2 h3 h4 h5 h6 h7 h8
end Go.Proofs.YtffkofkjpckmpaaGreatDoor
namespace Go.Proofs.YtffkofkjpckmpaaGreatDoor
set_option maxRecDepth 100000
set_option maxHeartbeats 3200000
open Go.RowKit
set_option linter.unusedVariables false
variable {aY : Addr} {pb g c : Nat} {T : List Ae} {tl : Nat}
theorem Yn (hp: 17≤pb)(ts:List Ae)(x:PR)(d:D .cmp ts x)(k:∀ r x,D (.opd 4) r x→r.length≤ts.length→CS aY pb g c T tl (.opd 4) r x):CS aY pb g c T tl .cmp ts x:=by
 intro w C h l;show Calls Tryz.prog 193 #[.pointer (some ⟨pb,0,none⟩)] w (FH aY pb g c T tl x w);have Q:(∃ q,D (.opd 4) ts (.bad q)∧x= .bad q)∨(∃ a r,D (.opd 4) ts (.ok a r)∧PQ 4 r=none∧x= .ok a r)∨(∃ a t r op y,D (.opd 4) ts (.ok a (t ::r))∧BZ 4 t=some op∧D (.opd 4) r y∧x=y.two t.at_ op a):=by
  cases d with
  |cmp_bad d=>exact .inl ⟨_,d,rfl⟩
  |cmp_one d h=>exact .inr (.inl ⟨_,_,d,h,rfl⟩)
  |cmp_two_bad d h d2=>exact .inr (.inr ⟨_,_,_,_,_,d,h,d2,rfl⟩)
  |cmp_two d h d2=>exact .inr (.inr ⟨_,_,_,_,_,d,h,d2,rfl⟩)
 have E:=Ab l;clear d;rcases Q with ⟨q,d,rfl⟩ | ⟨a,r,d,L,rfl⟩ | ⟨a,t,r,op,y,d,M,d2,rfl⟩
 ·have u:Hid (Calls Tryz.prog 186 #[.pointer (some ⟨pb,0,none⟩),.int .i64 4] w (FH aY pb g c T tl (.bad q) w)):=Ab (k _ _ d NLN w C h l);clear h l k d;go_enter Tryz.func193,Tryz.ntmps193
  go_wp2_with fail
  refine (Aa u).mono ?_;rintro z f ⟨⟨v,b,rfl,N,R⟩,i⟩;rcases N with rfl | ⟨aa,ab,rfl⟩
  all_goals
   dsimp only[Ck];go_wp2_with fail
   go_ret2
   exact ⟨⟨.nilIface,b,rfl,.inl rfl,R⟩,i⟩
 ·have u:Hid (Calls Tryz.prog 186 #[.pointer (some ⟨pb,0,none⟩),.int .i64 4] w (FH aY pb g c T tl (.ok a r) w)):=Ab (k _ _ d NLN w C h l);have F:=Ab (show BZ 4 (Dw tl r)=none by rw[← VD];exact L);clear h l k d L;go_enter Tryz.func193,Tryz.ntmps193
  go_wp2_with fail
  refine (Aa u).mono ?_;rintro z f ⟨⟨j,H,rfl,he,A,m⟩,i⟩;have I:Hid (Calls Tryz.prog 187 #[.pointer (some ⟨pb,0,none⟩),.int .i64 4] f fun e w'=>OpA 4 (Dw tl r) e∧Below f.heap.size f w'):=Ab (Fg (aY:=aY) 4 m ((Aa E).touch i hp));have S:=Ab m;have O:=Ab (And.intro he A);obtain ⟨U,V,o⟩:=j.form;have W:=Ab o;rw[o];clear he A m o;dsimp only;go_wp2_with fail
  refine (Aa I).mono ?_;rintro z X ⟨B,p⟩;rw[OpA,Aa F] at B;subst B;dsimp only;go_wp2_with fail
  go_ret2
  have n:=p.alloc p.size (.cells #[.int .i64 0,.int .i64 0,.string ⟨#[]⟩] 227);exact ⟨⟨j,H,by rw[Aa W];rfl,(Aa O).1,j.own_touch (Ak.of_below n NLN) (Aa O).2,(Aa S).below n⟩,i.allP n⟩
 ·have u:Hid (Calls Tryz.prog 186 #[.pointer (some ⟨pb,0,none⟩),.int .i64 4] w (FH aY pb g c T tl (.ok a (t ::r)) w)):=Ab (k _ _ d NLN w C h l);have Y:=Ab (k r y d2 (by have:=d.less rfl;simp at this;omega));have F:=Ab (show BZ 4 (Dw tl (t ::r))=some op from M);clear h l k d d2 M;go_enter Tryz.func193,Tryz.ntmps193
  go_wp2_with fail
  refine (Aa u).mono ?_;rintro z f ⟨⟨j,H,rfl,he,A,m⟩,i⟩;have I:Hid (Calls Tryz.prog 187 #[.pointer (some ⟨pb,0,none⟩),.int .i64 4] f fun e w'=>OpA 4 (Dw tl (t ::r)) e∧Below f.heap.size f w'):=Ab (Fg (aY:=aY) 4 m ((Aa E).touch i hp));have P:Hid (∀ w' s,Below f.heap.size f w'→Calls Tryz.prog 188 #[.pointer (some ⟨pb,0,none⟩),.agg #[.int .i64 op,.int .i64 4,.string s],j.val] w' (FH aY pb g c T tl (y.two t.at_ op a) w')):=Ab (fun w' s J=>Lp hp 4 op s j a t r y w' H (m.below J) (((Aa E).touch i hp).below J) he (j.own_touch (Ak.of_below J NLN) A) (Aa Y));obtain ⟨U,V,o⟩:=j.form;rw[o] at P ⊢;clear he A m o;dsimp only;go_wp2_with fail
  refine (Aa I).mono ?_;rintro z X ⟨B,p⟩;rw[OpA,Aa F] at B;obtain ⟨s,rfl⟩:=B;dsimp only;have n:=p.alloc p.size (.cells #[.int .i64 op,.int .i64 4,.string s] 227);go_wp2_with fail
  refine (Aa P _ s n).mono ?_;intro z ac K;obtain ⟨v,e,rfl,N,he⟩:=K.form;have Z:=Ab (K.from (i.allP n));clear K n p;dsimp only;go_wp2_with fail
  go_ret2
  exact Aa Z
end Go.Proofs.YtffkofkjpckmpaaGreatDoor
namespace Go.Proofs.YtffkofkjpckmpaaGreatDoor
set_option maxRecDepth 100000
set_option maxHeartbeats 6400000
open Go.RowKit
set_option linter.unusedVariables false
variable {aY : Addr} {pb g c : Nat} {T : List Ae} {tl : Nat}
def wd3:Nat→List UInt8
 | 0=>DO
 | 1=>BE
 |_=>AK
def Cg (i0:Nat) (x:PR):Nat→List Pt→List Ae→Prop
 | 0,L,r=>∃ a b d,L= [a,b,d]∧x= .ok (.ite i0 a b d) r
 |n+1,L,r=>∃ y,D (.beh (wd3 (2 - n))) r y∧(∀ q,y= .bad q→x= .bad q)∧∀ p q,y= .ok p q→Cg i0 x n (L ++ [p]) q∧q.length≤r.length
theorem D.choice {t:Ae}{r:List Ae}{x:PR}(d:D .expr (t ::r) x)(h:see DO t=true):Cg t.at_ x 3 [] (t ::r):=by
 cases d with
 |expr_no a d=>rw[AM,h] at a;cases a
 |expr_if1 _ d1=>exact ⟨_,d1,fun q e=>(by cases e;rfl),fun p q e=>by cases e⟩
 |expr_if2 _ d1 d2=>exact ⟨_,d1,fun q e=>(by cases e),fun p q e=>by cases e;exact ⟨⟨_,d2,fun q e=>(by cases e;rfl),fun p q e=>by cases e⟩,d1.len⟩⟩
 |expr_if3 _ d1 d2 d3=>exact ⟨_,d1,fun q e=>(by cases e),fun p q e=>by cases e;exact ⟨⟨_,d2,fun q e=>(by cases e),fun p q e=>by cases e;exact ⟨⟨_,d3,fun q e=>(by cases e;rfl),fun p q e=>by cases e⟩,d2.len⟩⟩,d1.len⟩⟩
 |expr_if _ d1 d2 d3=>exact ⟨_,d1,fun q e=>(by cases e),fun p q e=>by cases e;exact ⟨⟨_,d2,fun q e=>(by cases e),fun p q e=>by cases e;exact ⟨⟨_,d3,fun q e=>(by cases e),fun p q e=>by cases e;exact ⟨⟨_,_,_,rfl,rfl⟩,d3.len⟩⟩,d2.len⟩⟩,d1.len⟩⟩
def Ry (E:List Ex):Array Value:=(E.map Ex.val ++List.replicate (3 - E.length) Value.nilIface).toArray
def MA (lo:Nat) (w:World):List Ex→List Pt→Prop
 | [], []=>True
 |e ::E,p ::L=>Er e p∧e.own lo w∧MA lo w E L
 |_,_=>False
theorem MA.touch {a:Nat}{w w':World}(T:Ak a (a+1) w w'):∀ (b:List Ex) (L:List Pt),MA (a+1) w b L→MA (a+1) w' b L
 | [], [],_=>trivial
 |e ::b,p ::L,h=>⟨h.1,e.own_touch T h.2.1,MA.touch T b L h.2.2⟩
 | [],_ ::_,h=>h
 |_ ::_, [],h=>h
theorem MA.snoc {lo:Nat}{w:World}{e:Ex}{p:Pt}(he:Er e p)(b:e.own lo w):∀ (a:List Ex) (L:List Pt),MA lo w a L→MA lo w (a ++ [e]) (L ++ [p])
 | [], [],_=>⟨he,b,trivial⟩
 |_ ::a,_ ::L,h=>⟨h.1,h.2.1,MA.snoc he b a L h.2.2⟩
 | [],_ ::_,h=>absurd h id
 |_ ::_, [],h=>absurd h id
theorem Ex.own_set {lo:Nat}{w:World}{b:Nat}{cs:Array Value}{f:TypeId}(R:Am w b cs f)(d:f≠9)(j:Nat)(v:Value):∀ (e:Ex),e.own lo w→e.own lo (w.setCell ⟨b,j,none⟩ v)
 | .int ..,h=>h
 | .text ..,h=>h
 | .bool ..,h=>h
 | .set _ a n c ss,h=>by
  have g:w.ownsRow lo 9 1 (.slice a n c) n (ss.map Value.string):=h;exact Ac g (fun q hq=>heap_setCell_other w ⟨b,j,none⟩ q v (fun e=>Ad R g d (by rw[hq,e])))
 | .name ..,h=>h
 | .attr ..,h=>h
 | .lett ..,h=>h
 | .un _ _ k,h=>k.own_set R d j v h
 | .bin _ _ l r,h=>⟨l.own_set R d j v h.1,r.own_set R d j v h.2⟩
 | .ite _ c t e,h=>⟨c.own_set R d j v h.1,t.own_set R d j v h.2.1,e.own_set R d j v h.2.2⟩
theorem MA.setP {lo:Nat}{w:World}{b:Nat}{cs:Array Value}{c:TypeId}(R:Am w b cs c)(d:c≠9)(j:Nat)(v:Value):∀ (a:List Ex) (L:List Pt),MA lo w a L→MA lo (w.setCell ⟨b,j,none⟩ v) a L
 | [], [],_=>trivial
 |e ::a,p ::L,h=>⟨h.1,e.own_set R d j v h.2.1,MA.setP R d j v a L h.2.2⟩
 | [],_ ::_,h=>h
 |_ ::_, [],h=>h
theorem Pp.setP {w:World}{k:Nat}{ts:List Ae}(h:Pp w pb g c T tl ts k){b:Nat}{cs:Array Value}{d:TypeId}(R:Am w b cs d)(h1:d≠97)(h2:d≠42)(j:Nat)(v:Value):Pp (w.setCell ⟨b,j,none⟩ v) pb g c T tl ts k:=by
 have f:pb≠b:=fun e=>by
  have i:=R.out;have a:=h.row.out;rw[e,i] at a;injection a with a;injection a with _ a;exact h1 a
 exact ⟨⟨(heap_setCell_other w ⟨b,j,none⟩ pb v f).trans h.row.out⟩,Ac h.toks (fun q hq=>heap_setCell_other w ⟨b,j,none⟩ q v (fun e=>Ad R h.toks h2 (by rw[hq,e]))),h.drop,h.len,h.small⟩
theorem Adj (w:World):(Instr.index 272 (.agg #[.string ⟨#[105,102]⟩,.string ⟨#[116,104,101,110]⟩,.string ⟨#[101,108,115,101]⟩]) (.int .i64 0)).run Tryz.prog w= .ok (.string ⟨#[105,102]⟩) w:=by kernel_rfl
theorem Adk (w:World):(Instr.index 272 (.agg #[.string ⟨#[105,102]⟩,.string ⟨#[116,104,101,110]⟩,.string ⟨#[101,108,115,101]⟩]) (.int .i64 1)).run Tryz.prog w= .ok (.string ⟨#[116,104,101,110]⟩) w:=by kernel_rfl
theorem Adl (w:World):(Instr.index 272 (.agg #[.string ⟨#[105,102]⟩,.string ⟨#[116,104,101,110]⟩,.string ⟨#[101,108,115,101]⟩]) (.int .i64 2)).run Tryz.prog w= .ok (.string ⟨#[101,108,115,101]⟩) w:=by kernel_rfl
theorem Ue (hp: 17≤pb)(t:Ae)(r:List Ae)(x:PR)(hc:Cg t.at_ x 3 [] (t ::r))(ay:∀ s ap x,D (.beh s) ap x→ap.length≤r.length+1→CS aY pb g c T tl (.beh s) ap x)(w:World)(k:Nat)(h:Pp w pb g c T tl (t ::r) k)(az:Gy w aY):
  Calls Tryz.prog 177 #[.pointer (some ⟨pb,0,none⟩)] w (FH aY pb g c T tl x w):=by
 have Z:=Ab (BN h);have aq:=Ab ay;have aa:=Ab hc;have ab:=Ab h;have ar:=Ab az;have aO:=CM (.int .i64 t.kind) (.int .i64 t.num) (.string t.text) (.int .i64 (t.at_:Int));have aP:=h.row.lt;clear ay hc h az;go_enter Tryz.func177,Tryz.ntmps177
 go_wp2_with fail
 refine (Aa Z).mono ?_;rintro e m ⟨rfl,au⟩;dsimp only[Dc,Dw];have aQ:=au.size;have av:=au.alloc au.size (.cells #[.nilIface,.nilIface,.nilIface] 271);have aA:=Am.new m #[.nilIface,.nilIface,.nilIface] 271;go_wp2_with fail
 go_loopw [14] (fun aw wr=>∃ (i:Nat) (z:List Ex) (L:List Pt) (q:List Ae) (Y:Nat),aw= .int .i64 i∧i≤3∧z.length=i∧MA (pb+1) wr z L∧Cg t.at_ x (3 - i) L q∧q.length≤r.length+1∧Pp wr pb g c T tl q Y∧Am wr m.heap.size (Ry z) 271∧Ak pb (pb+1) w wr) (fun aw _=>3 - (intOf aw).toNat)
 case atStart=>exact ⟨0, [], [],t ::r,k,rfl,by omega,rfl,trivial,Aa aa,by simp,(Aa ab).below av,aA,Ak.of_below av NLN⟩
 case round=>
  clear aA av;obtain ⟨i,z,L,q,Y,rfl,hi,I,J,u,hq,K,H,E⟩:=hrel;have ax:pb+1≤m.heap.size:=by omega
  have aH:i=0∨i=1∨i=2∨i=3:=by omega
  rcases aH with rfl | rfl | rfl | rfl
  ·have aI:z= []:=z7 I;subst aI;obtain ⟨y,M,N,O⟩:∃ y,D (.beh (wd3 0)) q y∧(∀ f,y= .bad f→x= .bad f)∧∀ p f,y= .ok p f→Cg t.at_ x 2 (L ++ [p]) f∧f.length≤q.length:=u;have P:Hid (Calls Tryz.prog 149 #[.pointer (some ⟨pb,0,none⟩),.string (AB (wd3 0))] wr (FH aY pb g c T tl y wr)):=Ab (Aa aq _ q y M hq wr Y K ((Aa ar).touch E hp));have A:=Ab (And.intro N O);have F:=Ab J;have ac:=Ab hq;clear I J hq M N O K hi aa ab Z;have aB:=Adj;go_wp2_with fail
   refine (Aa P).mono ?_;intro aC ad Q;cases y with
   |bad f=>
    obtain ⟨⟨v,b,rfl,ae,af⟩,o⟩:=Q;have V:=Ab ((Aa A).1 f rfl);rcases ae with rfl | ⟨aD,aE,rfl⟩
    all_goals
     dsimp only[Ck];go_wp2_with fail
     go_ret2
     rw[Aa V];exact ⟨⟨.nilIface,b,rfl,.inl rfl,af⟩,E.trans o⟩
   |ok p f=>
    obtain ⟨⟨e,ag,rfl,he,R,S⟩,o⟩:=Q;obtain ⟨u,hl⟩:=(Aa A).2 p f rfl;have l:=H.touchP o (.inr ax);have ah:=Ab (MA.snoc he R _ _ (MA.touch o _ _ (Aa F)));have U:=Ab (And.intro u hl);have W:=Ab S;obtain ⟨B,C,hf⟩:=e.form;have ai:=Ab hf;rw[hf];clear he R S hf u hl H A F P;have aF:=fun j=>l.frozen j;have aj:=l.cell 0;have X:=l.cell 0;have q2:=l.cell 1;have q3:=l.cell 2;simp only[Ry,Z1,List.length_nil,List.nil_append,zn,zh,zc,Nat.reduceSub,List.replicate] at aj X q2 q3;dsimp only;go_wp2_with fail
    have ak:=l.set 0 (.iface B C);have al:=(E.trans o).setNewP ⟨m.heap.size,0,none⟩ (.iface B C) (by show w.heap.size≤m.heap.size;omega);have aG:=Ak.setCell (lo:=m.heap.size) (hi:=m.heap.size+1) ad ⟨m.heap.size,0,none⟩ (.iface B C) NLN (Nat.lt_succ_self _);go_roundw
    case rel=>exact ⟨1, [e],_,f,ag,rfl,by omega,rfl,MA.setP l (by decide) _ _ _ _ (Aa ah),(Aa U).1,by have:=Aa ac;have:=(Aa U).2;omega,(Aa W).setP l (by decide) (by decide) _ _,by rw[Ry];simp only[List.map_cons,Z1];rw[Aa ai];exact ak,al⟩
    case measure=>simp[intOf]
  ·obtain ⟨n,rfl⟩:∃ n,z= [n]:=by
    match z,I with
    | [n],_=>exact ⟨n,rfl⟩
   obtain ⟨y,M,N,O⟩:∃ y,D (.beh (wd3 1)) q y∧(∀ f,y= .bad f→x= .bad f)∧∀ p f,y= .ok p f→Cg t.at_ x 1 (L ++ [p]) f∧f.length≤q.length:=u;have P:Hid (Calls Tryz.prog 149 #[.pointer (some ⟨pb,0,none⟩),.string (AB (wd3 1))] wr (FH aY pb g c T tl y wr)):=Ab (Aa aq _ q y M hq wr Y K ((Aa ar).touch E hp));have A:=Ab (And.intro N O);have F:=Ab J;have ac:=Ab hq;clear I J hq M N O K hi aa ab Z;have aB:=Adk;go_wp2_with fail
   refine (Aa P).mono ?_;intro aC ad Q;cases y with
   |bad f=>
    obtain ⟨⟨v,b,rfl,ae,af⟩,o⟩:=Q;have V:=Ab ((Aa A).1 f rfl);rcases ae with rfl | ⟨aD,aE,rfl⟩
    all_goals
     dsimp only[Ck];go_wp2_with fail
     go_ret2
     rw[Aa V];exact ⟨⟨.nilIface,b,rfl,.inl rfl,af⟩,E.trans o⟩
   |ok p f=>
    obtain ⟨⟨e,ag,rfl,he,R,S⟩,o⟩:=Q;obtain ⟨u,hl⟩:=(Aa A).2 p f rfl;have l:=H.touchP o (.inr ax);have ah:=Ab (MA.snoc he R _ _ (MA.touch o _ _ (Aa F)));have U:=Ab (And.intro u hl);have W:=Ab S;obtain ⟨B,C,hf⟩:=e.form;have ai:=Ab hf;rw[hf];clear he R S hf u hl H A F P;have aF:=fun j=>l.frozen j;have aj:=l.cell 1;have X:=l.cell 0;have q2:=l.cell 1;have q3:=l.cell 2;simp only[Ry,List.map_cons,Z1,List.length_cons,List.length_nil,List.nil_append,List.cons_append,zn,zh,zc,Nat.reduceAdd,Nat.reduceSub,List.replicate] at aj X q2 q3;dsimp only;go_wp2_with fail
    have ak:=l.set 1 (.iface B C);have al:=(E.trans o).setNewP ⟨m.heap.size,1,none⟩ (.iface B C) (by show w.heap.size≤m.heap.size;omega);have aG:=Ak.setCell (lo:=m.heap.size) (hi:=m.heap.size+1) ad ⟨m.heap.size,1,none⟩ (.iface B C) NLN (Nat.lt_succ_self _);go_roundw
    case rel=>exact ⟨2, [n,e],_,f,ag,rfl,by omega,rfl,MA.setP l (by decide) _ _ _ _ (Aa ah),(Aa U).1,by have:=Aa ac;have:=(Aa U).2;omega,(Aa W).setP l (by decide) (by decide) _ _,by rw[Ry];simp only[List.map_cons,Z1];rw[Aa ai];exact ak,al⟩
    case measure=>simp[intOf]
  ·obtain ⟨n,e1,rfl⟩:∃ n e1,z= [n,e1]:=by
    match z,I with
    | [n,e1],_=>exact ⟨n,e1,rfl⟩
   obtain ⟨y,M,N,O⟩:∃ y,D (.beh (wd3 2)) q y∧(∀ f,y= .bad f→x= .bad f)∧∀ p f,y= .ok p f→Cg t.at_ x 0 (L ++ [p]) f∧f.length≤q.length:=u;have P:Hid (Calls Tryz.prog 149 #[.pointer (some ⟨pb,0,none⟩),.string (AB (wd3 2))] wr (FH aY pb g c T tl y wr)):=Ab (Aa aq _ q y M hq wr Y K ((Aa ar).touch E hp));have A:=Ab (And.intro N O);have F:=Ab J;have ac:=Ab hq;clear I J hq M N O K hi aa ab Z;have aB:=Adl;go_wp2_with fail
   refine (Aa P).mono ?_;intro aC ad Q;cases y with
   |bad f=>
    obtain ⟨⟨v,b,rfl,ae,af⟩,o⟩:=Q;have V:=Ab ((Aa A).1 f rfl);rcases ae with rfl | ⟨aD,aE,rfl⟩
    all_goals
     dsimp only[Ck];go_wp2_with fail
     go_ret2
     rw[Aa V];exact ⟨⟨.nilIface,b,rfl,.inl rfl,af⟩,E.trans o⟩
   |ok p f=>
    obtain ⟨⟨e,ag,rfl,he,R,S⟩,o⟩:=Q;obtain ⟨u,hl⟩:=(Aa A).2 p f rfl;have l:=H.touchP o (.inr ax);have ah:=Ab (MA.snoc he R _ _ (MA.touch o _ _ (Aa F)));have U:=Ab (And.intro u hl);have W:=Ab S;obtain ⟨B,C,hf⟩:=e.form;have ai:=Ab hf;rw[hf];clear he R S hf u hl H A F P;have aF:=fun j=>l.frozen j;have aj:=l.cell 2;have X:=l.cell 0;have q2:=l.cell 1;have q3:=l.cell 2;simp only[Ry,List.map_cons,Z1,List.length_cons,List.length_nil,List.nil_append,List.cons_append,zn,zh,zc,Nat.reduceAdd,Nat.reduceSub,List.replicate] at aj X q2 q3;dsimp only;go_wp2_with fail
    have ak:=l.set 2 (.iface B C);have al:=(E.trans o).setNewP ⟨m.heap.size,2,none⟩ (.iface B C) (by show w.heap.size≤m.heap.size;omega);have aG:=Ak.setCell (lo:=m.heap.size) (hi:=m.heap.size+1) ad ⟨m.heap.size,2,none⟩ (.iface B C) NLN (Nat.lt_succ_self _);go_roundw
    case rel=>exact ⟨3, [n,e1,e],_,f,ag,rfl,by omega,rfl,MA.setP l (by decide) _ _ _ _ (Aa ah),(Aa U).1,by have:=Aa ac;have:=(Aa U).2;omega,(Aa W).setP l (by decide) (by decide) _ _,by rw[Ry];simp only[List.map_cons,Z1];rw[Aa ai];exact ak,al⟩
    case measure=>simp[intOf]
  ·obtain ⟨n,e1,e2,rfl⟩:∃ n e1 e2,z= [n,e1,e2]:=by
    match z,I with
    | [n,e1,e2],_=>exact ⟨n,e1,e2,rfl⟩
   obtain ⟨a,b,d,rfl,hx⟩:∃ a b d,L= [a,b,d]∧x= .ok (.ite t.at_ a b d) q:=u;have V:=Ab hx;have F:=Ab J;have W:=Ab K;obtain ⟨aR,u0,ao⟩:=n.form;obtain ⟨aS,u1,f1⟩:=e1.form;obtain ⟨aT,u2,f2⟩:=e2.form;have X:=H.cell 0;have q2:=H.cell 1;have q3:=H.cell 2;simp only[Ry,List.map_cons,Z1,List.length_cons,List.length_nil,List.nil_append,List.cons_append,zn,zh,zc,ao,f1,f2] at X q2 q3;have aJ:=Ab (And.intro ao (And.intro f1 f2));clear hx J K I hq hi ao f1 f2 aa ab Z;go_wp2_with fail
   go_ret2
   rw[Aa V];obtain ⟨⟨aK,aL,g1,aM,g2,aN,_⟩,ao,f1,f2⟩:=And.intro (Aa F) (Aa aJ);exact ⟨⟨.ite t.at_ n e1 e2,Y,by rw[Ex.val,ao,f1,f2];rfl,⟨rfl,aK,g1,g2⟩,⟨aL,aM,aN⟩,Aa W⟩,E⟩
theorem WB (hp: 17≤pb)(ts:List Ae)(x:PR)(d:D .expr ts x)(j:∀ x,D (.chain 1) ts x→CS aY pb g c T tl (.chain 1) ts x)(k:∀ s l x,D (.beh s) l x→l.length≤ts.length→CS aY pb g c T tl (.beh s) l x):CS aY pb g c T tl .expr ts x:=by
 intro w q h i;show Calls Tryz.prog 164 #[.pointer (some ⟨pb,0,none⟩)] w (FH aY pb g c T tl x w);have u:=Ab (AW h DO);have y:(AM DO ts=false∧D (.chain 1) ts x)∨(∃ t r,ts=t ::r∧see DO t=true∧Cg t.at_ x 3 [] (t ::r)):=by
  cases hs:AM DO ts
  ·left;cases d with
   |expr_no h d=>exact ⟨rfl,d⟩
   |expr_if1 b _=>rw[AM,b] at hs;cases hs
   |expr_if2 b _ _=>rw[AM,b] at hs;cases hs
   |expr_if3 b _ _ _=>rw[AM,b] at hs;cases hs
   |expr_if b _ _ _=>rw[AM,b] at hs;cases hs
  ·cases ts with
   |nil=>cases hs
   |cons t r=>exact .inr ⟨t,r,rfl,hs,d.choice hs⟩
 clear d;rcases y with ⟨hs,d⟩ | ⟨t,r,rfl,hs,hc⟩
 ·have m:=Ab hs;have n:Hid (∀ w',Below w.heap.size w w'→Calls Tryz.prog 178 #[.pointer (some ⟨pb,0,none⟩),.int .i64 1] w' (FH aY pb g c T tl x w')):=Ab (fun w' a=>j _ d w' q (h.below a) (i.below a));clear h i j k hs d;go_enter Tryz.func164,Tryz.ntmps164
  go_wp2_with fail
  refine (Aa u).mono ?_;rintro e o ⟨rfl,a⟩;rw[Aa m];dsimp only;go_wp2_with fail
  refine (Aa n o a).mono ?_;intro r z f;obtain ⟨v,e,rfl,A,he⟩:=f.form;have p:=Ab (f.from (Ak.of_below a NLN));clear f;dsimp only;go_wp2_with fail
  go_ret2
  exact Aa p
 ·have m:=Ab (show AM DO (t ::r)=true from hs);have n:=Ab (fun w' (a:Below w.heap.size w w')=>Ue hp t r x hc k w' q (h.below a) (i.below a));clear h i j k hs hc;go_enter Tryz.func164,Tryz.ntmps164
  go_wp2_with fail
  refine (Aa u).mono ?_;rintro e o ⟨rfl,a⟩;rw[Aa m];dsimp only;go_wp2_with fail
  refine (Aa n o a).mono ?_;intro r z f;obtain ⟨v,e,rfl,A,he⟩:=f.form;have p:=Ab (f.from (Ak.of_below a NLN));clear f;dsimp only;go_wp2_with fail
  go_ret2
  exact Aa p
end Go.Proofs.YtffkofkjpckmpaaGreatDoor
namespace Go.Proofs.YtffkofkjpckmpaaGreatDoor
open Go.RowKit
set_option linter.unusedVariables false
variable {aY : Addr} {pb g c : Nat} {T : List Ae} {tl : Nat}
theorem WD (hp: 17≤pb):∀ (n:Nat) (nt:NT) (ts:List Ae) (x:PR),D nt ts x→nt.good→nt.slow=false→ts.length * 17+nt.rank≤n→CS aY pb g c T tl nt ts x:=by
 intro n
 induction n using Nat.strongRecOn with
 |ind n o=>
  intro nt ts x d j hs hm;have f:∀ b r y,D b r y→b.good→b.slow=false→r.length * 17+b.rank < ts.length * 17+nt.rank→CS aY pb g c T tl b r y:=fun b r y a l i m=>o _ (by omega) b r y a l i NLN;have p:∀ b:NT,b.slow=false→b.rank≤15:=fun b h=>by
   cases b with
   |more k e=>cases h
   |opd k=>simp only[NT.rank];split <;> (try split) <;> (try split) <;> (try split) <;> omega
   |chain k=>simp only[NT.rank];split <;> (try split) <;> (try split) <;> omega
   |_=>simp[NT.rank]
  cases nt with
  |more k e=>cases hs
  |beh s=>exact Yi hp s ts x d (fun r x a hl=>f _ _ _ a trivial rfl (by simp only[NT.rank];omega))
  |encl=>exact Wy hp ts x d (fun x a=>f _ _ _ a trivial rfl (by simp only[NT.rank];omega))
  |prim=>exact WC hp ts x d (fun r x a hl=>f _ _ _ a trivial rfl (by simp only[NT.rank];omega))
  |una=>exact Yl hp ts x d (fun x a=>f _ _ _ a trivial rfl (by simp only[NT.rank];omega)) (fun r x a hl=>f _ _ _ a trivial rfl (by simp only[NT.rank];omega))
  |neg=>exact Yk hp ts x d (fun x a=>f _ _ _ a trivial rfl (by simp only[NT.rank];omega)) (fun r x a hl=>f _ _ _ a trivial rfl (by simp only[NT.rank];omega))
  |cmp=>exact Yn hp ts x d (fun r x a hl=>f _ _ _ a (.inr (.inr (.inl rfl))) rfl (by simp[NT.rank];omega))
  |opd k=>exact Yj k ts x d (fun b x a l m=>by
    cases i:b.slow
    ·exact f _ _ _ a l i (by omega)
    ·cases b with
     |more q e=>exfalso;have:(NT.opd k).rank≤15:=p _ rfl;simp only[NT.rank] at m this;omega
     |_=>cases i)
  |chain k=>
   have t:(NT.opd k).rank+1=(NT.chain k).rank:=by simp[NT.good] at j;rcases j with rfl | rfl | rfl | rfl <;> rfl
   exact Ud hp k ts x d (fun r x a hl=>f _ _ _ a (by simp[NT.good] at j ⊢;omega) rfl (by omega))
  |expr=>exact WB hp ts x d (fun x a=>f _ _ _ a (.inl rfl) rfl (by simp[NT.rank])) (fun s r x a hl=>f _ _ _ a trivial rfl (by simp only[NT.rank];omega))
theorem JE (hp: 17≤pb)(s:List UInt8)(ts:List Ae)(x:PR)(d:D (.beh s) ts x)(w:World)(k:Nat)(h:Pp w pb g c T tl ts k)(a:Gy w aY):
  Calls Tryz.prog 149 #[.pointer (some ⟨pb,0,none⟩),.string (AB s)] w (FH aY pb g c T tl x w):=WD hp _ (.beh s) ts x d trivial rfl NLN w k h a
end Go.Proofs.YtffkofkjpckmpaaGreatDoor
