/-
  QI, QL, TH, TR, TT, TU, TX, TY. Own work.
-/
import Derived.Test.YtffkofkjpckmpaaGreatDoorMXBH
import Derived.Test.YtffkofkjpckmpaaGreatDoorMXAW
import Derived.Test.YtffkofkjpckmpaaGreatDoorMXBB
import Derived.Deep.Onto
import Derived.Test.YtffkofkjpckmpaaGreatDoorMXBA
import Derived.Test.YtffkofkjpckmpaaGreatDoorShelf
import Derived.Lib.IndexLaws
import Derived.Lib.ParseIntB
import Derived.Lib.AtoiErrMem
import Derived.WalkMore
namespace Go.Proofs.YtffkofkjpckmpaaGreatDoor
set_option maxRecDepth 100000
set_option maxHeartbeats 1600000
open Go.RowKit
set_option linter.unusedVariables false
theorem UV (B b:Nat)(a:World)(i op:Int)(t:TypeId)(u:Value)(p:Int→ByteArray)(m:Nat)(c:TypeId)(d:Value)(q:Int→ByteArray)(n:Nat)(o: 11≤op∧op≤26)(r:CU a)(s:a.heap.size≤B)
  (j:DX B b a (.iface t u) p m)(k:DX B b a (.iface c d) q n)(hs:(p (DV op)).size≤4000 * m+2)
  (acc:ByteArray)(w:World)(g:Below B a w)(h:Pr B b acc w)(l:acc.size+4000 * (m+n+1)≤100000000000):
  Calls Tryz.prog 100 #[.pointer (some ⟨b,0,none⟩),.agg #[.int .i64 i,.int .i64 op,.iface t u,.iface c d]] w (GL B b (acc ++Zz op p q) w):=by
 have v:B≤w.heap.size:=by have:=h.le;omega
 have x:Kp B b w _:=Kp.alloc0 w (.cells #[.int .i64 i,.int .i64 op,.iface t u,.iface c d] 191) v;have f:=Ab (Ft op _ (r.below (g.trans x.low) s) o);simp only[World.size_alloc] at f;by_cases h4:Ca op=4
 ·have e1:DV op=5:=by rw[DV,if_pos h4]
  rw[e1] at hs;rw[h4] at f;have:=UO B b a i op t u p m c d q n (DW op) (Ab j) (Ab k) (Ab hs) (Ab (GF op)) acc w (Ab g) h (Ab l) f;rw[Zz,e1,h4];exact this
 ·have e1:DV op=Ca op:=by rw[DV,if_neg h4]
  rw[e1] at hs;have:=QD B b a i op t u p m c d q n (Ca op) (DW op) (IA op) (Qy op) (zA.2 h4) (Ab j) (Ab k) (Ab hs) (Ab (GF op)) acc w (Ab g) h (Ab l) f;rw[Zz,e1];exact this
theorem Ack (B b:Nat)(a:World)(m:CU a)(o:Rj a)(g:a.heap.size≤B)(i n:Int)(hf:(Ex.int i n).fit a):InV B b a (.int i n):=by
 intro p acc w hl j h k;have c:=Ab (Cp (.int i n) a w (m.below j g) hf);have q:decide (Ca (Ex.int i n).op < p)=false:=zK (by omega);generalize Ca (Ex.int i n).op=lv at c q hl;have s:B≤w.heap.size:=by have:=h.le;omega
 have I:=h.le.2;simp only[Ex.cnt] at k;have t:=Ab k;have hp:=o.below j g;have h0: 0≤n:=hf.1;have h1:n≤9223372036854775807:=hf.2;clear hf;simp only[Ex.val] at c ⊢;clear hl;have J:=Cs (T:=175) Tryz.underlying175 67;go_enter Tryz.func49,Tryz.ntmps49
 go_wp2_with fail
 refine (Aa c).mono ?_;rintro r d ⟨rfl,f⟩;have u:=h.below f;have v:Kp B b w d:=Kp.of_all f s;have K:=f.size;clear c;dsimp only;have x:=(hp.below f NLN).below ((Below.refl d.heap.size d).alloc NLN (.cells #[.int .i64 i,.int .i64 n] 175)) NLN;have y:=u.alloc (.cells #[.int .i64 i,.int .i64 n] 175);have z:Kp B b w _:=v.trans (Kp.alloc0 d (.cells #[.int .i64 i,.int .i64 n] 175) (by omega));go_wp2_with fail
 refine (Om _ _ h0 h1 x).mono ?_;rintro r A ⟨rfl,l⟩;have C:=y.below l;have E:Kp B b w A:=z.trans (Kp.of_all l (by simp;omega));have L:=IE (n:=n.toNat) (by omega);dsimp only;go_wp2_with fail
 refine (Dn B b _ acc _ C (by have:=Aa t;omega)).mono ?_;rintro r M ⟨rfl,F,H⟩;dsimp only;go_wp2_with fail
 go_end0
 exact ⟨rfl,F,E.trans H⟩
theorem Aa3 (B b:Nat)(a:World)(j:CU a)(A:Rj a)(k:a.heap.size≤B)(i:Int)(s:ByteArray)(hf:(Ex.text i s).fit a):InV B b a (.text i s):=by
 intro l acc w hl m h f;have c:=Ab (Cp (.text i s) a w (j.below m k) hf);have n:decide (Ca (Ex.text i s).op < l)=false:=zK (by omega);generalize Ca (Ex.text i s).op=lv at c n hl;have o:B≤w.heap.size:=by have:=h.le;omega
 have C:=h.le.2;simp only[Ex.cnt] at f;have p:=Ab f;have h1:s.size≤32:=hf;have q:(⟨#[34]⟩:ByteArray).size=1:=rfl;clear hf;simp only[Ex.val] at c ⊢;clear hl;have E:=Ai (S:=178) (T:=175) Tryz.underlying175 Tryz.zeroValue175 (by decide) 67;have a1:=Cs (T:=178) Tryz.underlying178 67;go_enter Tryz.func49,Tryz.ntmps49
 go_wp2_with fail
 refine (Aa c).mono ?_;rintro r g ⟨rfl,d⟩;have t:=h.below d;have u:Kp B b w g:=Kp.of_all d o;have F:=d.size;clear c;dsimp only;have v:=t.alloc (.cells #[.int .i64 i,.string s] 178);have x:Kp B b w _:=u.trans (Kp.alloc0 g (.cells #[.int .i64 i,.string s] 178) (by omega));go_wp2_with fail
 refine (Wb B b _ _ _ acc _ _ (by simp) v (by have:=Aa p;rw[q];omega)).mono ?_;rintro r H ⟨rfl,y,z⟩;dsimp only;go_wp2_with fail
 go_end0
 exact ⟨rfl,y,x.trans z⟩
theorem Aa4 (B b:Nat)(a:World)(j:CU a)(z:Rj a)(k:a.heap.size≤B)(i:Int)(s:ByteArray)(hf:(Ex.name i s).fit a):InV B b a (.name i s):=by
 intro l acc w hl m h f;have c:=Ab (Cp (.name i s) a w (j.below m k) hf);have n:decide (Ca (Ex.name i s).op < l)=false:=zK (by omega);generalize Ca (Ex.name i s).op=lv at c n hl;have o:B≤w.heap.size:=by have:=h.le;omega
 have A:=h.le.2;simp only[Ex.cnt] at f;have p:=Ab f;have h1:s.size≤32:=hf;clear hf;simp only[Ex.val] at c ⊢;clear hl;have C:=Ai (S:=186) (T:=175) Tryz.underlying175 Tryz.zeroValue175 (by decide) 67;have a1:=Ai (S:=186) (T:=178) Tryz.underlying178 Tryz.zeroValue178 (by decide) 67;have a2:=Ai (S:=186) (T:=180) Tryz.underlying180 Tryz.zeroValue180 (by decide) 67;have a3:=Ai (S:=186) (T:=183) Tryz.underlying183 Tryz.zeroValue183 (by decide) 67;have a4:=Cs (T:=186) Tryz.underlying186 67;go_enter Tryz.func49,Tryz.ntmps49
 go_wp2_with fail
 refine (Aa c).mono ?_;rintro r g ⟨rfl,d⟩;have q:=h.below d;have t:Kp B b w g:=Kp.of_all d o;have E:=d.size;clear c;dsimp only;have u:=q.alloc (.cells #[.int .i64 i,.string s] 186);have v:Kp B b w _:=t.trans (Kp.alloc0 g (.cells #[.int .i64 i,.string s] 186) (by omega));go_wp2_with fail
 refine (FS B b _ acc _ _ (by simp) u (by have:=Aa p;omega)).mono ?_;rintro r F ⟨rfl,x,y⟩;dsimp only;go_wp2_with fail
 go_end0
 exact ⟨rfl,x,v.trans y⟩
theorem Ni (b:Bool)(w:World):
  Calls Tryz.prog 97 #[.bool b] w fun e w'=>e= .returned (.string (if b then ⟨#[116,114,117,101]⟩ else ⟨#[102,97,108,115,101]⟩))∧w'=w:=by
 cases b
 ·go_enter Tryz.func97,Tryz.ntmps97
  go_wp2
  go_ret
  exact ⟨rfl,rfl⟩
 ·go_enter Tryz.func97,Tryz.ntmps97
  go_wp2
  go_ret
  exact ⟨rfl,rfl⟩
theorem Aa5 (B b:Nat)(a:World)(l:CU a)(F:Rj a)(m:a.heap.size≤B)(i:Int)(v:Bool)(hf:(Ex.bool i v).fit a):InV B b a (.bool i v):=by
 intro n acc w hl o h f;have c:=Ab (Cp (.bool i v) a w (l.below o m) hf);have p:decide (Ca (Ex.bool i v).op < n)=false:=zK (by omega);generalize Ca (Ex.bool i v).op=lv at c p hl;have q:B≤w.heap.size:=by have:=h.le;omega
 have H:=h.le.2;simp only[Ex.cnt] at f;have t:=Ab f;clear hf;have g:=Ab (Ni v);have e5:(if v then (⟨#[116,114,117,101]⟩:ByteArray) else ⟨#[102,97,108,115,101]⟩).size≤5:=by cases v <;> decide
 have j:=Ab (show (Ex.bool i v).pr=if v then (⟨#[116,114,117,101]⟩:ByteArray) else ⟨#[102,97,108,115,101]⟩ from rfl);rw[Aa j];clear j;generalize (if v then (⟨#[116,114,117,101]⟩:ByteArray) else ⟨#[102,97,108,115,101]⟩)=s at g e5 ⊢;simp only[Ex.val] at c ⊢;clear hl;have I:=Ai (S:=180) (T:=175) Tryz.underlying175 Tryz.zeroValue175 (by decide) 67;have a1:=Ai (S:=180) (T:=178) Tryz.underlying178 Tryz.zeroValue178 (by decide) 67;have a2:=Cs (T:=180) Tryz.underlying180 67;go_enter Tryz.func49,Tryz.ntmps49
 go_wp2_with fail
 refine (Aa c).mono ?_;rintro r k ⟨rfl,d⟩;have u:=h.below d;have x:Kp B b w k:=Kp.of_all d q;have J:=d.size;clear c;dsimp only;have y:=u.alloc (.cells #[.int .i64 i,.bool v] 180);have z:Kp B b w _:=x.trans (Kp.alloc0 k (.cells #[.int .i64 i,.bool v] 180) (by omega));go_wp2_with fail
 refine (Aa g _).mono ?_;rintro r K ⟨rfl,A⟩;subst A;dsimp only;go_wp2_with fail
 refine (FS B b _ acc _ _ (by simp) y (by have:=Aa t;omega)).mono ?_;rintro r L ⟨rfl,C,E⟩;dsimp only;go_wp2_with fail
 go_end0
 exact ⟨rfl,C,z.trans E⟩
theorem Acl (B b:Nat)(d:World)(s:CU d)(H:Rj d)(m:d.heap.size≤B)(i:Int)(a:Option Addr)(n c:Nat)(f:List ByteArray)(hf:(Ex.set i a n c f).fit d):InV B b d (.set i a n c f):=by
 intro t acc w hl j h o;have g:=Ab (Cp (.set i a n c f) d w (s.below j m) hf);have u:decide (Ca (Ex.set i a n c f).op < t)=false:=zK (by omega);generalize Ca (Ex.set i a n c f).op=lv at g u hl;have v:B≤w.heap.size:=by have:=h.le;omega
 have I:=h.le.2;simp only[Ex.cnt] at o;have x:=Ab o;have k:=Ab hf;have y:=Ab j;clear hf j;simp only[Ex.val] at g ⊢;clear hl;have J:=Ai (S:=183) (T:=175) Tryz.underlying175 Tryz.zeroValue175 (by decide) 67;have a1:=Ai (S:=183) (T:=178) Tryz.underlying178 Tryz.zeroValue178 (by decide) 67;have a2:=Ai (S:=183) (T:=180) Tryz.underlying180 Tryz.zeroValue180 (by decide) 67;have a3:=Cs (T:=183) Tryz.underlying183 67;go_enter Tryz.func49,Tryz.ntmps49
 go_wp2_with fail
 refine (Aa g).mono ?_;rintro r p ⟨rfl,l⟩;have z:=h.below l;have A:Kp B b w p:=Kp.of_all l v;have K:=l.size;clear g;dsimp only;have C:=z.alloc (.cells #[.int .i64 i,.slice a n c] 183);have q:Kp B b w _:=A.trans (Kp.alloc0 p (.cells #[.int .i64 i,.slice a n c] 183) (by omega));go_wp2_with fail
 refine (Aa1 B b d a n c f (Aa k).1 m (Aa k).2.1 (Aa k).2.2 acc _ ((Aa y).trans q.low) C (by have:=Aa x;omega)).mono ?_;rintro r L ⟨rfl,E,F⟩;dsimp only;go_wp2_with fail
 go_end0
 exact ⟨rfl,E,q.trans F⟩
theorem AcW (B b:Nat)(a:World)(v:CU a)(L:Rj a)(x:a.heap.size≤B)(i op:Int)(k:Ex)(hf:(Ex.un i op k).fit a)(d:DX B b a k.val k.put k.cnt):InV B b a (.un i op k):=by
 intro y acc w hl f h g;have c:=Ab (Cp (.un i op k) a w (v.below f x) hf);have z:decide (Ca (Ex.un i op k).op < y)=false:=zK (by omega);generalize Ca (Ex.un i op k).op=lv at c z hl;have A:B≤w.heap.size:=by have:=h.le;omega
 have M:=h.le.2;simp only[Ex.cnt] at g;have n:=Ab g;have C:=Ab hf.1;have j:=Ab (show (k.put 0).size≤4000 * k.cnt+2 from k.put_size hf.2 0);have E:=Ab f;rw[AbH];simp only[Ex.val] at c ⊢;obtain ⟨t,u,o⟩:=k.form;rw[o] at c d ⊢;have l:=Ab d;clear o hf f d g;generalize k.put=p at l j;generalize k.cnt=cnt at l j n;clear hl;have N:=Ai (S:=188) (T:=175) Tryz.underlying175 Tryz.zeroValue175 (by decide) 67;have a1:=Ai (S:=188) (T:=178) Tryz.underlying178 Tryz.zeroValue178 (by decide) 67;have a2:=Ai (S:=188) (T:=180) Tryz.underlying180 Tryz.zeroValue180 (by decide) 67;have a3:=Ai (S:=188) (T:=183) Tryz.underlying183 Tryz.zeroValue183 (by decide) 67;have a4:=Ai (S:=188) (T:=186) Tryz.underlying186 Tryz.zeroValue186 (by decide) 67;have a5:=Cs (T:=188) Tryz.underlying188 67;go_enter Tryz.func49,Tryz.ntmps49
 go_wp2_with fail
 refine (Aa c).mono ?_;rintro r q ⟨rfl,m⟩;have F:=h.below m;have H:Kp B b w q:=Kp.of_all m A;have O:=m.size;clear c;dsimp only;have I:=F.alloc (.cells #[.int .i64 i,.int .i64 op,.iface t u] 188);have s:Kp B b w _:=H.trans (Kp.alloc0 q (.cells #[.int .i64 i,.int .i64 op,.iface t u] 188) (by omega));go_wp2_with fail
 refine (Xv B b a i op t u p cnt (Aa C) (Aa l) (Aa j) acc _ ((Aa E).trans s.low) I (Aa n)).mono ?_;rintro r P ⟨rfl,J,K⟩;dsimp only;go_wp2_with fail
 go_end0
 exact ⟨rfl,J,s.trans K⟩
theorem Acm (B b:Nat)(a:World)(d:CU a)(X:Rj a)(H:a.heap.size≤B)(i op:Int)(k l:Ex)(hf:(Ex.bin i op k l).fit a)(f:DX B b a k.val k.put k.cnt)(g:DX B b a l.val l.put l.cnt):InV B b a (.bin i op k l):=by
 intro K acc w hl j h o;have c:=Ab (Cp (.bin i op k l) a w (d.below j H) hf);have L:decide (Ca (Ex.bin i op k l).op < K)=false:=zK (by omega);generalize Ca (Ex.bin i op k l).op=lv at c L hl;have M:B≤w.heap.size:=by have:=h.le;omega
 have Y:=h.le.2;simp only[Ex.cnt] at o;have s:=Ab o;have N:=Ab hf.1;have v:=Ab (show (k.put (DV op)).size≤4000 * k.cnt+2 from k.put_size hf.2.1 _);have O:=Ab d;have P:=Ab j;rw[ZA];simp only[Ex.val] at c ⊢;obtain ⟨t,u,x⟩:=k.form;obtain ⟨y,z,A⟩:=l.form;rw[x,A] at c ⊢;rw[x] at f;rw[A] at g;have C:=Ab f;have E:=Ab g;clear x A hf j f g o d;generalize k.put=p at C v;generalize k.cnt=m at C v s;generalize l.put=q at E;generalize l.cnt=n at E s;clear hl;have Z:=Ai (S:=191) (T:=175) Tryz.underlying175 Tryz.zeroValue175 (by decide) 67;have a1:=Ai (S:=191) (T:=178) Tryz.underlying178 Tryz.zeroValue178 (by decide) 67;have a2:=Ai (S:=191) (T:=180) Tryz.underlying180 Tryz.zeroValue180 (by decide) 67;have a3:=Ai (S:=191) (T:=183) Tryz.underlying183 Tryz.zeroValue183 (by decide) 67;have a4:=Ai (S:=191) (T:=186) Tryz.underlying186 Tryz.zeroValue186 (by decide) 67;have a5:=Ai (S:=191) (T:=188) Tryz.underlying188 Tryz.zeroValue188 (by decide) 67;have a6:=Cs (T:=191) Tryz.underlying191 67;go_enter Tryz.func49,Tryz.ntmps49
 go_wp2_with fail
 refine (Aa c).mono ?_;rintro r I ⟨rfl,F⟩;have Q:=h.below F;have R:Kp B b w I:=Kp.of_all F M;have aa:=F.size;clear c;dsimp only;have U:=Q.alloc (.cells #[.int .i64 i,.int .i64 op,.iface t u,.iface y z] 191);have J:Kp B b w _:=R.trans (Kp.alloc0 I (.cells #[.int .i64 i,.int .i64 op,.iface t u,.iface y z] 191) (by omega));go_wp2_with fail
 refine (UV B b a i op t u p m y z q n (Aa N) (Aa O) H (Aa C) (Aa E) (Aa v) acc _ ((Aa P).trans J.low) U (Aa s)).mono ?_;rintro r ab ⟨rfl,V,W⟩;dsimp only;go_wp2_with fail
 go_end0
 exact ⟨rfl,V,J.trans W⟩
theorem Acn (B b:Nat)(a:World)(X:CU a)(aC:Rj a)(aj:a.heap.size≤B)(i:Int)(c t e:Ex)(hf:(Ex.ite i c t e).fit a)(k:DX B b a c.val c.put c.cnt)(l:DX B b a t.val t.put t.cnt)(m:DX B b a e.val e.put e.cnt):InV B b a (.ite i c t e):=by
 intro ak acc w hl n h o;have g:=Ab (Cp (.ite i c t e) a w (X.below n aj) hf);have al:decide (Ca (Ex.ite i c t e).op < ak)=false:=zK (by omega);generalize Ca (Ex.ite i c t e).op=lv at g al hl;have ao:B≤w.heap.size:=by have:=h.le;omega
 have aD:=h.le.2;simp only[Ex.cnt] at o;have d:=Ab o;have f:=Ab (show (c.put 0).size≤4000 * c.cnt+2 from c.put_size hf.1 _);have j:=Ab (show (t.put 0).size≤4000 * t.cnt+2 from t.put_size hf.2.1 _);have p:=Ab n;have Y:=Ab (show (Ex.ite i c t e).pr=⟨#[105,102,32]⟩ ++c.put 0 ++⟨#[32,116,104,101,110,32]⟩ ++t.put 0 ++⟨#[32,101,108,115,101,32]⟩ ++e.put 0 by rw[BO,BO,BO];rfl);rw[Aa Y];simp only[Ex.val] at g ⊢;obtain ⟨q,s,u⟩:=c.form;obtain ⟨v,x,y⟩:=t.form;obtain ⟨z,A,C⟩:=e.form;rw[u,y,C] at g ⊢;rw[u] at k;rw[y] at l;rw[C] at m;have E:=Ab k;have F:=Ab l;have H:=Ab m;clear u y C hf n k l m o X Y;generalize c.put=aE at E f;generalize c.cnt=aF at E f d;generalize t.put=aG at F j;generalize t.cnt=aH at F j d;generalize e.put=pe at H;generalize e.cnt=me at H d;have e1:(⟨#[105,102,32]⟩:ByteArray).size=3:=rfl;have e2:(⟨#[32,116,104,101,110,32]⟩:ByteArray).size=6:=rfl;have e3:(⟨#[32,101,108,115,101,32]⟩:ByteArray).size=6:=rfl;clear hl;have aI:=Ai (S:=194) (T:=175) Tryz.underlying175 Tryz.zeroValue175 (by decide) 67;have a1:=Ai (S:=194) (T:=178) Tryz.underlying178 Tryz.zeroValue178 (by decide) 67;have a2:=Ai (S:=194) (T:=180) Tryz.underlying180 Tryz.zeroValue180 (by decide) 67;have a3:=Ai (S:=194) (T:=183) Tryz.underlying183 Tryz.zeroValue183 (by decide) 67;have a4:=Ai (S:=194) (T:=186) Tryz.underlying186 Tryz.zeroValue186 (by decide) 67;have a5:=Ai (S:=194) (T:=188) Tryz.underlying188 Tryz.zeroValue188 (by decide) 67;have a6:=Ai (S:=194) (T:=191) Tryz.underlying191 Tryz.zeroValue191 (by decide) 67;have aJ:=Cs (T:=194) Tryz.underlying194 67;go_enter Tryz.func49,Tryz.ntmps49
 go_wp2_with fail
 refine (Aa g).mono ?_;rintro r I ⟨rfl,J⟩;have ap:=h.below J;have aq:Kp B b w I:=Kp.of_all J ao;have aK:=J.size;clear g;dsimp only;have Z:=ap.alloc (.cells #[.int .i64 i,.iface q s,.iface v x,.iface z A] 194);have aa:Kp B b w _:=aq.trans (Kp.alloc0 I (.cells #[.int .i64 i,.iface q s,.iface v x,.iface z A] 194) (by omega));have ab:=Am.new I #[.int .i64 i,.iface q s,.iface v x,.iface z A] 194;go_wp2_with fail
 refine (FS B b _ acc _ _ (by simp) Z (by have:=Aa d;rw[e1];omega)).mono ?_;rintro r aL ⟨rfl,ac,K⟩;have L:=K.row ab (by omega) (by decide);have M:=aa.trans K;obtain ⟨ar,c1,c2,c3⟩:=Eb L;clear ab aa Z K;dsimp only;go_wp2_with fail
 refine (Aa E _ _ _ ((Aa p).trans M.low) ac (by have:=Aa d;rw[zD,e1];omega)).mono ?_;rintro r aM ⟨rfl,ad,N⟩;have O:=N.row L (by omega) (by decide);have ae:=M.trans N;obtain ⟨au,d1,d2,d3⟩:=Eb O;clear L M ac N ar c1 c2 c3;dsimp only;go_wp2_with fail
 refine (Dn B b _ _ _ ad (by have:=Aa d;have:=Aa f;rw[zD,zD,e1,e2];omega)).mono ?_;rintro r aN ⟨rfl,af,P⟩;have Q:=P.row O (by omega) (by decide);have R:=ae.trans P;obtain ⟨av,f1,f2,aw⟩:=Eb Q;clear O ae ad P au d1 d2 d3;dsimp only;go_wp2_with fail
 refine (Aa F _ _ _ ((Aa p).trans R.low) af (by have:=Aa d;have:=Aa f;rw[zD,zD,zD,e1,e2];omega)).mono ?_;rintro r aO ⟨rfl,ag,U⟩;have V:=U.row Q (by omega) (by decide);have ah:=R.trans U;obtain ⟨ax,g1,g2,g3⟩:=Eb V;clear Q R af U av f1 f2 aw;dsimp only;go_wp2_with fail
 refine (Dn B b _ _ _ ag (by have:=Aa d;have:=Aa f;have:=Aa j;rw[zD,zD,zD,zD,e1,e2,e3];omega)).mono ?_;rintro r aP ⟨rfl,ay,W⟩;have az:=W.row V (by omega) (by decide);have ai:=ah.trans W;obtain ⟨aQ,aR,aS,aT⟩:=Eb az;clear V ah ag W ax g1 g2 g3;dsimp only;go_wp2_with fail
 refine (Aa H _ _ _ ((Aa p).trans ai.low) ay (by have:=Aa d;have:=Aa f;have:=Aa j;rw[zD,zD,zD,zD,zD,e1,e2,e3];omega)).mono ?_;rintro r aU ⟨rfl,aA,aB⟩;dsimp only;go_wp2_with fail
 go_end0
 exact ⟨rfl,by simpa only[zT] using aA,ai.trans aB⟩
theorem Cd (B b:Nat)(d:World)(f:CU d)(j:Rj d)(g:d.heap.size≤B):∀ (e:Ex),e.fit d→DX B b d e.val e.put e.cnt
 | .int i n,h=>De B b d _ f g h (Ack B b d f j g i n h)
 | .text i s,h=>De B b d _ f g h (Aa3 B b d f j g i s h)
 | .bool i v,h=>De B b d _ f g h (Aa5 B b d f j g i v h)
 | .set i a n c ss,h=>De B b d _ f g h (Acl B b d f j g i a n c ss h)
 | .name i s,h=>De B b d _ f g h (Aa4 B b d f j g i s h)
 | .attr ..,h=>absurd h id
 | .lett ..,h=>absurd h id
 | .un i op k,h=>De B b d _ f g h (AcW B b d f j g i op k h (Cd B b d f j g k h.2))
 | .bin i op k l,h=>De B b d _ f g h (Acm B b d f j g i op k l h (Cd B b d f j g k h.2.1) (Cd B b d f j g l h.2.2))
 | .ite i c t e,h=>De B b d _ f g h (Acn B b d f j g i c t e h (Cd B b d f j g c h.1) (Cd B b d f j g t h.2.1) (Cd B b d f j g e h.2.2))
def XS (Es:List Ex) (k:Int):ByteArray:=match Es[k.toNat]? with
 |some e=>e.pr
 |none=>⟨#[]⟩
def SA (Es:List Ex) (g:Int):ByteArray:=if g= -1 then ⟨#[100,101,110,121]⟩ else ⟨#[103,114,97,110,116,32]⟩ ++XS Es g
def Lm (Es:List Ex) (s:St):ByteArray:=
 (if s.kind=1 then ⟨#[108,101,116,32]⟩ ++s.name ++⟨#[32,61,32]⟩ ++XS Es s.cond
   else if s.kind=2 then ⟨#[119,104,101,110,32]⟩ ++XS Es s.cond ++⟨#[32,61,62,32]⟩ ++SA Es s.grant
   else ⟨#[101,108,115,101,32]⟩ ++SA Es s.grant) ++⟨#[59,10]⟩
def ZE (B b:Nat) (w0:World) (gv:Value) (gt:ByteArray):Prop:=
 ∀ (acc:ByteArray) (w:World),Below B w0 w→Pr B b acc w→acc.size≤50000000000→Calls Tryz.prog 50 #[.pointer (some ⟨b,0,none⟩),gv] w (GL B b (acc ++gt) w)
theorem Oo (B b:Nat)(c:World):ZE B b c .nilIface ⟨#[100,101,110,121]⟩:=by
 intro acc w i h a;have e1:(⟨#[100,101,110,121]⟩:ByteArray).size=4:=rfl;have d:=Ab a;clear a;go_enter Tryz.func50,Tryz.ntmps50
 go_wp2_with fail
 refine (Dn B b _ acc _ h (by have:=Aa d;rw[e1];omega)).mono ?_;rintro r j ⟨rfl,f,g⟩;dsimp only;go_wp2_with fail
 go_end0
 exact ⟨rfl,f,g⟩
theorem Oq (B b:Nat)(a:World)(t:TypeId)(u:Value)(p:Int→ByteArray)(cnt:Nat)(c:DX B b a (.iface t u) p cnt)(hc:cnt≤4000):ZE B b a (.iface t u) (⟨#[103,114,97,110,116,32]⟩ ++p 0):=by
 intro acc w d h f;have e1:(⟨#[103,114,97,110,116,32]⟩:ByteArray).size=6:=rfl;have g:=Ab f;have j:=Ab hc;have k:=Ab d;have l:=Ab c;clear f c d hc;go_enter Tryz.func50,Tryz.ntmps50
 go_wp2_with fail
 refine (Dn B b _ acc _ h (by have:=Aa g;rw[e1];omega)).mono ?_;rintro r q ⟨rfl,m,i⟩;dsimp only;go_wp2_with fail
 refine (Aa l _ _ _ ((Aa k).trans i.low) m (by have:=Aa g;have:=Aa j;rw[zD,e1];omega)).mono ?_;rintro r s ⟨rfl,n,o⟩;dsimp only;go_wp2_with fail
 go_end0
 exact ⟨rfl,by rw[← zT];exact n,i.trans o⟩
theorem Id {w:World}{b:Nat}{a c d f g:Value}{t:TypeId}(R:Am w b #[a,c,d,f,g] t):w.cell? ⟨b,0,none⟩=some a∧w.cell? ⟨b,1,none⟩=some c∧w.cell? ⟨b,2,none⟩=some d∧w.cell? ⟨b,3,none⟩=some f∧w.cell? ⟨b,4,none⟩=some g:=
 ⟨R.cell 0,R.cell 1,R.cell 2,R.cell 3,R.cell 4⟩
theorem Ot (B b:Nat)(s:World)(j:Nat)(nm:ByteArray)(a:TypeId)(c:Value)(p:Int→ByteArray)(cnt:Nat)(t:DX B b s (.iface a c) p cnt)(hc:cnt≤4000)(hs:(p 0).size≤4000 * cnt+2)(u:nm.size≤32)(acc:ByteArray)(w:World)(v:Below B s w)(h:Pr B b acc w)(x:acc.size≤30000000000):
  Calls Tryz.prog 20 #[.pointer (some ⟨b,0,none⟩),.agg #[.int .i64 j,.int .i64 1,.string nm,.iface a c,.nilIface]] w (GL B b (acc ++(⟨#[108,101,116,32]⟩ ++nm ++⟨#[32,61,32]⟩ ++p 0 ++⟨#[59,10]⟩)) w):=by
 have X:(⟨#[108,101,116,32]⟩:ByteArray).size=4:=rfl;have Y:(⟨#[32,61,32]⟩:ByteArray).size=3:=rfl;have Z:(⟨#[119,104,101,110,32]⟩:ByteArray).size=5:=rfl;have aa:(⟨#[32,61,62,32]⟩:ByteArray).size=4:=rfl;have ab:(⟨#[101,108,115,101,32]⟩:ByteArray).size=5:=rfl;have ac:(⟨#[59,10]⟩:ByteArray).size=2:=rfl;have d:=Ab x;have H:=Ab v;have I:B≤w.heap.size:=by have:=h.le;omega
 have ad:=h.le.2;have J:=Ab t;have f:=Ab (show (p 0).size≤16000002 by omega);have g:=Ab hc;have i:=Ab u;clear x v t hc hs u;have y:=h.alloc (.cells #[.int .i64 j,.int .i64 1,.string nm,.iface a c,.nilIface] 69);have z:Kp B b w _:=Kp.alloc0 w (.cells #[.int .i64 j,.int .i64 1,.string nm,.iface a c,.nilIface] 69) I;have A:=Am.new w #[.int .i64 j,.int .i64 1,.string nm,.iface a c,.nilIface] 69;go_enter Tryz.func20,Tryz.ntmps20
 go_wp2_with fail
 refine (Wb B b _ _ _ acc _ _ (by simp) y (by have:=Aa d;have:=Aa f;have:=Aa g;have:=Aa i;omega)).mono ?_;rintro r ae ⟨rfl,C,k⟩;have l:=z.trans k;have m:=k.row A (by omega) (by decide);obtain ⟨K,L,M,N,O⟩:=Id m;clear A k z y;dsimp only;go_wp2_with fail
 refine (Aa J _ _ _ ((Aa H).trans l.low) C (by have:=Aa d;have:=Aa f;have:=Aa g;have:=Aa i;(try simp only[zD]);omega)).mono ?_
 rintro r af ⟨rfl,E,n⟩;have F:=l.trans n;have o:=n.row m (by omega) (by decide);obtain ⟨P,Q,R,S,T⟩:=Id o;clear m n l C K L M N O;dsimp only;go_wp2_with fail
 refine (Dn B b _ _ _ E (by have:=Aa d;have:=Aa f;have:=Aa g;have:=Aa i;(try simp only[zD]);omega)).mono ?_
 rintro r ag ⟨rfl,U,q⟩;have V:=F.trans q;have W:=q.row o (by omega) (by decide);obtain ⟨ah,ai,aj,ak,al⟩:=Id W;clear o q F E P Q R S T;dsimp only;go_wp2_with fail
 go_end0
 exact ⟨rfl,by simpa only[zT] using U,V⟩
theorem Ie (B b:Nat)(l:World)(j:Nat)(nm:ByteArray)(c:TypeId)(d:Value)(p:Int→ByteArray)(cnt:Nat)(C:DX B b l (.iface c d) p cnt)(hc:cnt≤4000)(hs:(p 0).size≤4000 * cnt+2)(a:Value)(V:a= .nilIface∨∃ E F,a= .iface E F)(m:ByteArray)(H:ZE B b l a m)(I:m.size≤16000100)(acc:ByteArray)(w:World)(J:Below B l w)(h:Pr B b acc w)(K:acc.size≤30000000000):
  Calls Tryz.prog 20 #[.pointer (some ⟨b,0,none⟩),.agg #[.int .i64 j,.int .i64 2,.string nm,.iface c d,a]] w (GL B b (acc ++(⟨#[119,104,101,110,32]⟩ ++p 0 ++⟨#[32,61,62,32]⟩ ++m ++⟨#[59,10]⟩)) w):=by
 have aA:(⟨#[108,101,116,32]⟩:ByteArray).size=4:=rfl;have aB:(⟨#[32,61,32]⟩:ByteArray).size=3:=rfl;have aC:(⟨#[119,104,101,110,32]⟩:ByteArray).size=5:=rfl;have aD:(⟨#[32,61,62,32]⟩:ByteArray).size=4:=rfl;have aE:(⟨#[101,108,115,101,32]⟩:ByteArray).size=5:=rfl;have aF:(⟨#[59,10]⟩:ByteArray).size=2:=rfl;have f:=Ab K;have L:=Ab J;have W:B≤w.heap.size:=by have:=h.le;omega
 have aG:=h.le.2;have X:=Ab C;have g:=Ab (show (p 0).size≤16000002 by omega);have i:=Ab hc;have Y:=Ab H;have k:=Ab I;clear K J C hc hs H I;have M:=h.alloc (.cells #[.int .i64 j,.int .i64 2,.string nm,.iface c d,a] 69);have N:Kp B b w _:=Kp.alloc0 w (.cells #[.int .i64 j,.int .i64 2,.string nm,.iface c d,a] 69) W;have O:=Am.new w #[.int .i64 j,.int .i64 2,.string nm,.iface c d,a] 69;rcases V with rfl | ⟨E,F,rfl⟩
 all_goals
  go_enter Tryz.func20,Tryz.ntmps20
  go_wp2_with fail
  refine (FS B b _ acc _ _ (by simp) M (by have:=Aa f;have:=Aa g;have:=Aa i;have:=Aa k;(try simp only[zD]);omega)).mono ?_
  rintro r aH ⟨rfl,P,n⟩;have o:=N.trans n;have q:=n.row O (by omega) (by decide);obtain ⟨Z,aa,ab,ac,ad⟩:=Id q;clear O n N M;dsimp only;go_wp2_with fail
  refine (Aa X _ _ _ ((Aa L).trans o.low) P (by have:=Aa f;have:=Aa g;have:=Aa i;have:=Aa k;(try simp only[zD]);omega)).mono ?_
  rintro r aI ⟨rfl,Q,s⟩;have R:=o.trans s;have t:=s.row q (by omega) (by decide);obtain ⟨ae,af,ag,ah,ai⟩:=Id t;clear q s o P Z aa ab ac ad;dsimp only;go_wp2_with fail
  refine (Dn B b _ _ _ Q (by have:=Aa f;have:=Aa g;have:=Aa i;have:=Aa k;(try simp only[zD]);omega)).mono ?_
  rintro r aJ ⟨rfl,S,u⟩;have v:=R.trans u;have x:=u.row t (by omega) (by decide);obtain ⟨aj,ak,al,ao,ap⟩:=Id x;clear t u R Q ae af ag ah ai;dsimp only;go_wp2_with fail
  refine (Aa Y _ _ ((Aa L).trans v.low) S (by have:=Aa f;have:=Aa g;have:=Aa i;have:=Aa k;(try simp only[zD]);omega)).mono ?_
  rintro r aK ⟨rfl,T,y⟩;have U:=v.trans y;have z:=y.row x (by omega) (by decide);obtain ⟨aq,ar,au,av,aw⟩:=Id z;clear x y v S aj ak al ao ap;dsimp only;go_wp2_with fail
  refine (Dn B b _ _ _ T (by have:=Aa f;have:=Aa g;have:=Aa i;have:=Aa k;(try simp only[zD]);omega)).mono ?_
  rintro r aL ⟨rfl,ax,A⟩;have ay:=U.trans A;have az:=A.row z (by omega) (by decide);obtain ⟨aM,aN,aO,aP,aQ⟩:=Id az;clear z A U T aq ar au av aw;dsimp only;go_wp2_with fail
  go_end0
  exact ⟨rfl,by simpa only[zT] using ax,ay⟩
theorem If (B b:Nat)(o:World)(j:Nat)(nm:ByteArray)(a:Value)(F:a= .nilIface∨∃ p q,a= .iface p q)(c:ByteArray)(s:ZE B b o a c)(t:c.size≤16000100)(acc:ByteArray)(w:World)(u:Below B o w)(h:Pr B b acc w)(v:acc.size≤30000000000):
  Calls Tryz.prog 20 #[.pointer (some ⟨b,0,none⟩),.agg #[.int .i64 j,.int .i64 3,.string nm,.nilIface,a]] w (GL B b (acc ++(⟨#[101,108,115,101,32]⟩ ++c ++⟨#[59,10]⟩)) w):=by
 have X:(⟨#[108,101,116,32]⟩:ByteArray).size=4:=rfl;have Y:(⟨#[32,61,32]⟩:ByteArray).size=3:=rfl;have Z:(⟨#[119,104,101,110,32]⟩:ByteArray).size=5:=rfl;have aa:(⟨#[32,61,62,32]⟩:ByteArray).size=4:=rfl;have ab:(⟨#[101,108,115,101,32]⟩:ByteArray).size=5:=rfl;have ac:(⟨#[59,10]⟩:ByteArray).size=2:=rfl;have d:=Ab v;have H:=Ab u;have I:B≤w.heap.size:=by have:=h.le;omega
 have ad:=h.le.2;have J:=Ab s;have f:=Ab t;clear v u s t;have x:=h.alloc (.cells #[.int .i64 j,.int .i64 3,.string nm,.nilIface,a] 69);have y:Kp B b w _:=Kp.alloc0 w (.cells #[.int .i64 j,.int .i64 3,.string nm,.nilIface,a] 69) I;have z:=Am.new w #[.int .i64 j,.int .i64 3,.string nm,.nilIface,a] 69;rcases F with rfl | ⟨p,q,rfl⟩
 all_goals
  go_enter Tryz.func20,Tryz.ntmps20
  go_wp2_with fail
  refine (FS B b _ acc _ _ (by simp) x (by have:=Aa d;have:=Aa f;(try simp only[zD]);omega)).mono ?_
  rintro r ae ⟨rfl,A,g⟩;have i:=y.trans g;have k:=g.row z (by omega) (by decide);obtain ⟨K,L,M,N,O⟩:=Id k;clear z g y x;dsimp only;go_wp2_with fail
  refine (Aa J _ _ ((Aa H).trans i.low) A (by have:=Aa d;have:=Aa f;(try simp only[zD]);omega)).mono ?_
  rintro r af ⟨rfl,C,l⟩;have E:=i.trans l;have m:=l.row k (by omega) (by decide);obtain ⟨P,Q,R,S,T⟩:=Id m;clear k l i A K L M N O;dsimp only;go_wp2_with fail
  refine (Dn B b _ _ _ C (by have:=Aa d;have:=Aa f;(try simp only[zD]);omega)).mono ?_
  rintro r ag ⟨rfl,U,n⟩;have V:=E.trans n;have W:=n.row m (by omega) (by decide);obtain ⟨ah,ai,aj,ak,al⟩:=Id W;clear m n E C P Q R S T;dsimp only;go_wp2_with fail
  go_end0
  exact ⟨rfl,by simpa only[zT] using U,V⟩
set_option maxHeartbeats 6400000
theorem Pg (s:ByteArray)(j:Nat)(w:World)(hs:s.size≤1048576)(a:j < s.size):
  Calls Tryz.prog 34 #[.string s,.int .i64 j] w fun e w'=>GM j (BY ((Aj s).drop j)) e∧Below w.heap.size w w':=by
 have b:=BI s j a;cases h1:I2 (s[j].toNat:Int)
 ·cases h2:dgI (s[j].toNat:Int)
  ·by_cases h3:(s[j].toNat:Int)=34
   ·have e3:s[j]=34:=UInt8.toNat_inj.1 (by have:(34 :UInt8).toNat=34:=rfl;omega);have e:BY ((Aj s).drop j)=BP ((Aj s).drop (j+1)):=by
     rw[b,BY,if_neg (by rw[Jt,h1];decide),if_neg (by rw[CK,h2];decide),if_pos e3]
    rw[e];exact U5 s j w hs a h3
   ·have e3: ¬ s[j]=34:=fun e=>h3 (by rw[e];rfl);have e:BY ((Aj s).drop j)=Be s[j] ((Aj s).drop j):=by
     rw[b,BY,if_neg (by rw[Jt,h1];decide),if_neg (by rw[CK,h2];decide),if_neg e3]
    rw[e];exact U4 s j w hs a h1 h2 h3
  ·have e:BY ((Aj s).drop j)=CX ((Aj s).drop j):=by
    rw[b,BY,if_neg (by rw[Jt,h1];decide),if_pos (by rw[CK,h2])]
   rw[e];exact XC s j w hs a h1 h2
 ·have e:BY ((Aj s).drop j)=Bz ((Aj s).drop j):=by
   rw[b,BY,if_pos (by rw[Jt,h1])]
  rw[e];exact U6 s j w hs a h1
theorem PD {c:UInt8}{r:List UInt8}{k:Int}(h:BY (c ::r)= .bad k):k=2∨k=3:=by
 rw[BY] at h;split at h
 ·rw[Bz] at h;split at h <;> first | (cases h;exact .inr rfl) | cases h
 ·split at h
  ·rw[CX] at h;split at h <;> first | (cases h;exact .inr rfl) | cases h
  ·split at h
   ·rw[BP] at h;split at h <;> first | (cases h;exact .inr rfl) | cases h
   ·rw[Be] at h;split at h
    ·cases h
    ·split at h <;> first | (cases h;exact .inl rfl) | cases h
theorem Tj (l:List UInt8):(AB l).size=l.length:=by simp[AB,ByteArray.size]
theorem J7:ZN []:=fun _ h=>nomatch h
theorem Tk {T:List Ae}{x:Ae}(h:ZN T)(hx:x.text.size≤maxLen):ZN (T ++ [x]):=fun y hy=>by
 rcases zH.1 hy with k | k
 ·exact h y k
 ·rw[zJ.1 k];exact hx
theorem H7 {w w':World}{lo n:Nat}{v:Value}{a:List Value}(h:w.ownsRow lo 42 4 v n a)(c:Below w.heap.size w w'):w'.ownsRow lo 42 4 v n a:=by
 refine ⟨h.1, ?_⟩;rcases h.2 with h2 | ⟨g,cap,d,f,h3,b,h4⟩
 ·exact .inl h2
 ·refine .inr ⟨g,cap,d,f,h3, ?_,h4⟩;rw[← b];exact c.block g (yD.1 b).1
theorem Jh {w:World}{lo n:Nat}{v:Value}{a:List Value}(h:w.ownsRow lo 42 4 v n a):∃ x c,v= .slice x n c:=by
 rcases h.2 with ⟨h2,h0⟩ | ⟨g,cap,d,b,_⟩
 ·subst h0;exact ⟨_,_,h2⟩
 ·exact ⟨_,_,b⟩
theorem KC {w:World}{b:Nat}{x:Ae}{t:TypeId}(R:Am w b #[.int .i64 x.kind,.int .i64 x.num,.string x.text,.int .i64 (x.at_:Int)] t):∀ j u,(JK x)[j]? =some u→w.cell? ((⟨b,0,none⟩:Addr).add j)=some u:=fun j u h=>by
 have a:(⟨b,0,none⟩:Addr).add j=⟨b,j,none⟩:=by by_cases e:j=0 <;> simp[Addr.add,e]
 rw[a,R.cell j,← h];simp[JK]
theorem Qk (x:Ae):∀ u∈JK x,u.oneCell'=true:=fun u h=>by
 simp only[JK,zG,List.not_mem_nil,or_false] at h;rcases h with rfl | rfl | rfl | rfl <;> rfl
def Ac0 (w:World) (R:Res) (e:Ending) (w':World):Prop:=
 ∃ x c,e= .returned (.tuple #[.slice x R.toks.length c,.agg #[.int .i64 R.code,.int .i64 (R.at_:Int)]])∧w'.ownsRow w.heap.size 42 4 (.slice x R.toks.length c) R.toks.length (EN R.toks)∧ZN R.toks∧Below w.heap.size w w'
theorem YE:(Tryz.prog.info? 42).map (fun i=>(i.zero,i.size,i.bytes))=some (some (.agg #[.int .i64 0,.int .i64 0,.string ByteArray.empty,.int .i64 0]),4,40):=by kernel_rfl
theorem QL {d:Func}{a u:Tmp}(h:d.results= #[.tmp u,.cell a 30]){c:Array Value}{w:World}{b:Nat}{f g:Value}(i:c.getD a undef= .pointer (some ⟨b,0,none⟩))
  (j:w.cell? ⟨b,0,none⟩=some f)(g1:w.cell? ⟨b,1,none⟩=some g):
  (results d c).run Tryz.prog w= .ok (.tuple #[c.getD u undef,.agg #[f,g]]) w:=by
 rw[yA] at i;simp[results,h,i,go_sem,j,g1]
theorem Iv (t:ByteArray)(w:World):
  Calls Tryz.prog 11 #[.string t] w fun e w'=>Ac0 w (Ay t) e w':=by
 by_cases h4: 4000 < t.size
 ·have aw:(4000 :Int) < (t.size:Int):=by omega
  go_enter Tryz.func11,Tryz.ntmps11
  go_wp2
  have R:=Am.new w #[.int .i64 1,.int .i64 0] 30;have z:=R.cell 0;have g1:=R.cell 1;refine bodyPost_ret (QL Tryz.results11 rfl z g1) rfl ?_;rw[Ay,if_pos h4];exact ⟨none,0,rfl,World.ownsRow_nil _ _ _ _,J7,(Below.refl w.heap.size w).alloc NLN _⟩
 ·have aw: ¬ ((4000 :Int) < (t.size:Int)):=by omega
  have ht:t.size≤1048576:=by omega
  have ab:=Ab (show Ay t=AE t.size (t.size+1) (Aj t) [] by rw[Ay,if_neg h4]);obtain ⟨i,hi,ax,ay,az⟩:=info_parts YE;have M:=Am.new w #[.int .i64 0,.int .i64 0] 30;have N:=(Below.refl w.heap.size w).alloc NLN (.cells #[.int .i64 0,.int .i64 0] 30);go_enter Tryz.func11,Tryz.ntmps11
  go_wp2_with fail
  refine (LH t 0 _ (by unfold maxLen;omega) (by omega)).mono ?_;rintro e aQ ⟨⟨ac,rfl,_,aA,ad,O⟩,C⟩;rw[C];have ae:=Ab (show AE t.size (t.size+1) ((Aj t).drop ac) []=Ay t by rw[Aa ab];exact CI _ _ (by rw[O,← ad,zm]) _);have af:=Ab O;clear C ad O ab;go_wp2_with fail
  generalize w.alloc (.cells #[.int .i64 0,.int .i64 0] 30)=aR at M N ⊢;go_loopw [4,5] (fun v a wr=>∃ (k f:Nat) (T:List Ae),a= .int .i64 k∧k≤t.size∧t.size - k < f∧T.length≤k∧ZN T∧AE t.size f ((Aj t).drop k) T=Ay t∧Dj false ((Aj t).drop k)=(Aj t).drop k∧wr.ownsRow (w.heap.size+1) 42 4 v T.length (EN T)∧Am wr w.heap.size #[.int .i64 0,.int .i64 0] 30∧Below w.heap.size w wr) (fun _ a _=>t.size - (intOf a).toNat)
  case atStart=>exact ⟨ac,t.size+1, [],rfl,aA,by omega,by simp,J7,Aa ae,Aa af,World.ownsRow_nil _ _ _ _,M,N⟩
  case round=>
   obtain ⟨k,f,T,rfl,hk,hf,aS,ag,ah,ai,A,o,h⟩:=hrel;have I:=Ab ah;have P:=Ab ai;have Q:=Ab ag;clear ah ai ag M N ae af;by_cases aj:k < t.size
   ·have aB:(k:Int) < (t.size:Int):=by omega
    go_wp2_with fail
    refine (Pg t k _ ht aj).mono ?_;rintro e ak ⟨J,g⟩;have l:=BI t k aj;have S:((Aj t).drop (k+1)).length+1=t.size - k:=by rw[zj,At];omega
    cases s:BY ((Aj t).drop k) with
    |bad c=>
     rw[s] at J;obtain ⟨K,m,n,x,rfl⟩:=J;have r:=o.after g NLN;have E:=h.trans (g.mono h.size);have aC:=zL h.size g.size;obtain ⟨u,rfl⟩:∃ u,f=u+1:=⟨f - 1,by omega⟩
     have al:Ay t=⟨[],c,k⟩:=by
      rw[← Aa I,l,KN (by rw[← l];exact Aa P) (by rw[← l];exact s)]
      congr 1
      rw[S];omega
     have hc:c=2∨c=3:=PD (by rw[← l];exact s);have ao:=Ab al;clear al l S s A o h g;have U:=r.cell 0;have V:=r.cell 1;have aD:=fun j=>r.frozen j;simp only[zn,zh,zc] at U V;have aT:=r.lt;rcases hc with rfl | rfl
     ·go_wp2_with fail
      have y:=((r.set 0 (.int .i64 2)).set 1 (.int .i64 k)).alloc (.cells #[.int .i64 K,.int .i64 m,.string x,.int .i64 k] 42);have F:=((E.setCell (p:=⟨w.heap.size,0,none⟩) NLN (.int .i64 2)).setCell (p:=⟨w.heap.size,1,none⟩) NLN (.int .i64 k)).alloc (by simp;omega) (.cells #[.int .i64 K,.int .i64 m,.string x,.int .i64 k] 42);have z:_=some (Value.int .i64 2):=y.cell 0;have g1:_=some (Value.int .i64 k):=y.cell 1;refine bodyPost_ret (QL Tryz.results11 rfl z g1) rfl ?_;rw[Aa ao];exact ⟨none,0,rfl,World.ownsRow_nil _ _ _ _,J7,F⟩
     ·go_wp2_with fail
      have y:=((r.set 0 (.int .i64 3)).set 1 (.int .i64 k)).alloc (.cells #[.int .i64 K,.int .i64 m,.string x,.int .i64 k] 42);have F:=((E.setCell (p:=⟨w.heap.size,0,none⟩) NLN (.int .i64 3)).setCell (p:=⟨w.heap.size,1,none⟩) NLN (.int .i64 k)).alloc (by simp;omega) (.cells #[.int .i64 K,.int .i64 m,.string x,.int .i64 k] 42);have z:_=some (Value.int .i64 3):=y.cell 0;have g1:_=some (Value.int .i64 k):=y.cell 1;refine bodyPost_ret (QL Tryz.results11 rfl z g1) rfl ?_;rw[Aa ao];exact ⟨none,0,rfl,World.ownsRow_nil _ _ _ _,J7,F⟩
    |tok d m b H=>
     rw[s] at J;cases J;obtain ⟨aU,aE,aV⟩: 1≤H∧H≤((Aj t).drop k).length∧b.length≤H:=by have:=EJ ((Aj t).drop k);rw[s] at this;exact this
     rw[zj,At] at aE;obtain ⟨u,rfl⟩:∃ u,f=u+1:=⟨f - 1,by omega⟩
     have aF:=Ab (show AE t.size u ((Aj t).drop (k+H)) (T ++ [⟨d,m,AB b,k⟩])=Ay t by
      rw[← Aa I,l,DJ (by rw[← l];exact Aa P) (by rw[← l];exact s),← l,List.drop_drop,show t.size - (((Aj t).drop (k+1)).length+1)=k by omega])
     have ap:ZN (T ++ [⟨d,m,AB b,k⟩]):=Tk (Aa Q) (by show (AB b).size≤_;rw[Tj];unfold maxLen;omega);have aG:=Ab ap;clear l S s ap I P Q;have r:=(o.after g NLN).alloc (.cells #[.int .i64 d,.int .i64 m,.string (AB b),.int .i64 k] 42) |>.alloc (.cells #[.int .i64 d,.int .i64 m,.string (AB b),.int .i64 k] 42)
     have E:=((h.trans (g.mono h.size)).alloc (zL h.size g.size) (.cells #[.int .i64 d,.int .i64 m,.string (AB b),.int .i64 k] 42)).alloc (by have:=zL h.size g.size;simp;omega) (.cells #[.int .i64 d,.int .i64 m,.string (AB b),.int .i64 k] 42);have L:=((H7 A g).alloc (.cells #[.int .i64 d,.int .i64 m,.string (AB b),.int .i64 k] 42)).alloc (.cells #[.int .i64 d,.int .i64 m,.string (AB b),.int .i64 k] 42);have W:=Am.new (ak.alloc (.cells #[.int .i64 d,.int .i64 m,.string (AB b),.int .i64 k] 42)) #[.int .i64 d,.int .i64 m,.string (AB b),.int .i64 k] 42;simp only[World.size_alloc] at W;have aC:=o.lt;have aW:=g.size;go_wp2_with (at_builtin;refine wpList_append_own _ rfl _ _ 37 rfl (w.heap.size+1) 42 i (.agg #[.int .i64 0,.int .i64 0,.string ByteArray.empty,.int .i64 0]) 4 40 Tryz.underlying37 hi ax ay az rfl (by decide) _ _ _ rfl L ⟨ak.heap.size+1,0,none⟩ 1 1 (JK ⟨d,m,AB b,k⟩) rfl rfl ?c1 ?c2 ?c3 ?c4 ?c5 ?_)
     case c1=>exact KC (x:=⟨d,m,AB b,k⟩) W
     case c2=>exact Qk _
     case c3=>unfold maxLen;omega
     case c4=>omega
     case c5=>simp;omega
     intro aX X aH Y _;have aI:Below w.heap.size w X:=E.grown Y (by simp;omega) (fun q hq=>by have:=(L.lt q hq).1;omega);have aJ:Am X w.heap.size #[.int .i64 0,.int .i64 0] 30:=r.below (B:=w.heap.size+1) (BRN.grown Y (by simp;omega) (fun q hq=>(L.lt q hq).1)) (by omega);clear Y A L W o r h E g;go_wp2_with fail
     have Z:=LH t (k+H) X (by unfold maxLen;omega) (by omega);rw[zU] at Z;refine Z.mono ?_;rintro e aY ⟨⟨aq,rfl,aZ,aK,ar,aa⟩,C⟩;rw[C];clear C Z;have aL:=Ab (show AE t.size u ((Aj t).drop aq) (T ++ [⟨d,m,AB b,k⟩])=Ay t by rw[← Aa aF];exact CI _ _ (by rw[aa,ar]) _);have aM:=Ab aa;clear ar aa;go_wp2_with fail
     go_roundw
     case rel=>exact ⟨aq,u,T ++ [⟨d,m,AB b,k⟩],rfl,aK,by omega,by simp;omega,Aa aG,Aa aL,Aa aM,by rw[KF,zB];exact aH,aJ,aI⟩
     case measure=>simp[intOf];omega
   ·have e:(Aj t).drop k= []:=List.drop_of_length_le (by rw[At];omega);have au:Ay t=⟨T,0,0⟩:=by rw[← Aa I,e,ID]
    have aN:=Ab au;have aB: ¬ ((k:Int) < (t.size:Int)):=by omega
    clear au e;have U:=o.cell 0;have V:=o.cell 1;have aD:=fun j=>o.frozen j;simp only[zn,zh,zc] at U V;obtain ⟨x,av,aO⟩:=Jh A;subst aO;go_wp2_with fail
    have y:=(o.set 0 (.int .i64 0)).set 1 (.int .i64 0);have F:=(h.setCell (p:=⟨w.heap.size,0,none⟩) NLN (.int .i64 0)).setCell (p:=⟨w.heap.size,1,none⟩) NLN (.int .i64 0);have z:_=some (Value.int .i64 0):=y.cell 0;have g1:_=some (Value.int .i64 0):=y.cell 1;have aP:((wr.setCell ⟨w.heap.size,0,none⟩ (.int .i64 0)).setCell ⟨w.heap.size,1,none⟩ (.int .i64 0)).ownsRow w.heap.size 42 4 (.slice x T.length av) T.length (EN T):=
     (Fj A (fun p hp=>by
      have h1:w.heap.size+1≤p.block:=by subst hp;exact (A.lt _ rfl).1
      rw[heap_setCell_other _ _ _ _ (by show p.block≠w.heap.size;omega),heap_setCell_other _ _ _ _ (by show p.block≠w.heap.size;omega)])).mono (by omega)
    refine bodyPost_ret (QL Tryz.results11 rfl z g1) rfl ?_;rw[Aa aN];exact ⟨x,av,rfl,aP,Aa Q,F⟩
end Go.Proofs.YtffkofkjpckmpaaGreatDoor
namespace Go.Proofs.YtffkofkjpckmpaaGreatDoor
set_option maxHeartbeats 1600000
open Go.RowKit
set_option linter.unusedVariables false
variable {aS aB aT : Addr}
def QY (aS aB aT:Addr):N5→Value
 | .bad c=> .tuple #[.agg #[.int .i64 0,.int .i64 0,.string ⟨#[]⟩,.int .i64 0],.int .i64 0,Jc aS aB aT c]
 | .tok k m s w=> .tuple #[.agg #[.int .i64 k,.int .i64 m,.string (AB s),.int .i64 0],.int .i64 (w:Int),.nilIface]
theorem CP {g:World}{b:Nat}{i j k l:Value}{t:TypeId}(h:Am g b #[i,j,k,l] t)(a c d f:Value):
  ((((g.setCell ⟨b,0,none⟩ a).setCell ⟨b,1,none⟩ c).setCell ⟨b,2,none⟩ d).setCell ⟨b,3,none⟩ f).drew.cell? ⟨b,0,none⟩=some a∧((((g.setCell ⟨b,0,none⟩ a).setCell ⟨b,1,none⟩ c).setCell ⟨b,2,none⟩ d).setCell ⟨b,3,none⟩ f).drew.cell? ⟨b,1,none⟩=some c∧
  ((((g.setCell ⟨b,0,none⟩ a).setCell ⟨b,1,none⟩ c).setCell ⟨b,2,none⟩ d).setCell ⟨b,3,none⟩ f).drew.cell? ⟨b,2,none⟩=some d∧((((g.setCell ⟨b,0,none⟩ a).setCell ⟨b,1,none⟩ c).setCell ⟨b,2,none⟩ d).setCell ⟨b,3,none⟩ f).drew.cell? ⟨b,3,none⟩=some f:=by
 have R:Am ((((g.setCell ⟨b,0,none⟩ a).setCell ⟨b,1,none⟩ c).setCell ⟨b,2,none⟩ d).setCell ⟨b,3,none⟩ f).drew b #[a,c,d,f] t:=⟨(AI h a c d f).out⟩
 obtain ⟨m,g1,g2,g3,_⟩:=AU R;exact ⟨m,g1,g2,g3⟩
theorem EV (aS aB aT:Addr):QY aS aB aT (.bad 3)= .tuple #[.agg #[.int .i64 0,.int .i64 0,.string ⟨#[]⟩,.int .i64 0],.int .i64 0,.iface 276 (.pointer (some aT))]:=rfl
theorem Abn (aS aB aT:Addr):QY aS aB aT (.bad 2)= .tuple #[.agg #[.int .i64 0,.int .i64 0,.string ⟨#[]⟩,.int .i64 0],.int .i64 0,.iface 276 (.pointer (some aB))]:=rfl
theorem QN (r:ByteArray)(w:World)(hs:r.size≤1048576)(S:Oc w aS aB aT):
  Calls Tryz.prog 120 #[.string r] w fun e w'=>e= .returned (QY aS aB aT (Bz (Aj r)))∧Below w.heap.size w w':=by
 have l:=GI Dk (Aj r);rw[At] at l;have d:=Am.new w #[.int .i64 0,.int .i64 0,.string ⟨#[]⟩,.int .i64 0] 42;have f:=(Below.refl w.heap.size w).alloc NLN (.cells #[.int .i64 0,.int .i64 0,.string ⟨#[]⟩,.int .i64 0] 42);have m:=(S.below f NLN).gT;have p:=S.big;have q:w.heap.size≠5:=by omega
 have s: 5≠w.heap.size:=by omega
 go_enter Tryz.func120,Tryz.ntmps120
 go_wp2_with fail
 generalize w.alloc (.cells #[.int .i64 0,.int .i64 0,.string ⟨#[]⟩,.int .i64 0] 42)=t at d f m ⊢;refine (Nv r _ (by unfold maxLen;omega)).mono ?_;rintro e n ⟨rfl,a⟩;rw[a];clear a;obtain ⟨u,d1,d2,d3,v⟩:=AU d;by_cases j: 32 < AR Dk (Aj r)
 ·have o:(32 :Int) < (AR Dk (Aj r):Int):=by omega
  go_wp2_with fail
  go_region
  go_wp2_with fail
  have g:=Ao (b:=w.heap.size) f NLN (.int .i64 0) (.int .i64 0) (.string ⟨#[]⟩) (.int .i64 0);obtain ⟨c,g1,g2,g3⟩:=CP d (.int .i64 0) (.int .i64 0) (.string ⟨#[]⟩) (.int .i64 0);refine bodyPost_ret (AA Tryz.results120 rfl c g1 g2 g3) rfl ⟨?_,g.drew⟩;rw[Bz,if_pos j,EV];rfl
 ·have o: ¬ ((32 :Int) < (AR Dk (Aj r):Int)):=by omega
  have y:(AR Dk (Aj r):Int)≤(r.size:Int):=by omega
  have k:=Ab (show Bz (Aj r)= .tok (if Fc ((Aj r).take (AR Dk (Aj r))) then 4 else 3) 0 ((Aj r).take (AR Dk (Aj r))) (AR Dk (Aj r)) by rw[Bz,if_neg j]);have h:=Ab (show Aj (r.extract 0 (AR Dk (Aj r)))=(Aj r).take (AR Dk (Aj r)) by rw[BV,zm,Nat.sub_zero]);go_wp2_with fail
  generalize r.extract 0 (AR Dk (Aj r))=x at h ⊢;refine (NB x _).mono ?_;rintro e n ⟨rfl,a⟩;rw[a];clear a;cases a:Fc (Aj x)
  ·have i:=Ab a;clear a;go_wp2_with fail
   have g:=Ao (b:=w.heap.size) f NLN (.int .i64 3) (.int .i64 0) (.string x) (.int .i64 0);obtain ⟨c,g1,g2,g3,_⟩:=AU (AI d (.int .i64 3) (.int .i64 0) (.string x) (.int .i64 0));simp only[CC] at c g1 g2 g3;refine bodyPost_ret (AA Tryz.results120 rfl c g1 g2 g3) rfl ⟨?_,g⟩;rw[Aa k,← Aa h,Aa i];simp only[QY,Bn];rfl
  ·have i:=Ab a;clear a;go_wp2_with fail
   have g:=Ao (b:=w.heap.size) f NLN (.int .i64 4) (.int .i64 0) (.string x) (.int .i64 0);obtain ⟨c,g1,g2,g3,_⟩:=AU (AI d (.int .i64 4) (.int .i64 0) (.string x) (.int .i64 0));simp only[CC] at c g1 g2 g3;refine bodyPost_ret (AA Tryz.results120 rfl c g1 g2 g3) rfl ⟨?_,g⟩;rw[Aa k,← Aa h,Aa i];simp only[QY,Bn];rfl
end Go.Proofs.YtffkofkjpckmpaaGreatDoor
namespace Go.Proofs.YtffkofkjpckmpaaGreatDoor
set_option maxHeartbeats 3200000
open Go.RowKit
set_option linter.unusedVariables false
variable {aS aB aT : Addr}
theorem Acu {y:ByteArray}{n:Nat}(h:n < y.size):(Aj y)[n]? =some y[n]:=by
 have a:n < (Aj y).length:=by rw[At];exact h
 rw[zM a];rfl
theorem NC (r:ByteArray)(w:World)(hs:r.size≤1048576)(h0: 0 < r.size)(S:Oc w aS aB aT):
  Calls Tryz.prog 121 #[.string r] w fun e w'=>e= .returned (QY aS aB aT (BP ((Aj r).drop 1)))∧Below w.heap.size w w':=by
 have f:=Am.new w #[.int .i64 0,.int .i64 0,.string ⟨#[]⟩,.int .i64 0] 42;have g:=(Below.refl w.heap.size w).alloc NLN (.cells #[.int .i64 0,.int .i64 0,.string ⟨#[]⟩,.int .i64 0] 42);have q:=(S.below g NLN).gT;have C:=S.big;have E:w.heap.size≠5:=by omega
 have F: 5≠w.heap.size:=by omega
 have H:(1 :Int)≤(r.size:Int):=by omega
 have l:=Ab (Tl r 1);have s:(r.extract 1 r.size).size=r.size - 1:=by rw[zt];omega
 go_enter Tryz.func121,Tryz.ntmps121
 go_wp2_with fail
 generalize w.alloc (.cells #[.int .i64 0,.int .i64 0,.string ⟨#[]⟩,.int .i64 0] 42)=I at f g q ⊢;generalize r.extract 1 r.size=y at l s ⊢;have m:=GI Jo (Aj y);rw[At] at m;refine (ZP y _ (by unfold maxLen;omega)).mono ?_;rintro e J ⟨rfl,o⟩;rw[o];clear o;obtain ⟨K,d1,d2,d3,L⟩:=AU f;have a:=Ab (show BP ((Aj r).drop 1)=if 32 < AR Jo (Aj y)∨(Aj y)[AR Jo (Aj y)]? ≠some 34 then .bad 3 else .tok 2 0 ((Aj y).take (AR Jo (Aj y))) (AR Jo (Aj y)+2) by rw[← Aa l];rfl);have j:=Ab (show Aj (y.extract 0 (AR Jo (Aj y)))=(Aj y).take (AR Jo (Aj y)) by rw[BV,zm,Nat.sub_zero]);generalize AR Jo (Aj y)=n at m a j ⊢;by_cases t: 32 < n
 ·have u:(32 :Int) < (n:Int):=by omega
  have a:=Ab ((Aa a).trans (if_pos (.inl t)));go_wp2_with fail
  go_region
  go_wp2_with fail
  have d:=Ao (b:=w.heap.size) g NLN (.int .i64 0) (.int .i64 0) (.string ⟨#[]⟩) (.int .i64 0);obtain ⟨c,g1,g2,g3⟩:=CP f (.int .i64 0) (.int .i64 0) (.string ⟨#[]⟩) (.int .i64 0);exact bodyPost_ret (AA Tryz.results121 rfl c g1 g2 g3) rfl ⟨by rw[Aa a,EV];rfl,d.drew⟩
 have u: ¬ ((32 :Int) < (n:Int)):=by omega
 by_cases M:n=y.size
 ·have e:(Aj y)[n]? ≠some 34:=by rw[List.getElem?_eq_none (by rw[At];omega)];simp
  have a:=Ab ((Aa a).trans (if_pos (.inr e)));clear e;have v:((n:Int)==((r.size - 1 :Nat):Int))=true:=zI.2 (by omega);have z:((n:Int)==(y.size:Int))=true:=zI.2 (by omega);go_wp2_with fail
  go_region
  go_wp2_with fail
  have d:=Ao (b:=w.heap.size) g NLN (.int .i64 0) (.int .i64 0) (.string ⟨#[]⟩) (.int .i64 0);obtain ⟨c,g1,g2,g3⟩:=CP f (.int .i64 0) (.int .i64 0) (.string ⟨#[]⟩) (.int .i64 0);exact bodyPost_ret (AA Tryz.results121 rfl c g1 g2 g3) rfl ⟨by rw[Aa a,EV];rfl,d.drew⟩
 have A:n < y.size:=by omega
 have N:(n:Int) < (y.size:Int):=by omega
 have O:(n:Int) < ((r.size - 1 :Nat):Int):=by omega
 have v:((n:Int)==((r.size - 1 :Nat):Int))=false:=zA.2 (by omega);have z:((n:Int)==(y.size:Int))=false:=zA.2 (by omega);have h:=Acu A;by_cases i:(y[n].toNat:Int)=34
 ·have p:y[n]=34:=UInt8.toNat_inj.1 (by have:(34 :UInt8).toNat=34:=rfl;omega);have e: ¬ (32 < n∨(Aj y)[n]? ≠some 34):=by rw[h,p];simp;omega
  have a:=Ab ((Aa a).trans (if_neg e));clear e;clear h p;have B:((y[n].toNat:Int)== 34)=true:=zI.2 i;go_wp2_with fail
  generalize y.extract 0 n=x at j ⊢;have d:=Ao (b:=w.heap.size) g NLN (.int .i64 2) (.int .i64 0) (.string x) (.int .i64 0);obtain ⟨c,g1,g2,g3,_⟩:=AU (AI f (.int .i64 2) (.int .i64 0) (.string x) (.int .i64 0));simp only[CC] at c g1 g2 g3;refine bodyPost_ret (AA Tryz.results121 rfl c g1 g2 g3) rfl ⟨?_,d⟩;rw[Aa a,← Aa j];simp only[QY,Bn];rw[zU];rfl
 ·have e:(Aj y)[n]? ≠some 34:=by rw[h];intro k;exact i (by rw[Option.some.inj k];rfl)
  have a:=Ab ((Aa a).trans (if_pos (.inr e)));clear h e;have B:=zA.2 i;have P:((y[n].toNat:Int) != 34)=true:=zw.2 i;go_wp2_with fail
  go_region
  go_wp2_with fail
  have d:=Ao (b:=w.heap.size) g NLN (.int .i64 0) (.int .i64 0) (.string ⟨#[]⟩) (.int .i64 0);obtain ⟨c,g1,g2,g3⟩:=CP f (.int .i64 0) (.int .i64 0) (.string ⟨#[]⟩) (.int .i64 0);exact bodyPost_ret (AA Tryz.results121 rfl c g1 g2 g3) rfl ⟨by rw[Aa a,EV];rfl,d.drew⟩
theorem Abo {l:List UInt8}{c:UInt8}(h:Lib.indexByte l c < 0):l.contains c=false:=by
 have h1:Lib.indexByte l c= -1:=by have:=Lib.indexByte_ge l c;omega
 rw[← Bool.not_eq_true,yB];intro hm;obtain ⟨i,hi,e⟩:=yE hm;exact Lib.indexByte_none h1 i (by rw[zM hi,e])
theorem Abp {l:List UInt8}{c:UInt8}(h: ¬ Lib.indexByte l c < 0):l.contains c=true:=by
 obtain ⟨d,b⟩:=Int.eq_ofNat_of_zero_le (a:=Lib.indexByte l c) (by omega);have:=(Lib.indexByte_some b).1;rw[yB];exact Z7 this
theorem AdA (c:UInt8):(c.toNat:Int).toNat.toUInt8=c:=by simp
theorem ND (w:World)(S:Oc w aS aB aT):∃ a,w.alloc (.cells #[.int .i64 0,.int .i64 0,.string ⟨#[]⟩,.int .i64 0] 42)=a∧Am a w.heap.size #[.int .i64 0,.int .i64 0,.string ⟨#[]⟩,.int .i64 0] 42∧Below w.heap.size w a∧Oc a aS aB aT:=by
 have b:=(Below.refl w.heap.size w).alloc NLN (.cells #[.int .i64 0,.int .i64 0,.string ⟨#[]⟩,.int .i64 0] 42);exact ⟨_,rfl,Am.new w _ _,b,S.below b NLN⟩
theorem QO {x:ByteArray}{l y:List UInt8}(hx:Aj x=l.take 2)(h:(x.toList== y)=true)(hy:y∈BQ):BQ.contains (l.take 2)=true∧2≤l.length:=by
 rw[zI,zZ] at h;have e:l.take 2=y:=hx.symm.trans h;rw[e,yB];refine ⟨hy, ?_⟩;have h2:∀ a∈BQ,a.length=2:=by decide
 have:=h2 _ hy;rw[← e,zg] at this;omega
theorem Abq {x:ByteArray}{l:List UInt8}(hx:Aj x=l.take 2)(h:∀ y∈BQ,(x.toList== y)=false):BQ.contains (l.take 2)=false:=by
 rw[← Bool.not_eq_true,yB];intro hm;have:=h _ hm;rw[zA,zZ] at this;exact this hx
theorem QP (r:ByteArray)(w:World)(hs:r.size≤1048576)(h0: 0 < r.size)(S:Oc w aS aB aT):
  Calls Tryz.prog 122 #[.string r] w fun e w'=>e= .returned (QY aS aB aT (Be r[0] (Aj r)))∧Below w.heap.size w w':=by
 obtain ⟨u,s,i,j,t⟩:=ND w S;have v:=t.gB;have x:=S.big;have z:w.heap.size≠4:=by omega
 have A: 4≠w.heap.size:=by omega
 have B:(1 :Int)≤(r.size:Int):=by omega
 have C: 0≤min (2 :Int) (r.size:Int):=by omega
 have E:min (2 :Int) (r.size:Int)≤(r.size:Int):=by omega
 have k:=Ab (show Aj (r.extract 0 (min 2 (r.size:Int)).toNat)=(Aj r).take 2 by
  rw[BV,zm,Nat.sub_zero];rcases Nat.lt_or_ge r.size 2 with h | h
  ·rw[show (min (2 :Int) (r.size:Int)).toNat=r.size by omega,zk (by rw[At];exact NLN),zk (by rw[At];omega)]
  ·rw[show (min (2 :Int) (r.size:Int)).toNat=2 by omega])
 have g:=Ab (show Aj (r.extract 0 2)=(Aj r).take 2 by rw[BV,zm]);have n:=Ab (show Aj (r.extract 0 1)= [r[0]] by
  have h:=BI r 0 h0;rw[zm] at h;rw[BV,zm,h];rfl)
 obtain ⟨F,d1,d2,d3,H⟩:=AU i;rcases ze ((r.extract 0 (min 2 (r.size:Int)).toNat).toList== [61,62]) with h0 | h0
 ·have c:=Ab (QO (Aa k) h0 (by decide));have l:(2 :Int)≤(r.size:Int):=by have:=(Aa c).2;rw[At] at this;omega
  go_enter Tryz.func122,Tryz.ntmps122
  go_wp2_with fail
  generalize r.extract 0 2=d at g ⊢;have f:=Ao (b:=w.heap.size) j NLN (.int .i64 5) (.int .i64 0) (.string d) (.int .i64 0);obtain ⟨a,g1,g2,g3,_⟩:=AU (AI i (.int .i64 5) (.int .i64 0) (.string d) (.int .i64 0));simp only[CC] at a g1 g2 g3;refine bodyPost_ret (AA Tryz.results122 rfl a g1 g2 g3) rfl ⟨?_,f⟩;rw[Be,if_pos (Aa c).1,← Aa g];simp only[QY,Bn];rfl
 rcases ze ((r.extract 0 (min 2 (r.size:Int)).toNat).toList== [61,61]) with h1 | h1
 ·have c:=Ab (QO (Aa k) h1 (by decide));have l:(2 :Int)≤(r.size:Int):=by have:=(Aa c).2;rw[At] at this;omega
  go_enter Tryz.func122,Tryz.ntmps122
  go_wp2_with fail
  generalize r.extract 0 2=d at g ⊢;have f:=Ao (b:=w.heap.size) j NLN (.int .i64 5) (.int .i64 0) (.string d) (.int .i64 0);obtain ⟨a,g1,g2,g3,_⟩:=AU (AI i (.int .i64 5) (.int .i64 0) (.string d) (.int .i64 0));simp only[CC] at a g1 g2 g3;refine bodyPost_ret (AA Tryz.results122 rfl a g1 g2 g3) rfl ⟨?_,f⟩;rw[Be,if_pos (Aa c).1,← Aa g];simp only[QY,Bn];rfl
 rcases ze ((r.extract 0 (min 2 (r.size:Int)).toNat).toList== [33,61]) with h2 | h2
 ·have c:=Ab (QO (Aa k) h2 (by decide));have l:(2 :Int)≤(r.size:Int):=by have:=(Aa c).2;rw[At] at this;omega
  go_enter Tryz.func122,Tryz.ntmps122
  go_wp2_with fail
  generalize r.extract 0 2=d at g ⊢;have f:=Ao (b:=w.heap.size) j NLN (.int .i64 5) (.int .i64 0) (.string d) (.int .i64 0);obtain ⟨a,g1,g2,g3,_⟩:=AU (AI i (.int .i64 5) (.int .i64 0) (.string d) (.int .i64 0));simp only[CC] at a g1 g2 g3;refine bodyPost_ret (AA Tryz.results122 rfl a g1 g2 g3) rfl ⟨?_,f⟩;rw[Be,if_pos (Aa c).1,← Aa g];simp only[QY,Bn];rfl
 rcases ze ((r.extract 0 (min 2 (r.size:Int)).toNat).toList== [60,61]) with h3 | h3
 ·have c:=Ab (QO (Aa k) h3 (by decide));have l:(2 :Int)≤(r.size:Int):=by have:=(Aa c).2;rw[At] at this;omega
  go_enter Tryz.func122,Tryz.ntmps122
  go_wp2_with fail
  generalize r.extract 0 2=d at g ⊢;have f:=Ao (b:=w.heap.size) j NLN (.int .i64 5) (.int .i64 0) (.string d) (.int .i64 0);obtain ⟨a,g1,g2,g3,_⟩:=AU (AI i (.int .i64 5) (.int .i64 0) (.string d) (.int .i64 0));simp only[CC] at a g1 g2 g3;refine bodyPost_ret (AA Tryz.results122 rfl a g1 g2 g3) rfl ⟨?_,f⟩;rw[Be,if_pos (Aa c).1,← Aa g];simp only[QY,Bn];rfl
 have o:=Ab (Abq (Aa k) (by
  intro y hy;simp only[BQ,zG,List.not_mem_nil,or_false] at hy;rcases hy with rfl | rfl | rfl | rfl <;> assumption))
 go_enter Tryz.func122,Tryz.ntmps122
 go_wp2_with fail
 clear s;refine (Tryz.strings_IndexByte _ _ _).mono ?_;rintro e I ⟨rfl,p⟩;rw[p,AdA];clear p;rw[show (⟨#[60,43,45,42,47,37,124,38,92,40,41,123,125,44,59,61]⟩:ByteArray).data.toList=CZ from rfl];by_cases hi:Lib.indexByte CZ r[0] < 0
 ·have m:=Ab (Abo hi);go_wp2_with fail
  go_region
  go_wp2_with fail
  have f:=Ao (b:=w.heap.size) j NLN (.int .i64 0) (.int .i64 0) (.string ⟨#[]⟩) (.int .i64 0);obtain ⟨a,g1,g2,g3⟩:=CP i (.int .i64 0) (.int .i64 0) (.string ⟨#[]⟩) (.int .i64 0);refine bodyPost_ret (AA Tryz.results122 rfl a g1 g2 g3) rfl ⟨?_,f.drew⟩;rw[Be,if_neg (by rw[Aa o];decide),if_neg (by rw[Aa m];decide),Abn];rfl
 ·have m:=Ab (Abp hi);go_wp2_with fail
  generalize r.extract 0 1=q at n ⊢;have f:=Ao (b:=w.heap.size) j NLN (.int .i64 5) (.int .i64 0) (.string q) (.int .i64 0);obtain ⟨a,g1,g2,g3,_⟩:=AU (AI i (.int .i64 5) (.int .i64 0) (.string q) (.int .i64 0));simp only[CC] at a g1 g2 g3;refine bodyPost_ret (AA Tryz.results122 rfl a g1 g2 g3) rfl ⟨?_,f⟩;rw[Be,if_neg (by rw[Aa o];decide),if_pos (Aa m),← Aa n];simp only[QY,Bn];rfl
end Go.Proofs.YtffkofkjpckmpaaGreatDoor
namespace Go.Proofs.YtffkofkjpckmpaaGreatDoor
set_option maxHeartbeats 3200000
open Go.RowKit
set_option linter.unusedVariables false
variable {aS aB aT : Addr}
theorem Ke (M:Nat)(a: 10000000000000000000≤M):∀ (d:List UInt8) (acc:Nat),d.all CK=true→(acc+1) * 10 ^ d.length≤10000000000000000000→∃ u,Lib.parseUintM M acc d= .ok u∧(u:Int)=(acc:Int) * 10 ^ d.length+DZ d
 | [],acc,_,_=>⟨acc,rfl,by simp[DZ]⟩
 |c ::r,acc,h,hb=>by
  rw[z8,zE] at h;obtain ⟨h1,h2⟩:=(QM c).1 h.1;have hp: 1≤10 ^ r.length:=Nat.one_le_pow _ _ (by decide);rw[List.length_cons,Nat.pow_succ] at hb;have b:(acc+1) * 10≤10000000000000000000:=by
   refine zL ?_ hb;rw[Nat.mul_comm (10 ^ r.length) 10,← Nat.mul_assoc];exact Nat.le_mul_of_pos_right _ (by omega)
  obtain ⟨u,e1,e2⟩:=Ke M a r (acc * 10+(c.toNat - 48)) h.2 (by
   refine zL ?_ hb;rw[Nat.mul_comm (10 ^ r.length) 10,← Nat.mul_assoc];exact Nat.mul_le_mul_right _ (by omega))
  refine ⟨u, ?_, ?_⟩
  ·rw[Lib.parseUintM,if_pos (by omega),if_neg (by omega),if_neg (by omega)];exact e1
  ·rw[e2,Nw,List.length_cons,Int.pow_succ,← Int.add_assoc]
   congr 1
   rw[zU,Int.natCast_mul,Int.natCast_sub (by omega),Int.add_mul,Int.mul_comm (10 ^ r.length) 10,← Int.mul_assoc];rfl
theorem PE {d:List UInt8}(h0:d≠ [])(a:d.length≤19)(h:d.all CK=true):Lib.parseIntB 64 d=if 9223372036854775807 < DZ d then .range else .ok (DZ d):=by
 obtain ⟨u,e1,e2⟩:=Ke (2 ^ 64 - 1) (by decide) d 0 h (by
  have: 10 ^ d.length≤10 ^ 19:=Nat.pow_le_pow_right (by decide) a;have e: 10 ^ 19=10000000000000000000:=rfl;omega)
 simp only[Int.natCast_zero,Int.zero_mul,Int.zero_add] at e2;cases d with
 |nil=>exact absurd rfl h0
 |cons c r=>
  have hc:=(QM c).1 (by rw[z8,zE] at h;exact h.1);have b: ¬ c.toNat=43:=by omega
  have f: ¬ c.toNat=45:=by omega
  have e3:Lib.parseUintB 64 (c ::r)= .ok u:=by rw[Lib.parseUintB,if_neg (by simp)];exact e1
  rw[Lib.parseIntB];simp only[b,f,or_self,if_false,e3];by_cases hu: 9223372036854775807 < DZ (c ::r)
  ·rw[if_pos hu,if_pos ⟨not_false,by show 9223372036854775808≤u;omega⟩]
  ·rw[if_neg hu,if_neg (fun k=>by have: 9223372036854775808≤u:=k.2;omega),if_neg (fun k=>k.1),e2]
theorem NE (r:ByteArray)(w:World)(hs:r.size≤1048576)(h0: 1≤AR CK (Aj r))(S:Oc w aS aB aT):
  Calls Tryz.prog 119 #[.string r] w fun e w'=>e= .returned (QY aS aB aT (CX (Aj r)))∧Below w.heap.size w w':=by
 obtain ⟨y,V,z,m,F⟩:=ND w S;have K:=F.gT;have Z:=S.big;have aa:w.heap.size≠5:=by omega
 have ab: 5≠w.heap.size:=by omega
 have U:=GI CK (Aj r);rw[At] at U;obtain ⟨C,d1,d2,d3,E⟩:=AU z;have o:=Ab (show Aj (r.extract 0 (AR CK (Aj r)))=(Aj r).take (AR CK (Aj r)) by rw[BV,zm,Nat.sub_zero]);have L:=Ab (Ep CK (Aj r));have a:=Ab (show CX (Aj r)=if 19 < AR CK (Aj r)∨BH (Aj r) (AR CK (Aj r))=true∨9223372036854775807 < DZ ((Aj r).take (AR CK (Aj r))) then .bad 3 else .tok 1 (DZ ((Aj r).take (AR CK (Aj r)))) [] (AR CK (Aj r)) from rfl);have M:(r.extract 0 (AR CK (Aj r))).size=AR CK (Aj r):=by rw[zt];omega
 go_enter Tryz.func119,Tryz.ntmps119
 go_wp2_with fail
 clear V;refine (ZO r _ (by unfold maxLen;omega)).mono ?_;rintro e ac ⟨rfl,c⟩;rw[c];clear c;generalize AR CK (Aj r)=n at h0 U a o L M ⊢;have ad:(n:Int)≤(r.size:Int):=by omega
 by_cases O: 19 < n
 ·have W:(19 :Int) < (n:Int):=by omega
  have a:=Ab ((Aa a).trans (if_pos (.inl O)));go_wp2_with fail
  go_region
  go_wp2_with fail
  have i:=Ao (b:=w.heap.size) m NLN (.int .i64 0) (.int .i64 0) (.string ⟨#[]⟩) (.int .i64 0);obtain ⟨g,g1,g2,g3⟩:=CP z (.int .i64 0) (.int .i64 0) (.string ⟨#[]⟩) (.int .i64 0);exact bodyPost_ret (AA Tryz.results119 rfl g g1 g2 g3) rfl ⟨by rw[Aa a,EV];rfl,i.drew⟩
 have W: ¬ ((19 :Int) < (n:Int)):=by omega
 by_cases X:n < r.size
 ·have Y:(n:Int) < (r.size:Int):=by omega
  have hf:BH (Aj r) n=(Jt r[n] || decide (r[n]=95)):=by
   have:=NA (s:=r) (j:=0) X (zN _)
   rwa[zm,Nat.sub_zero] at this
  cases A:I2 (r[n].toNat:Int)
  ·by_cases P:(r[n].toNat:Int)=95
   ·have e:BH (Aj r) n=true:=by rw[hf];simp[Jt,ZR P]
    have a:=Ab ((Aa a).trans (if_pos (.inr (.inl e))));clear e hf A;go_wp2_with (go_at_call 104;refine (Bc _ _).mono ?_;rintro e w' ⟨rfl,c⟩;rw[show I2 95=false from by decide,c];clear c)
    go_region
    go_wp2_with fail
    have i:=Ao (b:=w.heap.size) m NLN (.int .i64 0) (.int .i64 0) (.string ⟨#[]⟩) (.int .i64 0);obtain ⟨g,g1,g2,g3⟩:=CP z (.int .i64 0) (.int .i64 0) (.string ⟨#[]⟩) (.int .i64 0);exact bodyPost_ret (AA Tryz.results119 rfl g g1 g2 g3) rfl ⟨by rw[Aa a,EV];rfl,i.drew⟩
   ·have e:BH (Aj r) n=false:=by rw[hf];simp[Jt,A,Wg P]
    have ae:=zA.2 P;have Q:=Ab e;have R:=Ab A;clear e hf A;go_wp2_with (go_at_call 104;refine (Bc _ _).mono ?_;rintro e w' ⟨rfl,c⟩;rw[Aa R,c];clear c)
    generalize r.extract 0 n=x at o M ⊢;have H:Aj x≠ []:=fun k=>by have:=congrArg List.length k;rw[At,List.length_nil] at this;omega
    have h:=PE (d:=Aj x) H (by rw[At];omega) (by rw[Aa o];exact Aa L);rw[Aa o] at h;clear C d1 d2 d3 E H K;by_cases l: 9223372036854775807 < DZ ((Aj r).take n)
    ·have a:=Ab ((Aa a).trans (if_pos (.inr (.inr l))));rw[if_pos l] at h;obtain ⟨T,p,I⟩:=F.gR;have q:=Tryz.strconv_ParseInt_10_at64_range_var x (by omega) (by rw[show x.data.toList=(Aj r).take n from Aa o];exact h) T p y I;clear I h l;refine q.mono ?_;rintro e J ⟨N,rfl,_,_,f⟩;clear q;have u:=z.after f NLN;have B:=m.trans (f.mono m.size);have K:=(F.below f NLN).gT;clear f;obtain ⟨C,d1,d2,d3,E⟩:=AU u;go_wp2_with fail
     go_region
     go_wp2_with fail
     have i:=Ao (b:=w.heap.size) B NLN (.int .i64 0) (.int .i64 0) (.string ⟨#[]⟩) (.int .i64 0);obtain ⟨g,g1,g2,g3⟩:=CP u (.int .i64 0) (.int .i64 0) (.string ⟨#[]⟩) (.int .i64 0);exact bodyPost_ret (AA Tryz.results119 rfl g g1 g2 g3) rfl ⟨by rw[Aa a,EV];rfl,i.drew⟩
    ·have e: ¬ (19 < n∨BH (Aj r) n=true∨9223372036854775807 < DZ ((Aj r).take n)):=by
      rintro (k | k | k)
      ·exact O k
      ·rw[Aa Q] at k;cases k
      ·exact l k
     have a:=Ab ((Aa a).trans (if_neg e));rw[if_neg l] at h;have q:=Tryz.strconv_ParseInt_10_at64_ok x (by omega) _ (by rw[show x.data.toList=(Aj r).take n from Aa o];exact h) y;clear h l e;refine q.mono ?_;rintro e J ⟨rfl,c⟩;clear q;have f:Below y.heap.size y J:=by
      rcases c with rfl | ⟨t,rfl⟩
      ·exact BRN
      ·exact Lib.bytesWorld_below y _ t
     clear c;generalize DZ ((Aj r).take n)=v at a ⊢;have u:=z.after f NLN;have B:=m.trans (f.mono m.size);clear f;obtain ⟨C,d1,d2,d3,E⟩:=AU u;go_wp2_with fail
     have i:=Ao (b:=w.heap.size) B NLN (.int .i64 1) (.int .i64 v) (.string ⟨#[]⟩) (.int .i64 0);obtain ⟨g,g1,g2,g3,_⟩:=AU (AI u (.int .i64 1) (.int .i64 v) (.string ⟨#[]⟩) (.int .i64 0));simp only[CC] at g g1 g2 g3;refine bodyPost_ret (AA Tryz.results119 rfl g g1 g2 g3) rfl ⟨?_,i⟩;rw[Aa a];rfl
  ·have e:BH (Aj r) n=true:=by rw[hf];simp[Jt,A]
   have a:=Ab ((Aa a).trans (if_pos (.inr (.inl e))));have R:=Ab A;clear e hf A;go_wp2_with (go_at_call 104;refine (Bc _ _).mono ?_;rintro e w' ⟨rfl,c⟩;rw[Aa R,c];clear c)
   go_region
   go_wp2_with fail
   have i:=Ao (b:=w.heap.size) m NLN (.int .i64 0) (.int .i64 0) (.string ⟨#[]⟩) (.int .i64 0);obtain ⟨g,g1,g2,g3⟩:=CP z (.int .i64 0) (.int .i64 0) (.string ⟨#[]⟩) (.int .i64 0);exact bodyPost_ret (AA Tryz.results119 rfl g g1 g2 g3) rfl ⟨by rw[Aa a,EV];rfl,i.drew⟩
 ·have Y: ¬ ((n:Int) < (r.size:Int)):=by omega
  have Q:=Ab (show BH (Aj r) n=false by have:=LJ (s:=r) (j:=0) (k:=n) (by omega);rwa[zm,Nat.sub_zero] at this);go_wp2_with fail
  generalize r.extract 0 n=x at o M ⊢;have H:Aj x≠ []:=fun k=>by have:=congrArg List.length k;rw[At,List.length_nil] at this;omega
  have h:=PE (d:=Aj x) H (by rw[At];omega) (by rw[Aa o];exact Aa L);rw[Aa o] at h;clear C d1 d2 d3 E H K;by_cases l: 9223372036854775807 < DZ ((Aj r).take n)
  ·have a:=Ab ((Aa a).trans (if_pos (.inr (.inr l))));rw[if_pos l] at h;obtain ⟨T,p,I⟩:=F.gR;have q:=Tryz.strconv_ParseInt_10_at64_range_var x (by omega) (by rw[show x.data.toList=(Aj r).take n from Aa o];exact h) T p y I;clear I h l;refine q.mono ?_;rintro e J ⟨N,rfl,_,_,f⟩;clear q;have u:=z.after f NLN;have B:=m.trans (f.mono m.size);have K:=(F.below f NLN).gT;clear f;obtain ⟨C,d1,d2,d3,E⟩:=AU u;go_wp2_with fail
   go_region
   go_wp2_with fail
   have i:=Ao (b:=w.heap.size) B NLN (.int .i64 0) (.int .i64 0) (.string ⟨#[]⟩) (.int .i64 0);obtain ⟨g,g1,g2,g3⟩:=CP u (.int .i64 0) (.int .i64 0) (.string ⟨#[]⟩) (.int .i64 0);exact bodyPost_ret (AA Tryz.results119 rfl g g1 g2 g3) rfl ⟨by rw[Aa a,EV];rfl,i.drew⟩
  ·have e: ¬ (19 < n∨BH (Aj r) n=true∨9223372036854775807 < DZ ((Aj r).take n)):=by
    rintro (k | k | k)
    ·exact O k
    ·rw[Aa Q] at k;cases k
    ·exact l k
   have a:=Ab ((Aa a).trans (if_neg e));rw[if_neg l] at h;have q:=Tryz.strconv_ParseInt_10_at64_ok x (by omega) _ (by rw[show x.data.toList=(Aj r).take n from Aa o];exact h) y;clear h l e;refine q.mono ?_;rintro e J ⟨rfl,c⟩;clear q;have f:Below y.heap.size y J:=by
    rcases c with rfl | ⟨t,rfl⟩
    ·exact BRN
    ·exact Lib.bytesWorld_below y _ t
   clear c;generalize DZ ((Aj r).take n)=v at a ⊢;have u:=z.after f NLN;have B:=m.trans (f.mono m.size);clear f;obtain ⟨C,d1,d2,d3,E⟩:=AU u;go_wp2_with fail
   have i:=Ao (b:=w.heap.size) B NLN (.int .i64 1) (.int .i64 v) (.string ⟨#[]⟩) (.int .i64 0);obtain ⟨g,g1,g2,g3,_⟩:=AU (AI u (.int .i64 1) (.int .i64 v) (.string ⟨#[]⟩) (.int .i64 0));simp only[CC] at g g1 g2 g3;refine bodyPost_ret (AA Tryz.results119 rfl g g1 g2 g3) rfl ⟨?_,i⟩;rw[Aa a];rfl
end Go.Proofs.YtffkofkjpckmpaaGreatDoor
namespace Go.Proofs.YtffkofkjpckmpaaGreatDoor
set_option maxRecDepth 100000
set_option maxHeartbeats 3200000
open Go.RowKit
set_option linter.unusedVariables false
variable {aS aB aT : Addr}
theorem To {r:ByteArray}(h0: 0 < r.size):Aj r=r[0] ::(Aj r).drop 1:=by
 have h:=BI r 0 h0
 rwa[zm] at h
theorem Mc {r:ByteArray}(h0: 0 < r.size):BY (Aj r)=if I2 (r[0].toNat:Int) then Bz (Aj r) else if dgI (r[0].toNat:Int) then CX (Aj r) else if r[0]=34 then BP ((Aj r).drop 1) else Be r[0] (Aj r):=by
 have h:=To h0;generalize (Aj r).drop 1=q at h ⊢;rw[h];rfl
theorem Kf (aS aB aT:Addr)(a:N5):∃ (k m:Int) (x:ByteArray) (n:Int) (b:Value),QY aS aB aT a= .tuple #[.agg #[.int .i64 k,.int .i64 m,.string x,.int .i64 0],.int .i64 n,b]:=by
 cases a with
 |bad c=>exact ⟨_,_,_,_,_,rfl⟩
 |tok k m s w=>exact ⟨_,_,_,_,_,rfl⟩
theorem Oy (r:ByteArray)(w:World)(hs:r.size≤1048576)(h0: 0 < r.size)(S:Oc w aS aB aT):
  Calls Tryz.prog 83 #[.string r] w fun e w'=>e= .returned (QY aS aB aT (BY (Aj r)))∧Below w.heap.size w w':=by
 have F:(0 :Int) < (r.size:Int):=by omega
 obtain ⟨H,y,i,f,z⟩:=ND w S;obtain ⟨l,d1,d2,d3,o⟩:=AU i;cases p:dgI (r[0].toNat:Int)
 ·cases hl:I2 (r[0].toNat:Int)
  ·have q:=Ab p;have j:=Ab hl;clear p hl;by_cases E:(r[0].toNat:Int)=34
   ·have A:=Ab (show r[0]=34 from UInt8.toNat_inj.1 (by have:(34 :UInt8).toNat=34:=rfl;omega));have s:=Ab (show BY (Aj r)=BP ((Aj r).drop 1) by rw[Mc h0];rw[Aa j,Aa q,if_neg (by decide),if_neg (by decide),if_pos (Aa A)]);go_enter Tryz.func83,Tryz.ntmps83
    go_wp2_with (first | (go_at_call 118;refine (Cm _ _).mono ?_;rintro e w' ⟨rfl,a⟩;rw[show dgI 34=false from by decide,a];clear a) | (go_at_call 104;refine (Bc _ _).mono ?_;rintro e w' ⟨rfl,a⟩;rw[show I2 34=false from by decide,a];clear a))
    clear y;refine (NC r _ hs h0 z).mono ?_;rintro e B ⟨rfl,c⟩;obtain ⟨k,m,x,n,C,d⟩:=Kf aS aB aT (BP ((Aj r).drop 1));rw[d];have t:=Ab d;clear d;have g:=i.after c NLN;have u:=f.trans (c.mono f.size);clear c l d1 d2 d3 o i f;obtain ⟨l,d1,d2,d3,o⟩:=AU g;go_wp2_with fail
    have v:=Ao (b:=w.heap.size) u NLN (.int .i64 k) (.int .i64 m) (.string x) (.int .i64 0);obtain ⟨h,g1,g2,g3,_⟩:=AU (AI g (.int .i64 k) (.int .i64 m) (.string x) (.int .i64 0));simp only[CC] at h g1 g2 g3;refine bodyPost_ret (AA Tryz.results83 rfl h g1 g2 g3) rfl ⟨?_,v⟩;rw[Aa s,Aa t];rfl
   ·have I:=zA.2 E;have A:=Ab (show ¬ r[0]=34 from fun e=>E (by rw[e];rfl));have s:=Ab (show BY (Aj r)=Be r[0] (Aj r) by rw[Mc h0];rw[Aa j,Aa q,if_neg (by decide),if_neg (by decide),if_neg (Aa A)]);go_enter Tryz.func83,Tryz.ntmps83
    go_wp2_with (first | (go_at_call 118;refine (Cm _ _).mono ?_;rintro e w' ⟨rfl,a⟩;rw[Aa q,a];clear a) | (go_at_call 104;refine (Bc _ _).mono ?_;rintro e w' ⟨rfl,a⟩;rw[Aa j,a];clear a))
    clear y;refine (QP r _ hs h0 z).mono ?_;rintro e B ⟨rfl,c⟩;obtain ⟨k,m,x,n,C,d⟩:=Kf aS aB aT (Be r[0] (Aj r));rw[d];have t:=Ab d;clear d;have g:=i.after c NLN;have u:=f.trans (c.mono f.size);clear c l d1 d2 d3 o i f;obtain ⟨l,d1,d2,d3,o⟩:=AU g;go_wp2_with fail
    have v:=Ao (b:=w.heap.size) u NLN (.int .i64 k) (.int .i64 m) (.string x) (.int .i64 0);obtain ⟨h,g1,g2,g3,_⟩:=AU (AI g (.int .i64 k) (.int .i64 m) (.string x) (.int .i64 0));simp only[CC] at h g1 g2 g3;refine bodyPost_ret (AA Tryz.results83 rfl h g1 g2 g3) rfl ⟨?_,v⟩;rw[Aa s,Aa t];rfl
  ·have q:=Ab p;have j:=Ab hl;clear p hl;have s:=Ab (show BY (Aj r)=Bz (Aj r) by rw[Mc h0];rw[Aa j,if_pos rfl]);go_enter Tryz.func83,Tryz.ntmps83
   go_wp2_with (first | (go_at_call 118;refine (Cm _ _).mono ?_;rintro e w' ⟨rfl,a⟩;rw[Aa q,a];clear a) | (go_at_call 104;refine (Bc _ _).mono ?_;rintro e w' ⟨rfl,a⟩;rw[Aa j,a];clear a))
   clear y;refine (QN r _ hs z).mono ?_;rintro e B ⟨rfl,c⟩;obtain ⟨k,m,x,n,C,d⟩:=Kf aS aB aT (Bz (Aj r));rw[d];have t:=Ab d;clear d;have g:=i.after c NLN;have u:=f.trans (c.mono f.size);clear c l d1 d2 d3 o i f;obtain ⟨l,d1,d2,d3,o⟩:=AU g;go_wp2_with fail
   have v:=Ao (b:=w.heap.size) u NLN (.int .i64 k) (.int .i64 m) (.string x) (.int .i64 0);obtain ⟨h,g1,g2,g3,_⟩:=AU (AI g (.int .i64 k) (.int .i64 m) (.string x) (.int .i64 0));simp only[CC] at h g1 g2 g3;refine bodyPost_ret (AA Tryz.results83 rfl h g1 g2 g3) rfl ⟨?_,v⟩;rw[Aa s,Aa t];rfl
 ·have j:=Ab (show I2 (r[0].toNat:Int)=false by
   rw[dgI,zF] at p;rw[I2,yH];omega)
  have hr1: 1≤AR CK (Aj r):=by rw[To h0];exact Ju p
  have q:=Ab p;clear p;have s:=Ab (show BY (Aj r)=CX (Aj r) by rw[Mc h0];rw[Aa j,Aa q,if_neg (by decide),if_pos rfl]);go_enter Tryz.func83,Tryz.ntmps83
  go_wp2_with (first | (go_at_call 118;refine (Cm _ _).mono ?_;rintro e w' ⟨rfl,a⟩;rw[Aa q,a];clear a) | (go_at_call 104;refine (Bc _ _).mono ?_;rintro e w' ⟨rfl,a⟩;rw[Aa j,a];clear a))
  clear y;refine (NE r _ hs hr1 z).mono ?_;rintro e B ⟨rfl,c⟩;obtain ⟨k,m,x,n,C,d⟩:=Kf aS aB aT (CX (Aj r));rw[d];have t:=Ab d;clear d;have g:=i.after c NLN;have u:=f.trans (c.mono f.size);clear c l d1 d2 d3 o i f;obtain ⟨l,d1,d2,d3,o⟩:=AU g;go_wp2_with fail
  have v:=Ao (b:=w.heap.size) u NLN (.int .i64 k) (.int .i64 m) (.string x) (.int .i64 0);obtain ⟨h,g1,g2,g3,_⟩:=AU (AI g (.int .i64 k) (.int .i64 m) (.string x) (.int .i64 0));simp only[CC] at h g1 g2 g3;refine bodyPost_ret (AA Tryz.results83 rfl h g1 g2 g3) rfl ⟨?_,v⟩;rw[Aa s,Aa t];rfl
end Go.Proofs.YtffkofkjpckmpaaGreatDoor
namespace Go.Proofs.YtffkofkjpckmpaaGreatDoor
set_option maxRecDepth 100000
set_option maxHeartbeats 6400000
open Go.RowKit
set_option linter.unusedVariables false
variable {aS aB aT : Addr}
def Ac1 (aS aB aT:Addr) (w:World) (R:Res) (e:Ending) (w':World):Prop:=
 (R.code=0∧R.at_=0∧∃ x c,e= .returned (.tuple #[.slice x R.toks.length c,.nilIface])∧w'.ownsRow w.heap.size 42 4 (.slice x R.toks.length c) R.toks.length (EN R.toks)∧ZN R.toks∧Below w.heap.size w w')∨
 (R.toks= []∧1≤R.code∧R.code≤3∧∃ b,e= .returned (.tuple #[.slice none 0 0,.iface 104 (.pointer (some ⟨b,0,none⟩))])∧Am w' b #[.int .i64 (R.at_:Int),Jc aS aB aT R.code] 109∧Below w.heap.size w w')
theorem YD (t:ByteArray)(w:World)(S:Oc w aS aB aT):
  Calls Tryz.prog 40 #[.string t] w fun e w'=>Ac1 aS aB aT w (Ay t) e w':=by
 by_cases h4: 4000 < t.size
 ·have ae:(4000 :Int) < (t.size:Int):=by omega
  have F:=Ab (show Ay t=⟨[],1,0⟩ by rw[Ay,if_pos h4]);have aD:=S.gS;go_enter Tryz.func40,Tryz.ntmps40
  go_wp2_with fail
  go_step3
  go_wp2_with fail
  refine (Ez _ _ _ _).mono ?_;rintro e aE ⟨rfl,af,d⟩;go_wp2_with fail
  rw[Exit.noGoto_ret];go_ret2
  rw[Aa F];exact .inr ⟨rfl,by show (1 :Int)≤1;omega,by show (1 :Int)≤3;omega,w.heap.size,rfl,af,d⟩
 ·have ae: ¬ ((4000 :Int) < (t.size:Int)):=by omega
  have ht:t.size≤1048576:=by omega
  have F:=Ab (show AE t.size (t.size+1) (Aj t) []=Ay t by rw[Ay,if_neg h4]);obtain ⟨i,hi,ag,ah,ai⟩:=info_parts YE;go_enter Tryz.func40,Tryz.ntmps40
  go_wp2_with fail
  go_step3
  go_wp2_with fail
  go_step3
  go_wp2_with fail
  go_loopw [4,5] (fun v a wr=>∃ (k f:Nat) (T:List Ae),a= .int .i64 k∧k≤t.size∧t.size - k < f∧T.length≤k∧ZN T∧AE t.size f ((Aj t).drop k) T=Ay t∧wr.ownsRow w.heap.size 42 4 v T.length (EN T)∧Below w.heap.size w wr) (fun _ a _=>t.size - (intOf a).toNat)
  case atStart=>exact ⟨0,t.size+1, [],rfl,zN _,by omega,by simp,J7,by rw[List.drop_zero];exact Aa F,World.ownsRow_nil _ _ _ _,BRN⟩
  case round=>
   obtain ⟨k,f,T,rfl,hk,hf,aF,W,X,h,d⟩:=hrel;have l:=Ab X;have o:=Ab W;clear X W;by_cases s:k < t.size
   case neg=>
    have e:(Aj t).drop k= []:=List.drop_of_length_le (by rw[At];omega);have Y:Ay t=⟨T,0,0⟩:=by rw[← Aa l,e,ID]
    have H:=Ab Y;have aj: ¬ ((k:Int) < (t.size:Int)):=by omega
    clear Y e;obtain ⟨x,I,J⟩:=Jh h;subst J;go_wp2_with fail
    go_ret2
    rw[Aa H];exact .inl ⟨rfl,rfl,x,I,rfl,h,Aa o,d⟩
   have aj:(k:Int) < (t.size:Int):=by omega
   by_cases h1:(t[k].toNat:Int)=32
   ·have p:=Ab (KX t k s (.inl h1));go_wp2_with fail
    go_roundw
    case rel=>exact ⟨k+1,f,T,by go_num,by omega,by omega,by omega,Aa o,by rw[← Aa l];exact CI _ _ (Aa p).symm _,h,d⟩
    case measure=>simp[intOf];omega
   have e1:=zA.2 h1;by_cases h3:(t[k].toNat:Int)=9
   ·have p:=Ab (KX t k s (.inr (.inr h3)));go_wp2_with fail
    go_roundw
    case rel=>exact ⟨k+1,f,T,by go_num,by omega,by omega,by omega,Aa o,by rw[← Aa l];exact CI _ _ (Aa p).symm _,h,d⟩
    case measure=>simp[intOf];omega
   have e3:=zA.2 h3;by_cases h2:(t[k].toNat:Int)=10
   ·have p:=Ab (KX t k s (.inr (.inl h2)));go_wp2_with fail
    go_roundw
    case rel=>exact ⟨k+1,f,T,by go_num,by omega,by omega,by omega,Aa o,by rw[← Aa l];exact CI _ _ (Aa p).symm _,h,d⟩
    case measure=>simp[intOf];omega
   have e2:=zA.2 h2;by_cases h5:(t[k].toNat:Int)=35
   ·have p:=Ab (Td t k s h5);go_wp2_with fail
    go_loop [5] (fun a=>∃ q:Nat,k≤q∧q < t.size∧a= .int .i64 q∧Dj true ((Aj t).drop k)=Dj true ((Aj t).drop q)) (fun a=>t.size - (intOf a).toNat)
    case atStart=>exact ⟨k,NLN,s,rfl,rfl⟩
    case round=>
     obtain ⟨q,aG,hq,rfl,hi⟩:=hrel;have K:=Ab hi;clear hi;have aH:(q:Int) < (t.size:Int):=by omega
     by_cases h10:(t[q].toNat:Int)=10
     ·have E:=Ab (ZM t q hq h10);have aI:q≠k:=fun e=>by subst e;omega
      have ak:((t[q].toNat:Int) != 10)=false:=by rw[h10];rfl
      go_wp2_with fail
      go_roundw
      case rel=>exact ⟨q,f,T,rfl,by omega,by omega,by omega,Aa o,by rw[← Aa l];exact CI _ _ (by rw[Aa p,Aa K,Aa E]) _,h,d⟩
      case measure=>simp[intOf];omega
     ·have E:=Ab (U3 t q hq h10);have ak:((t[q].toNat:Int) != 10)=true:=zw.2 h10;by_cases hl:q+1=t.size
      ·have al:((q:Int)+1==(t.size:Int))=true:=zI.2 (by omega);have H:=Ab (show Ay t=⟨T,0,0⟩ by
        rw[← Aa l,← ID (n:=t.size) (f:=f)];exact CI _ _ (by rw[Aa p,Aa K,Aa E,Mb true t (q+1) (by omega)];rfl) _)
       obtain ⟨x,I,J⟩:=Jh h;subst J;go_wp2_with fail
       go_ret2
       rw[Aa H];exact .inl ⟨rfl,rfl,x,I,rfl,h,Aa o,d⟩
      ·have al:((q:Int)+1==(t.size:Int))=false:=zA.2 (by omega);go_wp2_with fail
       go_round
       case rel=>exact ⟨q+1,by omega,by omega,by go_num,by rw[Aa K,Aa E]⟩
       case measure=>simp[intOf];omega
   have e5:=zA.2 h5;have L:=Ab (Pv t k s h1 h2 h3 h5);go_wp2_with fail
   have Z:=Ab (Tl t k);have ao:(t.extract k t.size).size=t.size - k:=by rw[zt];omega
   have M:=S.below d NLN;generalize t.extract k t.size=r at Z ao ⊢;refine (Oy r _ (by omega) (by omega) M).mono ?_;rintro e N ⟨rfl,C⟩;rw[Aa Z];have j:=BI t k s;have O:((Aj t).drop (k+1)).length+1=t.size - k:=by rw[zj,At];omega
   cases z:BY ((Aj t).drop k) with
   |bad c=>
    obtain ⟨u,rfl⟩:∃ u,f=u+1:=⟨f - 1,by omega⟩
    have aa:Ay t=⟨[],c,k⟩:=by
     rw[← Aa l,j,KN (by rw[← j];exact Aa L) (by rw[← j];exact z)]
     congr 1
     rw[O];omega
    have hc:c=2∨c=3:=PD (by rw[← j];exact z);have ap:=Ab aa;obtain ⟨aq,P⟩:=J0 aS aB aT c;have ar:=Ab P;have A:=d.trans (C.mono d.size);have Q:=A.size;rw[show QY aS aB aT (.bad c)= .tuple #[.agg #[.int .i64 0,.int .i64 0,.string ⟨#[]⟩,.int .i64 0],.int .i64 0,.iface 276 (.pointer (some aq))] by rw[← P];rfl];have B:=A.alloc Q (.cells #[.int .i64 0,.int .i64 0,.string ⟨#[]⟩,.int .i64 0] 42);clear aa j O z h P C M;go_wp2_with fail
    generalize N.alloc (.cells #[.int .i64 0,.int .i64 0,.string ⟨#[]⟩,.int .i64 0] 42)=au at B ⊢;refine (Ez _ _ _ _).mono ?_;rintro e aJ ⟨rfl,av,R⟩;have aw:=B.trans (R.mono B.size);go_wp2_with fail
    go_ret2
    rw[Aa ap];exact .inr ⟨rfl,by show 1≤c;omega,by show c≤3;omega,au.heap.size,rfl,by rw[Aa ar];exact av,aw⟩
   |tok g m b y=>
    obtain ⟨aK,ax,aL⟩: 1≤y∧y≤((Aj t).drop k).length∧b.length≤y:=by have:=EJ ((Aj t).drop k);rw[z] at this;exact this
    rw[zj,At] at ax;obtain ⟨u,rfl⟩:∃ u,f=u+1:=⟨f - 1,by omega⟩
    have ay:=Ab (show AE t.size u ((Aj t).drop (k+y)) (T ++ [⟨g,m,AB b,k⟩])=Ay t by
     rw[← Aa l,j,DJ (by rw[← j];exact Aa L) (by rw[← j];exact z),← j,List.drop_drop,show t.size - (((Aj t).drop (k+1)).length+1)=k by omega])
    have ab:ZN (T ++ [⟨g,m,AB b,k⟩]):=Tk (Aa o) (by show (AB b).size≤_;rw[Tj];unfold maxLen;omega);have az:=Ab ab;have A:=d.trans (C.mono d.size);have ac:=H7 h C;have Q:=A.size;rw[show QY aS aB aT (.tok g m b y)= .tuple #[.agg #[.int .i64 g,.int .i64 m,.string (AB b),.int .i64 0],.int .i64 (y:Int),.nilIface] from rfl];clear j O z ab l L o h C M d;have B:=(A.alloc Q (.cells #[.int .i64 g,.int .i64 m,.string (AB b),.int .i64 k] 42)).alloc (by simp;omega) (.cells #[.int .i64 g,.int .i64 m,.string (AB b),.int .i64 k] 42);have U:=(ac.alloc (.cells #[.int .i64 g,.int .i64 m,.string (AB b),.int .i64 k] 42)).alloc (.cells #[.int .i64 g,.int .i64 m,.string (AB b),.int .i64 k] 42);have V:=Am.new (N.alloc (.cells #[.int .i64 g,.int .i64 m,.string (AB b),.int .i64 k] 42)) #[.int .i64 g,.int .i64 m,.string (AB b),.int .i64 k] 42;simp only[World.size_alloc] at V;go_wp2_with (at_builtin;refine wpList_append_own _ rfl _ _ 37 rfl w.heap.size 42 i (.agg #[.int .i64 0,.int .i64 0,.string ByteArray.empty,.int .i64 0]) 4 40 Tryz.underlying37 hi ag ah ai rfl (by decide) _ _ _ rfl U ⟨N.heap.size+1,0,none⟩ 1 1 (JK ⟨g,m,AB b,k⟩) rfl rfl ?c1 ?c2 ?c3 ?c4 ?c5 ?_)
    case c1=>exact KC (x:=⟨g,m,AB b,k⟩) V
    case c2=>exact Qk _
    case c3=>unfold maxLen;omega
    case c4=>omega
    case c5=>simp;omega
    intro aM aA aC ad _;have R:Below w.heap.size w aA:=B.grown ad (by simp;omega) (fun q hq=>(U.lt q hq).1);clear ad ac U V A B;go_wp2_with fail
    go_roundw
    case rel=>exact ⟨k+y,u,T ++ [⟨g,m,AB b,k⟩],by go_num,by omega,by omega,by simp;omega,Aa az,Aa ay,by rw[KF,zB];exact aC,R⟩
    case measure=>simp[intOf];omega
end Go.Proofs.YtffkofkjpckmpaaGreatDoor
