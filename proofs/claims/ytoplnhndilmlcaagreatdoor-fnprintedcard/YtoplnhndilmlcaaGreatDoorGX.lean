/-
  Parse: how deep a tree is (written by mkgx.py). Own work.
-/
import Derived.Test.YtoplnhndilmlcaaGreatDoorMXAG
import Derived.Test.YtoplnhndilmlcaaGreatDoorMXAN
namespace Go.Proofs.YtoplnhndilmlcaaGreatDoor
set_option maxRecDepth 100000
set_option maxHeartbeats 1600000
open Go.RowKit
set_option linter.unusedVariables false
def mx (a b:Int):Int:=if a < b then b else a
def Eu:Ex→Int
 | .un _ _ k=>mx 0 (Eu k)+1
 | .bin _ _ l r=>mx (mx 0 (Eu l)) (Eu r)+1
 | .ite _ c t e=>mx (mx (mx 0 (Eu c)) (Eu t)) (Eu e)+1
 | _=>1
def NF:Option Ex→Int
 | none=>0
 | some e=>Eu e
theorem LA (a b:Int):a≤mx a b∧b≤mx a b∧(mx a b=a∨mx a b=b):=by unfold mx;split <;> omega
theorem CY:∀ (e:Ex),1≤Eu e∧Eu e≤(e.cnt:Int)
 | .int .. =>by simp[Eu,Ex.cnt]
 | .text .. =>by simp[Eu,Ex.cnt]
 | .bool .. =>by simp[Eu,Ex.cnt]
 | .set .. =>by simp[Eu,Ex.cnt]
 | .name .. =>by simp[Eu,Ex.cnt]
 | .attr .. =>by simp[Eu,Ex.cnt]
 | .lett .. =>by simp[Eu,Ex.cnt]
 | .un _ _ k=>by
  have h1:=CY k;have a:=LA 0 (Eu k);simp only[Eu,Ex.cnt];omega
 | .bin _ _ l r=>by
  have h1:=CY l;have h2:=CY r;have a:=LA 0 (Eu l);have b:=LA (mx 0 (Eu l)) (Eu r);simp only[Eu,Ex.cnt];omega
 | .ite _ c t e=>by
  have h1:=CY c;have h2:=CY t;have h3:=CY e;have a:=LA 0 (Eu c);have b:=LA (mx 0 (Eu c)) (Eu t);have d:=LA (mx (mx 0 (Eu c)) (Eu t)) (Eu e);simp only[Eu,Ex.cnt];omega
def O0 (d:Int) (w:World) (r:Ending) (w':World):Prop:=r= .returned (.int .i64 d)∧Below w.heap.size w w'
theorem Vh (w:World):Calls Tryz.prog 80 #[.nilIface] w (O0 0 w):=by
 go_enter Tryz.func80,Tryz.ntmps80
 go_wp2_with fail
 go_ret
 exact ⟨rfl,BRN⟩
theorem Vi (i n:Int)(w:World):Calls Tryz.prog 80 #[.iface 130 (.agg #[.int .i64 i,.int .i64 n])] w (O0 1 w):=by
 have hk:=Qr i n;go_enter Tryz.func80,Tryz.ntmps80
 go_wp2_with fail
 refine (Di i _).mono ?_;rintro r b ⟨rfl,a⟩;rw[a];clear a;dsimp only;go_wp2_with fail
 refine wp_loop_rounds 1 ?_;rw[rounds_succ];go_wp2_with fail
 go_ret
 exact ⟨rfl,BRN⟩
theorem SH (i:Int)(s:ByteArray)(w:World):Calls Tryz.prog 80 #[.iface 133 (.agg #[.int .i64 i,.string s])] w (O0 1 w):=by
 have hk:=NG i s;go_enter Tryz.func80,Tryz.ntmps80
 go_wp2_with fail
 refine (Di i _).mono ?_;rintro r b ⟨rfl,a⟩;rw[a];clear a;dsimp only;go_wp2_with fail
 refine wp_loop_rounds 1 ?_;rw[rounds_succ];go_wp2_with fail
 go_ret
 exact ⟨rfl,BRN⟩
theorem SI (i:Int)(b:Bool)(w:World):Calls Tryz.prog 80 #[.iface 135 (.agg #[.int .i64 i,.bool b])] w (O0 1 w):=by
 have hk:=NH i b;go_enter Tryz.func80,Tryz.ntmps80
 go_wp2_with fail
 refine (Di i _).mono ?_;rintro r c ⟨rfl,a⟩;rw[a];clear a;dsimp only;go_wp2_with fail
 refine wp_loop_rounds 1 ?_;rw[rounds_succ];go_wp2_with fail
 go_ret
 exact ⟨rfl,BRN⟩
theorem Vj (i:Int)(a:Option Addr)(n c:Nat)(w:World):Calls Tryz.prog 80 #[.iface 138 (.agg #[.int .i64 i,.slice a n c])] w (O0 1 w):=by
 have hk:=Qs i a n c;go_enter Tryz.func80,Tryz.ntmps80
 go_wp2_with fail
 refine (Di i _).mono ?_;rintro r d ⟨rfl,b⟩;rw[b];clear b;dsimp only;go_wp2_with fail
 refine wp_loop_rounds 1 ?_;rw[rounds_succ];go_wp2_with fail
 go_ret
 exact ⟨rfl,BRN⟩
theorem SJ (i:Int)(s:ByteArray)(w:World):Calls Tryz.prog 80 #[.iface 141 (.agg #[.int .i64 i,.string s])] w (O0 1 w):=by
 have hk:=NI i s;go_enter Tryz.func80,Tryz.ntmps80
 go_wp2_with fail
 refine (Di i _).mono ?_;rintro r b ⟨rfl,a⟩;rw[a];clear a;dsimp only;go_wp2_with fail
 refine wp_loop_rounds 1 ?_;rw[rounds_succ];go_wp2_with fail
 go_ret
 exact ⟨rfl,BRN⟩
theorem SK (i n:Int)(w:World):Calls Tryz.prog 80 #[.iface 184 (.agg #[.int .i64 i,.int .i64 n])] w (O0 1 w):=by
 have hk:=NJ i n;go_enter Tryz.func80,Tryz.ntmps80
 go_wp2_with fail
 refine (Di i _).mono ?_;rintro r b ⟨rfl,a⟩;rw[a];clear a;dsimp only;go_wp2_with fail
 refine wp_loop_rounds 1 ?_;rw[rounds_succ];go_wp2_with fail
 go_ret
 exact ⟨rfl,BRN⟩
theorem SL (i n:Int)(w:World):Calls Tryz.prog 80 #[.iface 185 (.agg #[.int .i64 i,.int .i64 n])] w (O0 1 w):=by
 have hk:=NK i n;go_enter Tryz.func80,Tryz.ntmps80
 go_wp2_with fail
 refine (Di i _).mono ?_;rintro r b ⟨rfl,a⟩;rw[a];clear a;dsimp only;go_wp2_with fail
 refine wp_loop_rounds 1 ?_;rw[rounds_succ];go_wp2_with fail
 go_ret
 exact ⟨rfl,BRN⟩
theorem Xb (i op:Int)(a:TypeId)(b:Value)(d1:Int)(d:∀ w,Calls Tryz.prog 80 #[.iface a b] w (O0 d1 w))(b1: 1≤d1∧d1≤65535)(w:World):Calls Tryz.prog 80 #[.iface 143 (.agg #[.int .i64 i,.int .i64 op,.iface a b])] w (O0 (mx 0 d1+1) w):=by
 have hk:=Un i op a b;have j:=Ab (LB i op a b);have k:=Ab d;clear d;go_enter Tryz.func80,Tryz.ntmps80
 go_wp2_with fail
 refine (Aa j _).mono ?_;rintro r l ⟨g,rfl,n,c,f⟩;dsimp only;have o:(0 :Int)≤0∧(0 :Int)≤65535:=by omega
 go_wp2_with fail
 refine wp_loop_rounds 2 ?_;rw[rounds_succ];have c1:l.cell? ⟨g,0,none⟩=some (.iface a b):=c.cell 0;go_wp2_with fail
 refine (Aa k _).mono ?_;rintro r p ⟨rfl,h⟩;have q:=c.after h NLN;have m:=f.trans (h.mono f.size);clear c c1;dsimp only;go_wp2_with fail
 all_goals
  rw[rounds_succ];go_wp2_with fail
  go_ret
  refine ⟨?_,m⟩;show Ending.returned (Value.int .i64 _)=Ending.returned (Value.int .i64 _)
  congr 2
  simp only[mx]
  (repeat' split) <;> omega
theorem Vk (i op:Int)(a:TypeId)(b:Value)(d1:Int)(c:TypeId)(d:Value)(d2:Int)(j:∀ w,Calls Tryz.prog 80 #[.iface a b] w (O0 d1 w))(b1: 1≤d1∧d1≤65535)(k:∀ w,Calls Tryz.prog 80 #[.iface c d] w (O0 d2 w))(b2: 1≤d2∧d2≤65535)(w:World):Calls Tryz.prog 80 #[.iface 146 (.agg #[.int .i64 i,.int .i64 op,.iface a b,.iface c d])] w (O0 (mx (mx 0 d1) d2+1) w):=by
 have hk:=Qt i op a b c d;have p:=Ab (Ke i op a b c d);have q:=Ab j;have s:=Ab k;clear j k;go_enter Tryz.func80,Tryz.ntmps80
 go_wp2_with fail
 refine (Aa p _).mono ?_;rintro r t ⟨g,rfl,x,f,l⟩;dsimp only;have y:(0 :Int)≤0∧(0 :Int)≤65535:=by omega
 go_wp2_with fail
 refine wp_loop_rounds 3 ?_;rw[rounds_succ];have c1:t.cell? ⟨g,0,none⟩=some (.iface a b):=f.cell 0;go_wp2_with fail
 refine (Aa q _).mono ?_;rintro r u ⟨rfl,m⟩;have h:=f.after m NLN;have n:=l.trans (m.mono l.size);clear f c1;dsimp only;go_wp2_with fail
 all_goals
  rw[rounds_succ];have c2:u.cell? ⟨g,1,none⟩=some (.iface c d):=h.cell 1;go_wp2_with fail
  refine (Aa s _).mono ?_;rintro r z ⟨rfl,o⟩;have A:=h.after o NLN;have v:=n.trans (o.mono n.size);clear h c2;dsimp only;go_wp2_with fail
  all_goals
   rw[rounds_succ];go_wp2_with fail
   go_ret
   refine ⟨?_,v⟩;show Ending.returned (Value.int .i64 _)=Ending.returned (Value.int .i64 _)
   congr 2
   simp only[mx]
   (repeat' split) <;> omega
theorem Vl (i:Int)(a:TypeId)(b:Value)(d1:Int)(c:TypeId)(d:Value)(d2:Int)(f:TypeId)(h:Value)(d3:Int)(m:∀ w,Calls Tryz.prog 80 #[.iface a b] w (O0 d1 w))(b1: 1≤d1∧d1≤65535)(n:∀ w,Calls Tryz.prog 80 #[.iface c d] w (O0 d2 w))(b2: 1≤d2∧d2≤65535)(o:∀ w,Calls Tryz.prog 80 #[.iface f h] w (O0 d3 w))(b3: 1≤d3∧d3≤65535)(w:World):Calls Tryz.prog 80 #[.iface 149 (.agg #[.int .i64 i,.iface a b,.iface c d,.iface f h])] w (O0 (mx (mx (mx 0 d1) d2) d3+1) w):=by
 have hk:=Qu i a b c d f h;have x:=Ab (Kf i a b c d f h);have y:=Ab m;have z:=Ab n;have A:=Ab o;clear m n o;go_enter Tryz.func80,Tryz.ntmps80
 go_wp2_with fail
 refine (Aa x _).mono ?_;rintro r B ⟨g,rfl,H,j,p⟩;dsimp only;have I:(0 :Int)≤0∧(0 :Int)≤65535:=by omega
 go_wp2_with fail
 refine wp_loop_rounds 4 ?_;rw[rounds_succ];have c1:B.cell? ⟨g,0,none⟩=some (.iface a b):=j.cell 0;go_wp2_with fail
 refine (Aa y _).mono ?_;rintro r C ⟨rfl,q⟩;have k:=j.after q NLN;have s:=p.trans (q.mono p.size);clear j c1;dsimp only;go_wp2_with fail
 all_goals
  rw[rounds_succ];have c2:C.cell? ⟨g,1,none⟩=some (.iface c d):=k.cell 1;go_wp2_with fail
  refine (Aa z _).mono ?_;rintro r E ⟨rfl,t⟩;have l:=k.after t NLN;have u:=s.trans (t.mono s.size);clear k c2;dsimp only;go_wp2_with fail
  all_goals
   rw[rounds_succ];have c3:E.cell? ⟨g,2,none⟩=some (.iface f h):=l.cell 2;go_wp2_with fail
   refine (Aa A _).mono ?_;rintro r J ⟨rfl,v⟩;have K:=l.after v NLN;have F:=u.trans (v.mono u.size);clear l c3;dsimp only;go_wp2_with fail
   all_goals
    rw[rounds_succ];go_wp2_with fail
    go_ret
    refine ⟨?_,F⟩;show Ending.returned (Value.int .i64 _)=Ending.returned (Value.int .i64 _)
    congr 2
    simp only[mx]
    (repeat' split) <;> omega
theorem DH:∀ (e:Ex),e.cnt≤65535→∀ w,Calls Tryz.prog 80 #[e.val] w (O0 (Eu e) w)
 | .int i n,_,w=>Vi i n w
 | .text i s,_,w=>SH i s w
 | .bool i b,_,w=>SI i b w
 | .set i a n c ss,_,w=>Vj i a n c w
 | .name i s,_,w=>SJ i s w
 | .attr i n,_,w=>SK i n w
 | .lett i n,_,w=>SL i n w
 | .un i op k,h,w=>by
  have hc:=CY k;simp only[Ex.cnt] at h;have v:=DH k (by omega);obtain ⟨t,u,hf⟩:=Ex.form k;rw[Ex.val];rw[hf] at v ⊢;exact Xb i op t u (Eu k) v (by omega) w
 | .bin i op l r,h,w=>by
  have hc:=CY l;have y:=CY r;simp only[Ex.cnt] at h;have d:=DH l (by omega);have f:=DH r (by omega);obtain ⟨g,j,m⟩:=Ex.form l;obtain ⟨o,p,q⟩:=Ex.form r;rw[Ex.val];rw[m] at d ⊢;rw[q] at f ⊢;exact Vk i op g j (Eu l) o p (Eu r) d (by omega) f (by omega) w
 | .ite i c t e,h,w=>by
  have hc:=CY c;have y:=CY t;have he:=CY e;simp only[Ex.cnt] at h;have d:=DH c (by omega);have f:=DH t (by omega);have x:=DH e (by omega);obtain ⟨g,j,m⟩:=Ex.form c;obtain ⟨o,p,q⟩:=Ex.form t;obtain ⟨z,A,B⟩:=Ex.form e;rw[Ex.val];rw[m] at d ⊢;rw[q] at f ⊢;rw[B] at x ⊢;exact Vl i g j (Eu c) o p (Eu t) z A (Eu e) d (by omega) f (by omega) x (by omega) w
theorem Xc (a:Option Ex)(h:AU a≤65535)(w:World):Calls Tryz.prog 80 #[DG a] w (O0 (NF a) w):=by
 cases a with
 | none=>exact Vh w
 | some e=>exact DH e h w
end Go.Proofs.YtoplnhndilmlcaaGreatDoor
