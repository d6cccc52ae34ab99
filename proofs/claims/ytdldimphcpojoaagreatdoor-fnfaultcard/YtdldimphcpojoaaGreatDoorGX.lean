/-
  Parse: how deep a tree is (written by mkgx.py). Own work.
-/
import Derived.Test.YtdldimphcpojoaaGreatDoorMXAN
import Derived.Test.YtdldimphcpojoaaGreatDoorMXAQ
namespace Go.Proofs.YtdldimphcpojoaaGreatDoor
set_option maxRecDepth 100000
set_option maxHeartbeats 1600000
open Go.RowKit
set_option linter.unusedVariables false
def mx (a b:Int):Int:=if a < b then b else a
def DF:Ex→Int
 | .un _ _ k=>mx 0 (DF k)+1
 | .bin _ _ l r=>mx (mx 0 (DF l)) (DF r)+1
 | .ite _ c t e=>mx (mx (mx 0 (DF c)) (DF t)) (DF e)+1
 | _=>1
def LG:Option Ex→Int
 | none=>0
 | some e=>DF e
theorem Md (a b:Int):a≤mx a b∧b≤mx a b∧(mx a b=a∨mx a b=b):=by unfold mx;split <;> omega
theorem Bf:∀ (e:Ex),1≤DF e∧DF e≤(e.cnt:Int)
 | .int .. =>by simp[DF,Ex.cnt]
 | .text .. =>by simp[DF,Ex.cnt]
 | .bool .. =>by simp[DF,Ex.cnt]
 | .set .. =>by simp[DF,Ex.cnt]
 | .name .. =>by simp[DF,Ex.cnt]
 | .attr .. =>by simp[DF,Ex.cnt]
 | .lett .. =>by simp[DF,Ex.cnt]
 | .un _ _ k=>by
  have h1:=Bf k;have a:=Md 0 (DF k);simp only[DF,Ex.cnt];omega
 | .bin _ _ l r=>by
  have h1:=Bf l;have h2:=Bf r;have a:=Md 0 (DF l);have b:=Md (mx 0 (DF l)) (DF r);simp only[DF,Ex.cnt];omega
 | .ite _ c t e=>by
  have h1:=Bf c;have h2:=Bf t;have h3:=Bf e;have a:=Md 0 (DF c);have b:=Md (mx 0 (DF c)) (DF t);have d:=Md (mx (mx 0 (DF c)) (DF t)) (DF e);simp only[DF,Ex.cnt];omega
def MY (d:Int) (w:World) (r:Ending) (w':World):Prop:=r= .returned (.int .i64 d)∧Below w.heap.size w w'
theorem Tl (w:World):Calls Tryz.prog 64 #[.nilIface] w (MY 0 w):=by
 go_enter Tryz.func64,Tryz.ntmps64
 go_wp2_with fail
 go_ret
 exact ⟨rfl,BRN⟩
theorem Tm (i n:Int)(w:World):Calls Tryz.prog 64 #[.iface 182 (.agg #[.int .i64 i,.int .i64 n])] w (MY 1 w):=by
 have hk:=Om i n;go_enter Tryz.func64,Tryz.ntmps64
 go_wp2_with fail
 refine (Dl i _).mono ?_;rintro r b ⟨rfl,a⟩;rw[a];clear a;dsimp only;go_wp2_with fail
 refine wp_loop_rounds 1 ?_;rw[rounds_succ];go_wp2_with fail
 go_ret
 exact ⟨rfl,BRN⟩
theorem Qv (i:Int)(s:ByteArray)(w:World):Calls Tryz.prog 64 #[.iface 184 (.agg #[.int .i64 i,.string s])] w (MY 1 w):=by
 have hk:=Me i s;go_enter Tryz.func64,Tryz.ntmps64
 go_wp2_with fail
 refine (Dl i _).mono ?_;rintro r b ⟨rfl,a⟩;rw[a];clear a;dsimp only;go_wp2_with fail
 refine wp_loop_rounds 1 ?_;rw[rounds_succ];go_wp2_with fail
 go_ret
 exact ⟨rfl,BRN⟩
theorem Qw (i:Int)(b:Bool)(w:World):Calls Tryz.prog 64 #[.iface 186 (.agg #[.int .i64 i,.bool b])] w (MY 1 w):=by
 have hk:=Mf i b;go_enter Tryz.func64,Tryz.ntmps64
 go_wp2_with fail
 refine (Dl i _).mono ?_;rintro r c ⟨rfl,a⟩;rw[a];clear a;dsimp only;go_wp2_with fail
 refine wp_loop_rounds 1 ?_;rw[rounds_succ];go_wp2_with fail
 go_ret
 exact ⟨rfl,BRN⟩
theorem Tn (i:Int)(a:Option Addr)(n c:Nat)(w:World):Calls Tryz.prog 64 #[.iface 188 (.agg #[.int .i64 i,.slice a n c])] w (MY 1 w):=by
 have hk:=On i a n c;go_enter Tryz.func64,Tryz.ntmps64
 go_wp2_with fail
 refine (Dl i _).mono ?_;rintro r d ⟨rfl,b⟩;rw[b];clear b;dsimp only;go_wp2_with fail
 refine wp_loop_rounds 1 ?_;rw[rounds_succ];go_wp2_with fail
 go_ret
 exact ⟨rfl,BRN⟩
theorem Qx (i:Int)(s:ByteArray)(w:World):Calls Tryz.prog 64 #[.iface 190 (.agg #[.int .i64 i,.string s])] w (MY 1 w):=by
 have hk:=Mg i s;go_enter Tryz.func64,Tryz.ntmps64
 go_wp2_with fail
 refine (Dl i _).mono ?_;rintro r b ⟨rfl,a⟩;rw[a];clear a;dsimp only;go_wp2_with fail
 refine wp_loop_rounds 1 ?_;rw[rounds_succ];go_wp2_with fail
 go_ret
 exact ⟨rfl,BRN⟩
theorem Qy (i n:Int)(w:World):Calls Tryz.prog 64 #[.iface 191 (.agg #[.int .i64 i,.int .i64 n])] w (MY 1 w):=by
 have hk:=Mh i n;go_enter Tryz.func64,Tryz.ntmps64
 go_wp2_with fail
 refine (Dl i _).mono ?_;rintro r b ⟨rfl,a⟩;rw[a];clear a;dsimp only;go_wp2_with fail
 refine wp_loop_rounds 1 ?_;rw[rounds_succ];go_wp2_with fail
 go_ret
 exact ⟨rfl,BRN⟩
theorem Qz (i n:Int)(w:World):Calls Tryz.prog 64 #[.iface 192 (.agg #[.int .i64 i,.int .i64 n])] w (MY 1 w):=by
 have hk:=Mi i n;go_enter Tryz.func64,Tryz.ntmps64
 go_wp2_with fail
 refine (Dl i _).mono ?_;rintro r b ⟨rfl,a⟩;rw[a];clear a;dsimp only;go_wp2_with fail
 refine wp_loop_rounds 1 ?_;rw[rounds_succ];go_wp2_with fail
 go_ret
 exact ⟨rfl,BRN⟩
theorem U1 (i op:Int)(a:TypeId)(b:Value)(d1:Int)(d:∀ w,Calls Tryz.prog 64 #[.iface a b] w (MY d1 w))(b1: 1≤d1∧d1≤65535)(w:World):Calls Tryz.prog 64 #[.iface 194 (.agg #[.int .i64 i,.int .i64 op,.iface a b])] w (MY (mx 0 d1+1) w):=by
 have hk:=Sj i op a b;have j:=Ab (KI i op a b);have k:=Ab d;clear d;go_enter Tryz.func64,Tryz.ntmps64
 go_wp2_with fail
 refine (Aa j _).mono ?_;rintro r l ⟨g,rfl,n,c,f⟩;dsimp only;have o:(0 :Int)≤0∧(0 :Int)≤65535:=by omega
 go_wp2_with fail
 refine wp_loop_rounds 2 ?_;rw[rounds_succ];have c1:l.cell? ⟨g,0,none⟩=some (.iface a b):=c.cell 0;go_wp2_with fail
 refine (Aa k _).mono ?_;rintro r p ⟨rfl,h⟩;have q:=c.after h NLN;have m:=f.trans (h.mono f.size);clear c c1;dsimp only;go_wp2_with fail
 all_goals
  rw[rounds_succ];go_wp2_with fail
  go_ret
  refine ⟨?_,m⟩;show Ending.returned (Value.int .i64 _)=Ending.returned (Value.int .i64 _)
  congr 2
  simp only[mx]
  (repeat' split) <;> omega
theorem To (i op:Int)(a:TypeId)(b:Value)(d1:Int)(c:TypeId)(d:Value)(d2:Int)(j:∀ w,Calls Tryz.prog 64 #[.iface a b] w (MY d1 w))(b1: 1≤d1∧d1≤65535)(k:∀ w,Calls Tryz.prog 64 #[.iface c d] w (MY d2 w))(b2: 1≤d2∧d2≤65535)(w:World):Calls Tryz.prog 64 #[.iface 196 (.agg #[.int .i64 i,.int .i64 op,.iface a b,.iface c d])] w (MY (mx (mx 0 d1) d2+1) w):=by
 have hk:=Oo i op a b c d;have p:=Ab (JC i op a b c d);have q:=Ab j;have s:=Ab k;clear j k;go_enter Tryz.func64,Tryz.ntmps64
 go_wp2_with fail
 refine (Aa p _).mono ?_;rintro r t ⟨g,rfl,x,f,l⟩;dsimp only;have y:(0 :Int)≤0∧(0 :Int)≤65535:=by omega
 go_wp2_with fail
 refine wp_loop_rounds 3 ?_;rw[rounds_succ];have c1:t.cell? ⟨g,0,none⟩=some (.iface a b):=f.cell 0;go_wp2_with fail
 refine (Aa q _).mono ?_;rintro r u ⟨rfl,m⟩;have h:=f.after m NLN;have n:=l.trans (m.mono l.size);clear f c1;dsimp only;go_wp2_with fail
 all_goals
  rw[rounds_succ];have c2:u.cell? ⟨g,1,none⟩=some (.iface c d):=h.cell 1;go_wp2_with fail
  refine (Aa s _).mono ?_;rintro r z ⟨rfl,o⟩;have A:=h.after o NLN;have v:=n.trans (o.mono n.size);clear h c2;dsimp only;go_wp2_with fail
  all_goals
   rw[rounds_succ];go_wp2_with fail
   go_ret
   refine ⟨?_,v⟩;show Ending.returned (Value.int .i64 _)=Ending.returned (Value.int .i64 _)
   congr 2
   simp only[mx]
   (repeat' split) <;> omega
theorem Tp (i:Int)(a:TypeId)(b:Value)(d1:Int)(c:TypeId)(d:Value)(d2:Int)(f:TypeId)(h:Value)(d3:Int)(m:∀ w,Calls Tryz.prog 64 #[.iface a b] w (MY d1 w))(b1: 1≤d1∧d1≤65535)(n:∀ w,Calls Tryz.prog 64 #[.iface c d] w (MY d2 w))(b2: 1≤d2∧d2≤65535)(o:∀ w,Calls Tryz.prog 64 #[.iface f h] w (MY d3 w))(b3: 1≤d3∧d3≤65535)(w:World):Calls Tryz.prog 64 #[.iface 198 (.agg #[.int .i64 i,.iface a b,.iface c d,.iface f h])] w (MY (mx (mx (mx 0 d1) d2) d3+1) w):=by
 have hk:=Oq i a b c d f h;have x:=Ab (JD i a b c d f h);have y:=Ab m;have z:=Ab n;have A:=Ab o;clear m n o;go_enter Tryz.func64,Tryz.ntmps64
 go_wp2_with fail
 refine (Aa x _).mono ?_;rintro r B ⟨g,rfl,H,j,p⟩;dsimp only;have I:(0 :Int)≤0∧(0 :Int)≤65535:=by omega
 go_wp2_with fail
 refine wp_loop_rounds 4 ?_;rw[rounds_succ];have c1:B.cell? ⟨g,0,none⟩=some (.iface a b):=j.cell 0;go_wp2_with fail
 refine (Aa y _).mono ?_;rintro r C ⟨rfl,q⟩;have k:=j.after q NLN;have s:=p.trans (q.mono p.size);clear j c1;dsimp only;go_wp2_with fail
 all_goals
  rw[rounds_succ];have c2:C.cell? ⟨g,1,none⟩=some (.iface c d):=k.cell 1;go_wp2_with fail
  refine (Aa z _).mono ?_;rintro r E ⟨rfl,t⟩;have l:=k.after t NLN;have u:=s.trans (t.mono s.size);clear k c2;dsimp only;go_wp2_with fail
  all_goals
   rw[rounds_succ];have c3:E.cell? ⟨g,2,none⟩=some (.iface f h):=l.cell 2;go_wp2_with fail
   refine (Aa A _).mono ?_;rintro r J ⟨rfl,v⟩;have K:=l.after v NLN;have F:=u.trans (v.mono u.size);clear l c3;dsimp only;go_wp2_with fail
   all_goals
    rw[rounds_succ];go_wp2_with fail
    go_ret
    refine ⟨?_,F⟩;show Ending.returned (Value.int .i64 _)=Ending.returned (Value.int .i64 _)
    congr 2
    simp only[mx]
    (repeat' split) <;> omega
theorem DG:∀ (e:Ex),e.cnt≤65535→∀ w,Calls Tryz.prog 64 #[e.val] w (MY (DF e) w)
 | .int i n,_,w=>Tm i n w
 | .text i s,_,w=>Qv i s w
 | .bool i b,_,w=>Qw i b w
 | .set i a n c ss,_,w=>Tn i a n c w
 | .name i s,_,w=>Qx i s w
 | .attr i n,_,w=>Qy i n w
 | .lett i n,_,w=>Qz i n w
 | .un i op k,h,w=>by
  have hc:=Bf k;simp only[Ex.cnt] at h;have v:=DG k (by omega);obtain ⟨t,u,y⟩:=Ex.form k;rw[Ex.val];rw[y] at v ⊢;exact U1 i op t u (DF k) v (by omega) w
 | .bin i op l r,h,w=>by
  have hc:=Bf l;have z:=Bf r;simp only[Ex.cnt] at h;have d:=DG l (by omega);have f:=DG r (by omega);obtain ⟨g,j,m⟩:=Ex.form l;obtain ⟨o,p,q⟩:=Ex.form r;rw[Ex.val];rw[m] at d ⊢;rw[q] at f ⊢;exact To i op g j (DF l) o p (DF r) d (by omega) f (by omega) w
 | .ite i c t e,h,w=>by
  have hc:=Bf c;have z:=Bf t;have he:=Bf e;simp only[Ex.cnt] at h;have d:=DG c (by omega);have f:=DG t (by omega);have x:=DG e (by omega);obtain ⟨g,j,m⟩:=Ex.form c;obtain ⟨o,p,q⟩:=Ex.form t;obtain ⟨A,B,C⟩:=Ex.form e;rw[Ex.val];rw[m] at d ⊢;rw[q] at f ⊢;rw[C] at x ⊢;exact Tp i g j (DF c) o p (DF t) A B (DF e) d (by omega) f (by omega) x (by omega) w
theorem U2 (a:Option Ex)(h:A9 a≤65535)(w:World):Calls Tryz.prog 64 #[DE a] w (MY (LG a) w):=by
 cases a with
 | none=>exact Tl w
 | some e=>exact DG e h w
end Go.Proofs.YtdldimphcpojoaaGreatDoor
