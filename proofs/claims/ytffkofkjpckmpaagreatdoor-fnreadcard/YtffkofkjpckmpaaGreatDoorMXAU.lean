/-
  NUF, NUG, GX0, GX, HA0, NUI. Own work.
-/
import Derived.Test.YtffkofkjpckmpaaGreatDoorMXAT
import Derived.Test.YtffkofkjpckmpaaGreatDoorMXAV
import Derived.Test.YtffkofkjpckmpaaGreatDoorMXAQ
import Derived.Test.YtffkofkjpckmpaaGreatDoorMXAZ
import Derived.Test.YtffkofkjpckmpaaGreatDoorMXBC
import Derived.Test.YtffkofkjpckmpaaGreatDoorMXAG
namespace Go.Proofs.YtffkofkjpckmpaaGreatDoor
set_option maxRecDepth 100000
open Go.RowKit
set_option linter.unusedVariables false
theorem Al:∀ (e:Ex) (b:Nat),(Bw e b).length=e.cnt
 | .int ..,_=>rfl
 | .text ..,_=>rfl
 | .bool ..,_=>rfl
 | .set ..,_=>rfl
 | .name ..,_=>rfl
 | .attr ..,_=>rfl
 | .lett ..,_=>rfl
 | .un _ _ k,b=>by simp[Bw,Ex.cnt,Al k]
 | .bin _ _ l r,b=>by simp[Bw,Ex.cnt,Al l,Al r];omega
 | .ite _ c t e,b=>by simp[Bw,Ex.cnt,Al c,Al t,Al e];omega
theorem Ba:∀ (e:Ex),(E7 e).length=e.cnt
 | .int .. =>rfl
 | .text .. =>rfl
 | .bool .. =>rfl
 | .set .. =>rfl
 | .name .. =>rfl
 | .attr .. =>rfl
 | .lett .. =>rfl
 | .un _ _ k=>by simp[E7,Ex.cnt,Ba k]
 | .bin _ _ l r=>by simp[E7,Ex.cnt,Ba l,Ba r];omega
 | .ite _ c t e=>by simp[E7,Ex.cnt,Ba c,Ba t,Ba e];omega
def Ex.sok (w:World):Ex→Prop
 | .set _ a n c ss=>BL w a n c ss∧ss.length≤1048576
 | .un _ _ k=>k.sok w
 | .bin _ _ l r=>l.sok w∧r.sok w
 | .ite _ c t e=>c.sok w∧t.sok w∧e.sok w
 |_=>True
theorem Ex.sok_below {w w':World}{B:Nat}(a:Below B w w')(b:w.heap.size≤B):∀ (e:Ex),e.sok w→e.sok w'
 | .int ..,h=>h
 | .text ..,h=>h
 | .bool ..,h=>h
 | .set ..,h=>⟨h.1.below a b,h.2⟩
 | .name ..,h=>h
 | .attr ..,h=>h
 | .lett ..,h=>h
 | .un _ _ k,h=>k.sok_below (w:=w) a b h
 | .bin _ _ l r,h=>⟨l.sok_below a b h.1,r.sok_below a b h.2⟩
 | .ite _ c t e,h=>⟨c.sok_below a b h.1,t.sok_below a b h.2.1,e.sok_below a b h.2.2⟩
theorem Fm (B f:Nat)(d:World)(g:d.heap.size≤B):∀ (e:Ex),e.sok d→Zd B f d e.val (Bw e) (E7 e) e.cnt
 | .int i n,_=>Fl B f d _ _ i _ rfl (RK i n) (WX i n) (Ab fun w _=>Y9 i n w)
 | .text i s,_=>Fl B f d _ _ i _ rfl (OX i s) (Uy i s) (Ab fun w _=>Xf i s w)
 | .bool i b,_=>Fl B f d _ _ i _ rfl (OY i b) (Uz i b) (Ab fun w _=>Xj i b w)
 | .set i a n c ss,h=>Fl B f d _ _ i _ rfl (RL i a n c) (WY i a n c) (Ab fun w F=>Zc i a n c ss w (h.1.below F g) h.2)
 | .name i s,_=>Fl B f d _ _ i _ rfl (OZ i s) (UA i s) (Ab fun w _=>Xg i s w)
 | .attr i n,_=>Fl B f d _ _ i _ rfl (O0 i n) (UB i n) (Ab fun w _=>Xh i n w)
 | .lett i n,_=>Fl B f d _ _ i _ rfl (Pa i n) (UC i n) (Ab fun w _=>Xi i n w)
 | .un i op k,h=>by
  have z:=Fm B f d g k h;obtain ⟨t,u,hf⟩:=Ex.form k;rw[Ex.val];rw[hf] at z ⊢;exact Acb B f d i op t u k.cnt (Bw k) (E7 k) (Al k) (Ab z) (Ba k) (Ab fun ks w _=>AaK i op t u k w)
 | .bin i op l r,h=>by
  have j:=Fm B f d g l h.1;have m:=Fm B f d g r h.2;obtain ⟨o,p,x⟩:=Ex.form l;obtain ⟨q,v,y⟩:=Ex.form r;rw[Ex.val];rw[x] at j ⊢;rw[y] at m ⊢;exact AaL B f d i op o p _ (Bw l) (E7 l) (Al l) (Ab j) (Ba l) q v _ (Bw r) (E7 r) (Al r) (Ab m) (Ba r) (Ab fun ks w _=>Za i op o p q v l r w)
 | .ite i c t e,h=>by
  have j:=Fm B f d g c h.1;have m:=Fm B f d g t h.2.1;have A:=Fm B f d g e h.2.2;obtain ⟨o,p,x⟩:=Ex.form c;obtain ⟨q,v,y⟩:=Ex.form t;obtain ⟨C,E,H⟩:=Ex.form e;rw[Ex.val];rw[x] at j ⊢;rw[y] at m ⊢;rw[H] at A ⊢;exact AaM B f d i o p _ (Bw c) (E7 c) (Al c) (Ab j) (Ba c) q v _ (Bw t) (E7 t) (Al t) (Ab m) (Ba t) C E _ (Bw e) (E7 e) (Al e) (Ab A) (Ba e) (Ab fun ks w _=>Zb i o p q v C E c t e w)
theorem AaN (a:Nat)(w:World):Calls Tryz.prog 86 #[.pointer (some ⟨a,0,none⟩),.nilIface] w fun r w'=>r= .returned (.int .i64 (-1))∧w'=w:=by
 go_enter Tryz.func86,Tryz.ntmps86
 go_wp2_with fail
 go_ret
 exact ⟨rfl,rfl⟩
structure Sx where
 at':Int
 kind:Int
 name:ByteArray
 cond:Option Ex
 grant:Option Ex
def Ei:Option Ex→Value
 |none=> .nilIface
 |some e=>e.val
def Yv (x:Sx):List Value:= [.int .i64 x.at',.int .i64 x.kind,.string x.name,Ei x.cond,Ei x.grant]
def RJ (S:List Sx):List Value:=S.flatMap Yv
theorem AaO:∀ (S:List Sx),(RJ S).length=S.length * 5
 | []=>rfl
 |x ::S=>by
  have:=AaO S;rw[RJ] at this ⊢;rw[zi,zB,this,List.length_cons];simp[Yv];omega
theorem Um:∀ (S:List Sx) (j:Nat) (h:j < S.length) (r:Nat),r < 5→(RJ S)[j * 5+r]? =(Yv S[j])[r]?
 |x ::S,0,h,r,hr=>by
  rw[RJ,zi,Nat.zero_mul,zW,yJ (by simp[Yv];omega)];simp
 |x ::S,j+1,h,r,hr=>by
  have a:=Um S j (by simpa using h) r hr;rw[RJ] at a ⊢;rw[zi,yC (by simp[Yv];omega)];have e:(j+1) * 5+r - (Yv x).length=j * 5+r:=by simp[Yv];omega
  rw[e,a];simp only[List.getElem_cons_succ]
 | [],_,h,_,_=>absurd h (by simp)
def AN:Option Ex→Nat
 |none=>0
 |some e=>e.cnt
def Fb:Option Ex→Nat→List Nd
 |none,_=> []
 |some e,b=>Bw e b
def Kq:Option Ex→List Int
 |none=> []
 |some e=>E7 e
def EW:Option Ex→Nat→Int
 |none,_=>-1
 |some e,b=>((b+e.cnt - 1 :Nat):Int)
def WK (w:World):Option Ex→Prop
 |none=>True
 |some e=>e.sok w
theorem Is (a:Option Ex)(b:Nat):(Fb a b).length=AN a:=by
 cases a
 ·rfl
 ·exact Al _ _
theorem JJ (a:Option Ex):(Kq a).length=AN a:=by
 cases a
 ·rfl
 ·exact Ba _
def A7:Nat→List Sx→List Nd
 |_, []=> []
 |b,x ::S=>Fb x.cond b ++Fb x.grant (b+AN x.cond) ++A7 (b+AN x.cond+AN x.grant) S
def CW:List Sx→List Int
 | []=> []
 |x ::S=>Kq x.cond ++Kq x.grant ++CW S
def Ct:Nat→List Sx→List St
 |_, []=> []
 |b,x ::S=>⟨x.kind,x.name,EW x.cond b,EW x.grant (b+AN x.cond)⟩ ::Ct (b+AN x.cond+AN x.grant) S
def DN (S:List Sx):Nat:=(S.map fun x=>AN x.cond+AN x.grant).sum
theorem Cy (x:Sx)(S:List Sx):DN (x ::S)=AN x.cond+AN x.grant+DN S:=by simp[DN]
theorem CY:∀ (S:List Sx) (b:Nat),(A7 b S).length=DN S
 | [],_=>rfl
 |x ::S,b=>by rw[A7,zB,zB,Is,Is,CY S,Cy]
theorem Ge:∀ (S:List Sx),(CW S).length=DN S
 | []=>rfl
 |x ::S=>by rw[CW,zB,zB,JJ,JJ,Ge S,Cy]
theorem Gc:∀ (S:List Sx) (b:Nat),(Ct b S).length=S.length
 | [],_=>rfl
 |x ::S,b=>by rw[Ct,List.length_cons,Gc S,List.length_cons]
theorem MT (a B:List Sx):DN (a ++B)=DN a+DN B:=by simp[DN]
theorem Iw (x:Sx):∀ (S:List Sx) (b:Nat),A7 b (S ++ [x])=A7 b S ++Fb x.cond (b+DN S) ++Fb x.grant (b+DN S+AN x.cond)
 | [],b=>by simp[A7,DN]
 |y ::S,b=>by
  rw[List.cons_append,A7,A7,Iw x S,Cy];have e:b+AN y.cond+AN y.grant+DN S=b+(AN y.cond+AN y.grant+DN S):=by omega
  rw[e];simp only[zC]
theorem KL (x:Sx):∀ (S:List Sx),CW (S ++ [x])=CW S ++Kq x.cond ++Kq x.grant
 | []=>by simp[CW]
 |y ::S=>by
  rw[List.cons_append,CW,CW,KL x S];simp only[zC]
theorem Ix (x:Sx):∀ (S:List Sx) (b:Nat),Ct b (S ++ [x])=Ct b S ++ [⟨x.kind,x.name,EW x.cond (b+DN S),EW x.grant (b+DN S+AN x.cond)⟩]
 | [],b=>by simp[Ct,DN]
 |y ::S,b=>by
  rw[List.cons_append,Ct,Ct,Ix x S,Cy];have e:b+AN y.cond+AN y.grant+DN S=b+(AN y.cond+AN y.grant+DN S):=by omega
  rw[e];rfl
theorem Pe (L:List St)(s:St):Dm (L ++ [s])=Dm L ++ [.int .i64 s.kind,.string s.name,.int .i64 s.cond,.int .i64 s.grant]:=by simp[Dm]
def AdR (B nb:Nat) (N:List Nd) (P:List Int) (nd pl:Value) (nv kv:List Value) (M:List Nd) (Q:List Int) (ix:Int) (w:World) (r:Ending) (w':World):Prop:=
 r= .returned (.int .i64 ix)∧∃ nd' pl' nv' kv',LV w' B nb (N ++M) (P ++Q) nd' pl' (nv ++nv') (kv ++kv')∧Nk B nb nd pl w nd' pl' w'
theorem AcP (B b:Nat)(c:World)(i:c.heap.size≤B)(a:Option Ex)(hs:WK c a)(N:List Nd)(P:List Int)(nd d:Value)(f g:List Value)(w:World)(j:Below B c w)(h:LV w B b N P nd d f g)(h1:N.length+AN a≤65535)(h2:P.length+AN a≤65535):
  Calls Tryz.prog 86 #[.pointer (some ⟨b,0,none⟩),Ei a] w (AdR B b N P nd d f g (Fb a N.length) (Kq a) (EW a N.length) w):=by
 cases a with
 |none=>exact (AaN b w).mono fun r w' ⟨e1,e2⟩=>⟨e1,nd,d, [], [],by rw[e2];simpa[Fb,Kq] using h,by rw[e2];exact Nk.refl _ _ _ _ _⟩
 |some e=>exact (Fm B b c i e hs N P nd d f g w j h h1 h2).mono fun r w' ⟨e1,k,l,m,n,o,p,_⟩=>⟨by rw[e1,Al];rfl,k,l,m,n,o,p⟩
theorem LV.other {w w':World}{B b:Nat}{N:List Nd}{P:List Int}{nd c:Value}{d f:List Value}(h:LV w B b N P nd c d f){v:Value}{m:Nat}{g:List Value}{lo:Nat}(O:w.ownsRow lo 51 4 v m g)(hk:∀ q,q < w.heap.size→v.ownBlock≠some q→w'.heap[q]? =w.heap[q]?):LV w' B b N P nd c d f:=
 ⟨⟨(hk b h.row.lt (Ad h.row O (by decide))).trans h.row.out⟩,
   h.nodes.upto (fun q hq=>hk q (h.nodes.lts.1 q hq).2 (fun e=>Ap O h.nodes.own (by decide) q e hq)) (fun j a q hq=>hk q (h.nodes.lts.2.1 j a q hq).2 (fun e=>Ap O (h.nodes.names j (by rw[← h.nodes.len];exact a) a) (by decide) q e hq)) (fun j a q hq=>hk q (h.nodes.lts.2.2 j a q hq).2 (fun e=>Ap O (h.nodes.kids j (by rw[← h.nodes.lenk];exact a) a) (by decide) q e hq)),
   Ac h.places (fun q hq=>hk q (h.places.lt q hq).2 (fun e=>Ap O h.places (by decide) q e hq)),h.apart,h.low⟩
theorem Nk.stm {B a:Nat}{nd b d f:Value}{w w':World}{N:List Nd}{P:List Int}{g i:List Value}(h:Nk B a nd b w d f w')(C:LV w B a N P nd b g i){v:Value}{m:Nat}{c:List Value}{lo:Nat}(O:w.ownsRow lo 51 4 v m c):w'.ownsRow lo 51 4 v m c:=
 Ac O (fun q hq=>h.block q (O.lt q hq).2 (fun e=>Ad C.row O (by decide) (by rw[hq,e])) (fun e=>Ap O C.nodes.own (by decide) q hq e) (fun e=>Ap O C.places (by decide) q hq e))
def mx (a b:Int):Int:=if a < b then b else a
def Cf:Ex→Int
 | .un _ _ k=>mx 0 (Cf k)+1
 | .bin _ _ l r=>mx (mx 0 (Cf l)) (Cf r)+1
 | .ite _ c t e=>mx (mx (mx 0 (Cf c)) (Cf t)) (Cf e)+1
 |_=>1
def Gt:Option Ex→Int
 |none=>0
 |some e=>Cf e
theorem FD (a b:Int):a≤mx a b∧b≤mx a b∧(mx a b=a∨mx a b=b):=by unfold mx;split <;> omega
theorem AZ:∀ (e:Ex),1≤Cf e∧Cf e≤(e.cnt:Int)
 | .int .. =>by simp[Cf,Ex.cnt]
 | .text .. =>by simp[Cf,Ex.cnt]
 | .bool .. =>by simp[Cf,Ex.cnt]
 | .set .. =>by simp[Cf,Ex.cnt]
 | .name .. =>by simp[Cf,Ex.cnt]
 | .attr .. =>by simp[Cf,Ex.cnt]
 | .lett .. =>by simp[Cf,Ex.cnt]
 | .un _ _ k=>by
  have h1:=AZ k;have a:=FD 0 (Cf k);simp only[Cf,Ex.cnt];omega
 | .bin _ _ l r=>by
  have h1:=AZ l;have h2:=AZ r;have a:=FD 0 (Cf l);have b:=FD (mx 0 (Cf l)) (Cf r);simp only[Cf,Ex.cnt];omega
 | .ite _ c t e=>by
  have h1:=AZ c;have h2:=AZ t;have h3:=AZ e;have a:=FD 0 (Cf c);have b:=FD (mx 0 (Cf c)) (Cf t);have d:=FD (mx (mx 0 (Cf c)) (Cf t)) (Cf e);simp only[Cf,Ex.cnt];omega
set_option maxHeartbeats 1600000
def Qe (d:Int) (w:World) (r:Ending) (w':World):Prop:=r= .returned (.int .i64 d)∧Below w.heap.size w w'
theorem WF (w:World):Calls Tryz.prog 87 #[.nilIface] w (Qe 0 w):=by
 go_enter Tryz.func87,Tryz.ntmps87
 go_wp2_with fail
 go_ret
 exact ⟨rfl,BRN⟩
theorem WG (i n:Int)(w:World):Calls Tryz.prog 87 #[.iface 175 (.agg #[.int .i64 i,.int .i64 n])] w (Qe 1 w):=by
 have hk:=RK i n;go_enter Tryz.func87,Tryz.ntmps87
 go_wp2_with fail
 refine (DI i _).mono ?_;rintro r b ⟨rfl,a⟩;rw[a];clear a;dsimp only;go_wp2_with fail
 refine wp_loop_rounds 1 ?_;rw[rounds_succ];go_wp2_with fail
 go_ret
 exact ⟨rfl,BRN⟩
theorem Uh (i:Int)(s:ByteArray)(w:World):Calls Tryz.prog 87 #[.iface 178 (.agg #[.int .i64 i,.string s])] w (Qe 1 w):=by
 have hk:=OX i s;go_enter Tryz.func87,Tryz.ntmps87
 go_wp2_with fail
 refine (DI i _).mono ?_;rintro r b ⟨rfl,a⟩;rw[a];clear a;dsimp only;go_wp2_with fail
 refine wp_loop_rounds 1 ?_;rw[rounds_succ];go_wp2_with fail
 go_ret
 exact ⟨rfl,BRN⟩
theorem Ui (i:Int)(b:Bool)(w:World):Calls Tryz.prog 87 #[.iface 180 (.agg #[.int .i64 i,.bool b])] w (Qe 1 w):=by
 have hk:=OY i b;go_enter Tryz.func87,Tryz.ntmps87
 go_wp2_with fail
 refine (DI i _).mono ?_;rintro r c ⟨rfl,a⟩;rw[a];clear a;dsimp only;go_wp2_with fail
 refine wp_loop_rounds 1 ?_;rw[rounds_succ];go_wp2_with fail
 go_ret
 exact ⟨rfl,BRN⟩
theorem WH (i:Int)(a:Option Addr)(n c:Nat)(w:World):Calls Tryz.prog 87 #[.iface 183 (.agg #[.int .i64 i,.slice a n c])] w (Qe 1 w):=by
 have hk:=RL i a n c;go_enter Tryz.func87,Tryz.ntmps87
 go_wp2_with fail
 refine (DI i _).mono ?_;rintro r d ⟨rfl,b⟩;rw[b];clear b;dsimp only;go_wp2_with fail
 refine wp_loop_rounds 1 ?_;rw[rounds_succ];go_wp2_with fail
 go_ret
 exact ⟨rfl,BRN⟩
theorem Uj (i:Int)(s:ByteArray)(w:World):Calls Tryz.prog 87 #[.iface 186 (.agg #[.int .i64 i,.string s])] w (Qe 1 w):=by
 have hk:=OZ i s;go_enter Tryz.func87,Tryz.ntmps87
 go_wp2_with fail
 refine (DI i _).mono ?_;rintro r b ⟨rfl,a⟩;rw[a];clear a;dsimp only;go_wp2_with fail
 refine wp_loop_rounds 1 ?_;rw[rounds_succ];go_wp2_with fail
 go_ret
 exact ⟨rfl,BRN⟩
theorem Uk (i n:Int)(w:World):Calls Tryz.prog 87 #[.iface 224 (.agg #[.int .i64 i,.int .i64 n])] w (Qe 1 w):=by
 have hk:=O0 i n;go_enter Tryz.func87,Tryz.ntmps87
 go_wp2_with fail
 refine (DI i _).mono ?_;rintro r b ⟨rfl,a⟩;rw[a];clear a;dsimp only;go_wp2_with fail
 refine wp_loop_rounds 1 ?_;rw[rounds_succ];go_wp2_with fail
 go_ret
 exact ⟨rfl,BRN⟩
theorem Ul (i n:Int)(w:World):Calls Tryz.prog 87 #[.iface 225 (.agg #[.int .i64 i,.int .i64 n])] w (Qe 1 w):=by
 have hk:=Pa i n;go_enter Tryz.func87,Tryz.ntmps87
 go_wp2_with fail
 refine (DI i _).mono ?_;rintro r b ⟨rfl,a⟩;rw[a];clear a;dsimp only;go_wp2_with fail
 refine wp_loop_rounds 1 ?_;rw[rounds_succ];go_wp2_with fail
 go_ret
 exact ⟨rfl,BRN⟩
theorem Yw (i op:Int)(a:TypeId)(b:Value)(d1:Int)(d:∀ w,Calls Tryz.prog 87 #[.iface a b] w (Qe d1 w))(b1: 1≤d1∧d1≤65535)(w:World):Calls Tryz.prog 87 #[.iface 188 (.agg #[.int .i64 i,.int .i64 op,.iface a b])] w (Qe (mx 0 d1+1) w):=by
 have hk:=VF i op a b;have j:=Ab (MH i op a b);have k:=Ab d;clear d;go_enter Tryz.func87,Tryz.ntmps87
 go_wp2_with fail
 refine (Aa j _).mono ?_;rintro r l ⟨g,rfl,n,c,f⟩;dsimp only;have o:(0 :Int)≤0∧(0 :Int)≤65535:=by omega
 go_wp2_with fail
 refine wp_loop_rounds 2 ?_;rw[rounds_succ];have c1:l.cell? ⟨g,0,none⟩=some (.iface a b):=c.cell 0;go_wp2_with fail
 refine (Aa k _).mono ?_;rintro r p ⟨rfl,h⟩;have q:=c.after h NLN;have m:=f.trans (h.mono f.size);clear c c1;dsimp only;go_wp2_with fail
 all_goals
  rw[rounds_succ];go_wp2_with fail
  go_ret
  refine ⟨?_,m⟩;show Ending.returned (Value.int .i64 _)=Ending.returned (Value.int .i64 _)
  congr 2
  simp only[mx]
  (repeat' split) <;> omega
theorem WI (i op:Int)(a:TypeId)(b:Value)(d1:Int)(c:TypeId)(d:Value)(d2:Int)(j:∀ w,Calls Tryz.prog 87 #[.iface a b] w (Qe d1 w))(b1: 1≤d1∧d1≤65535)(k:∀ w,Calls Tryz.prog 87 #[.iface c d] w (Qe d2 w))(b2: 1≤d2∧d2≤65535)(w:World):Calls Tryz.prog 87 #[.iface 191 (.agg #[.int .i64 i,.int .i64 op,.iface a b,.iface c d])] w (Qe (mx (mx 0 d1) d2+1) w):=by
 have hk:=RM i op a b c d;have p:=Ab (Lq i op a b c d);have q:=Ab j;have s:=Ab k;clear j k;go_enter Tryz.func87,Tryz.ntmps87
 go_wp2_with fail
 refine (Aa p _).mono ?_;rintro r t ⟨g,rfl,x,f,l⟩;dsimp only;have y:(0 :Int)≤0∧(0 :Int)≤65535:=by omega
 go_wp2_with fail
 refine wp_loop_rounds 3 ?_;rw[rounds_succ];have c1:t.cell? ⟨g,0,none⟩=some (.iface a b):=f.cell 0;go_wp2_with fail
 refine (Aa q _).mono ?_;rintro r u ⟨rfl,m⟩;have h:=f.after m NLN;have n:=l.trans (m.mono l.size);clear f c1;dsimp only;go_wp2_with fail
 all_goals
  rw[rounds_succ];have c2:u.cell? ⟨g,1,none⟩=some (.iface c d):=h.cell 1;go_wp2_with fail
  refine (Aa s _).mono ?_;rintro r z ⟨rfl,o⟩;have A:=h.after o NLN;have v:=n.trans (o.mono n.size);clear h c2;dsimp only;go_wp2_with fail
  all_goals
   rw[rounds_succ];go_wp2_with fail
   go_ret
   refine ⟨?_,v⟩;show Ending.returned (Value.int .i64 _)=Ending.returned (Value.int .i64 _)
   congr 2
   simp only[mx]
   (repeat' split) <;> omega
theorem WJ (i:Int)(a:TypeId)(b:Value)(d1:Int)(c:TypeId)(d:Value)(d2:Int)(f:TypeId)(h:Value)(d3:Int)(m:∀ w,Calls Tryz.prog 87 #[.iface a b] w (Qe d1 w))(b1: 1≤d1∧d1≤65535)(n:∀ w,Calls Tryz.prog 87 #[.iface c d] w (Qe d2 w))(b2: 1≤d2∧d2≤65535)(o:∀ w,Calls Tryz.prog 87 #[.iface f h] w (Qe d3 w))(b3: 1≤d3∧d3≤65535)(w:World):Calls Tryz.prog 87 #[.iface 194 (.agg #[.int .i64 i,.iface a b,.iface c d,.iface f h])] w (Qe (mx (mx (mx 0 d1) d2) d3+1) w):=by
 have hk:=RR i a b c d f h;have x:=Ab (Lr i a b c d f h);have y:=Ab m;have z:=Ab n;have A:=Ab o;clear m n o;go_enter Tryz.func87,Tryz.ntmps87
 go_wp2_with fail
 refine (Aa x _).mono ?_;rintro r B ⟨g,rfl,H,j,p⟩;dsimp only;have I:(0 :Int)≤0∧(0 :Int)≤65535:=by omega
 go_wp2_with fail
 refine wp_loop_rounds 4 ?_;rw[rounds_succ];have c1:B.cell? ⟨g,0,none⟩=some (.iface a b):=j.cell 0;go_wp2_with fail
 refine (Aa y _).mono ?_;rintro r C ⟨rfl,q⟩;have k:=j.after q NLN;have s:=p.trans (q.mono p.size);clear j c1;dsimp only;go_wp2_with fail
 all_goals
  rw[rounds_succ];have c2:C.cell? ⟨g,1,none⟩=some (.iface c d):=k.cell 1;go_wp2_with fail
  refine (Aa z _).mono ?_;rintro r E ⟨rfl,t⟩;have l:=k.after t NLN;have u:=s.trans (t.mono s.size);clear k c2;dsimp only;go_wp2_with fail
  all_goals
   rw[rounds_succ];have c3:E.cell? ⟨g,2,none⟩=some (.iface f h):=l.cell 2;go_wp2_with fail
   refine (Aa A _).mono ?_;rintro r J ⟨rfl,v⟩;have K:=l.after v NLN;have F:=u.trans (v.mono u.size);clear l c3;dsimp only;go_wp2_with fail
   all_goals
    rw[rounds_succ];go_wp2_with fail
    go_ret
    refine ⟨?_,F⟩;show Ending.returned (Value.int .i64 _)=Ending.returned (Value.int .i64 _)
    congr 2
    simp only[mx]
    (repeat' split) <;> omega
theorem Ek:∀ (e:Ex),e.cnt≤65535→∀ w,Calls Tryz.prog 87 #[e.val] w (Qe (Cf e) w)
 | .int i n,_,w=>WG i n w
 | .text i s,_,w=>Uh i s w
 | .bool i b,_,w=>Ui i b w
 | .set i a n c ss,_,w=>WH i a n c w
 | .name i s,_,w=>Uj i s w
 | .attr i n,_,w=>Uk i n w
 | .lett i n,_,w=>Ul i n w
 | .un i op k,h,w=>by
  have hc:=AZ k;simp only[Ex.cnt] at h;have v:=Ek k (by omega);obtain ⟨t,u,hf⟩:=Ex.form k;rw[Ex.val];rw[hf] at v ⊢;exact Yw i op t u (Cf k) v (by omega) w
 | .bin i op l r,h,w=>by
  have hc:=AZ l;have y:=AZ r;simp only[Ex.cnt] at h;have d:=Ek l (by omega);have f:=Ek r (by omega);obtain ⟨g,j,m⟩:=Ex.form l;obtain ⟨o,p,q⟩:=Ex.form r;rw[Ex.val];rw[m] at d ⊢;rw[q] at f ⊢;exact WI i op g j (Cf l) o p (Cf r) d (by omega) f (by omega) w
 | .ite i c t e,h,w=>by
  have hc:=AZ c;have y:=AZ t;have he:=AZ e;simp only[Ex.cnt] at h;have d:=Ek c (by omega);have f:=Ek t (by omega);have x:=Ek e (by omega);obtain ⟨g,j,m⟩:=Ex.form c;obtain ⟨o,p,q⟩:=Ex.form t;obtain ⟨z,A,B⟩:=Ex.form e;rw[Ex.val];rw[m] at d ⊢;rw[q] at f ⊢;rw[B] at x ⊢;exact WJ i g j (Cf c) o p (Cf t) z A (Cf e) d (by omega) f (by omega) x (by omega) w
theorem Yx (a:Option Ex)(h:AN a≤65535)(w:World):Calls Tryz.prog 87 #[Ei a] w (Qe (Gt a) w):=by
 cases a with
 |none=>exact WF w
 |some e=>exact Ek e h w
def IM:List Sx→Option Int
 | []=>none
 |x ::X=>if 64 < mx (Gt x.cond) (Gt x.grant) then some x.at' else IM X
def Jp (ss:List ByteArray):List ByteArray:=(Mj ss).map AB
theorem Qg {a K:List ByteArray}(h:Cl a K):K=Jp a:=h.unique (EH a)
def Pt.ex:Pt→Ex
 | .int i n=> .int i n
 | .text i s=> .text i s
 | .bool i b=> .bool i b
 | .set i ss=> .set i none 0 0 (Jp ss)
 | .name i s=> .name i s
 | .un i op k=> .un i op k.ex
 | .bin i op l r=> .bin i op l.ex r.ex
 | .ite i c t e=> .ite i c.ex t.ex e.ex
def Ps.sx (s:Ps):Sx:=⟨(s.at_:Int),s.kind,s.name,s.cond.map Pt.ex,s.grant.map Pt.ex⟩
def Kl (L:List (Nat × List ByteArray)):List Int:=L.filterMap fun q=>if 64 < (Jp q.2).length then some (q.1:Int) else none
theorem L3 (a B:List (Nat × List ByteArray)):Kl (a ++B)=Kl a ++Kl B:=by simp[Kl]
def IX (t:ByteArray) (x:QR):List Nd × List St × List Int × Int × Int:=
 if (Ay t).code≠0 then ([], [], [],(Ay t).code,((Ay t).at_:Int)) else match x with
 | .bad q=>([], [], [],4,((Dw t.size q).at_:Int))
 | .ok S=>match (Kl (S.flatMap Ps.sets)).head? with
  |some i=>([], [], [],5,i)
  |none=>match IM (S.map Ps.sx) with
   |some i=>([], [], [],6,i)
   |none=>(A7 0 (S.map Ps.sx),Ct 0 (S.map Ps.sx),CW (S.map Ps.sx),0,0)
theorem Jx {t:ByteArray}{x:QR}(h:(Ay t).code≠0):IX t x=([], [], [],(Ay t).code,((Ay t).at_:Int)):=by
 unfold IX;rw[if_pos h]
theorem LZ {t:ByteArray}{q:List Ae}(h:(Ay t).code=0):IX t (.bad q)=([], [], [],4,((Dw t.size q).at_:Int)):=by
 unfold IX;rw[if_neg (by omega)]
theorem Jv {t:ByteArray}{S:List Ps}{i:Int}(h:(Ay t).code=0)(a:(Kl (S.flatMap Ps.sets)).head? =some i):IX t (.ok S)=([], [], [],5,i):=by
 unfold IX;rw[if_neg (by omega)];simp only[a]
theorem Jw {t:ByteArray}{S:List Ps}{i:Int}(h:(Ay t).code=0)(a:(Kl (S.flatMap Ps.sets)).head? =none)(b:IM (S.map Ps.sx)=some i):IX t (.ok S)=([], [], [],6,i):=by
 unfold IX;rw[if_neg (by omega)];simp only[a,b]
theorem Mp {t:ByteArray}{S:List Ps}(h:(Ay t).code=0)(a:(Kl (S.flatMap Ps.sets)).head? =none)(b:IM (S.map Ps.sx)=none):IX t (.ok S)=(A7 0 (S.map Ps.sx),Ct 0 (S.map Ps.sx),CW (S.map Ps.sx),0,0):=by
 unfold IX;rw[if_neg (by omega)];simp only[a,b]
theorem Pb (n:Nat):∀ (f:Nat) (l:List UInt8) (out:List Ae),(AE n f l out).toks.length≤out.length+l.length
 | 0,l,out=>by simp[AE]
 |f+1,l,out=>by
  rw[AE];have b:=Gv false l;split
  ·simp
  ·rename_i c r d;rw[d] at b;split
   ·simp
   ·rename_i k m s a g;have h1:=EJ (c ::r);rw[g] at h1;have h2: 1≤a∧a≤(c ::r).length:=⟨h1.1,h1.2.1⟩
    have h:=Pb n f ((c ::r).drop a) (out ++ [⟨k,m,AB s,n - (r.length+1)⟩]);rw[zj,zB] at h;simp only[List.length_cons,List.length_nil] at *;omega
theorem GS (t:ByteArray):(Ay t).toks.length≤4000:=by
 unfold Ay;split
 ·simp
 ·have:=Pb t.size (t.size+1) (Aj t) [];rw[At] at this;simp only[List.length_nil] at this;omega
theorem G.cnt {k:Nat}{c:List Ae}{p:Pt}(g:G k c p):p.ex.cnt≤c.length:=by
 induction g with
 |up hk g a=>exact a
 |ite ht hu b l m n o q id=>simp only[Pt.ex,Ex.cnt,List.length_cons,zB];omega
 |bin hk d ht f i j=>simp only[Pt.ex,Ex.cnt,List.length_cons,zB];omega
 |cmp d ht f i j=>simp only[Pt.ex,Ex.cnt,List.length_cons,zB];omega
 |not ht g a=>simp only[Pt.ex,Ex.cnt,List.length_cons];omega
 |neg ht g a=>simp only[Pt.ex,Ex.cnt,List.length_cons];omega
 |par ht g hu a=>simp only[List.length_cons,zB];omega
 |size ht hu g b a=>simp only[Pt.ex,Ex.cnt,List.length_cons,zB];omega
 |set ht hc hu=>simp only[Pt.ex,Ex.cnt,List.length_cons,zB];omega
 |num h | text h | name h | tru h | fls h=>simp[Pt.ex,Ex.cnt]
theorem GC.cnt {c:List Ae}{g:Option Pt}(h:GC c g):AN (g.map Pt.ex)≤c.length:=by
 cases h with
 |deny h=>simp[AN]
 |grant h g=>have:=g.cnt;simp only[Option.map_some,AN,List.length_cons];omega
theorem SC.cnt {c:List Ae}{s:Ps}(h:SC c s):AN s.sx.cond+AN s.sx.grant≤c.length:=by
 cases h with
 |let_ h d he g=>have:=g.cnt;simp only[Ps.sx,Option.map_some,Option.map_none,AN,List.length_cons];omega
 |when h b f a=>have:=b.cnt;have:=a.cnt;simp only[Ps.sx,Option.map_some,AN,List.length_cons,zB] at *;omega
 |else_ h a=>have:=a.cnt;simp only[Ps.sx,Option.map_none,AN,List.length_cons] at *;omega
theorem PC.cnt {ts:List Ae}{S:List Ps}(h:PC ts S):DN (S.map Ps.sx)+S.length≤ts.length:=by
 induction h with
 |nil=>simp[DN]
 |cons a hu b c=>
  have:=a.cnt;rw[List.map_cons,Cy,List.length_cons,zB,List.length_cons];omega
theorem YC {X:List Sx}{x:Sx}(h:x∈X):AN x.cond+AN x.grant≤DN X:=by
 induction X with
 |nil=>cases h
 |cons y X a=>
  rw[Cy];rcases zG.1 h with rfl | h
  ·omega
  ·have:=a h;omega
def AaA (ss:List ByteArray):Prop:=(∀ x∈ss,x.size≤maxLen)∧ss.length≤1048576
theorem Qi:∀ (ts:List Ae),(∀ t∈ts,t.text.size≤maxLen)→(∀ x∈Kx ts,x.size≤maxLen)∧(Kx ts).length≤ts.length
 | [],_=>⟨fun x h=>(by cases h),by simp[Kx]⟩
 |t ::r,h=>by
  obtain ⟨a,b⟩:=Qi r (fun u hu=>h u (zS _ hu));rw[Kx];split
  ·exact ⟨fun x h=>(by cases h),by simp⟩
  ·split
   ·refine ⟨fun x hx=>?_,by simp;omega⟩;rcases zG.1 hx with rfl | hx
    ·exact h t (zQ ..)
    ·exact a x hx
   ·exact ⟨a,by simp;omega⟩
theorem MJ:∀ (ts:List Ae),(∀ t∈ts,t.text.size≤maxLen)→ts.length≤1048576→∀ q∈Dt ts,AaA q.2
 | [],_,_,q,h=>by cases h
 |t ::r,h,hl,q,hq=>by
  have a:∀ u∈r,u.text.size≤maxLen:=fun u hu=>h u (zS _ hu);have b:r.length≤1048576:=by simp at hl;omega
  rw[Dt] at hq;split at hq
  ·rcases zG.1 hq with rfl | hq
   ·have:=Qi r a;exact ⟨this.1,by show (Kx r).length≤_;omega⟩
   ·exact MJ r a b q hq
  ·exact MJ r a b q hq
theorem DP.ne {ts:List Ae}{x:QR}(d:DP ts x):∀ S,x= .ok S→S≠ []:=by
 induction d with
 |bad=>intro S h;cases h
 |over=>intro S h;cases h
 |@more ts r s x d hk d2 a=>
  intro S h;cases x with
  |bad=>cases h
  |ok T=>cases h;simp
 |last=>intro S h;cases h;simp
set_option maxHeartbeats 3200000
theorem VM:(Tryz.prog.info? 51).map (fun i=>(i.zero,i.size,i.bytes))=some (some (.agg #[.int .i64 0,.string ByteArray.empty,.int .i64 0,.int .i64 0]),4,40):=by kernel_rfl
def Adx (S:List Sx) (w:World) (r:Ending) (w':World):Prop:=
 (∃ nd pl nv kv sv,r= .returned (.tuple #[.agg #[nd,sv],pl])∧Cj w' w.heap.size nd (A7 0 S) nv kv∧w'.ownsRow w.heap.size 51 4 sv S.length (Dm (Ct 0 S))∧w'.ownsRow w.heap.size 3 1 pl (CW S).length (AF (CW S))∧(∀ q,pl.ownBlock=some q→∀ j,(hj:j < kv.length)→kv[j].ownBlock≠some q))∧Below w.heap.size w w'
theorem JH (a:Option Ex):(Ei a).oneCell'=true:=by
 cases a with
 |none=>rfl
 |some e=>obtain ⟨t,u,h⟩:=Ex.form e;rw[Ei,h];rfl
theorem Uo (S:List Sx)(g m c:Nat)(aP:Array Value)(w:World)(hm:S.length=m)(R:Am w g aP 69)(aQ:∀ (r:Nat) (u:Value),(RJ S)[r]? =some u→aP[r]? =some u)(aR:∀ x∈S,WK w x.cond∧WK w x.grant)(aS:DN S≤65535)(b3:m≤65535):
  Calls Tryz.prog 42 #[.slice (some ⟨g,0,none⟩) m c] w (Adx S w):=by
 have al:=Ab hm;have bp:=Ab aQ;have bq:=Ab aS;have br:=Ab aR;obtain ⟨bs,bt,bu,bv,bw⟩:=info_parts VM;have aT:=(Below.refl w.heap.size w).alloc NLN (.cells #[.slice none 0 0,.slice none 0 0] 27);have ao:=aT.alloc aT.size (.cells #[.slice none 0 0,.slice none 0 0] 154);have bx:=(Am.new w #[.slice none 0 0,.slice none 0 0] 27).alloc (.cells #[.slice none 0 0,.slice none 0 0] 154);have ap:=Am.new (w.alloc (.cells #[.slice none 0 0,.slice none 0 0] 27)) #[.slice none 0 0,.slice none 0 0] 154;simp only[World.size_alloc] at ap;have bz:LV ((w.alloc (.cells #[.slice none 0 0,.slice none 0 0] 27)).alloc (.cells #[.slice none 0 0,.slice none 0 0] 154)) w.heap.size (w.heap.size+1) [] [] (.slice none 0 0) (.slice none 0 0) [] []:=⟨ap,Cj.nil _ _,World.ownsRow_nil _ _ _ _,(fun q hq=>by cases hq),z5 _⟩
 have bA:(Tryz.f86.name== "runtime.NumGoroutine")=false:=by kernel_rfl
 have bB: Tryz.f86.body.isNone=false:=by kernel_rfl
 clear hm aQ aS aR ap;go_enter Tryz.func42,Tryz.ntmps42
 go_wp2_with fail
 go_loopw [5,11] (fun v i wr=>∃ (k:Nat) (nd N:Value) (t y:List Value),k≤m∧i= .int .i64 k∧wr.ownsRow w.heap.size 51 4 v k (Dm (Ct 0 (S.take k)))∧LV wr w.heap.size (w.heap.size+1) (A7 0 (S.take k)) (CW (S.take k)) nd N t y∧Am wr w.heap.size #[.slice none 0 0,.slice none 0 0] 27∧Below w.heap.size w wr) (fun _ i _=>m - (intOf i).toNat)
 case atStart=>exact ⟨0,_,_,_,_,by omega,rfl,World.ownsRow_nil _ _ _ _,bz,bx,ao⟩
 case round=>
  obtain ⟨k,nd,N,t,y,hk,rfl,z,a,PR,B⟩:=hrel;by_cases O:k < m
  ·have b5:(k:Int) < (m:Int):=by omega
   have ad:k < S.length:=by rw[Aa al];exact O
   have aU:=R.after B NLN;have C:∀ r,r < 5→∀ u,(Yv S[k])[r]? =some u→wr.cell? ⟨g,k * 5+r,none⟩=some u:=fun r bC u hu=>by
    rw[aU.cell];refine Aa bp _ _ ?_;rw[Um S k ad r bC];exact hu
   have aq:=C 0 (by decide) _ rfl;have c1:=C 1 (by decide) _ rfl;have c2:=C 2 (by decide) _ rfl;have c3:=C 3 (by decide) _ rfl;have c4:=C 4 (by decide) _ rfl;simp only[zr] at aq;have ar:S.take (k+1)=S.take k ++ [S[k]]:=zx ad;have bD:(S.take k).length=k:=by rw[zg];omega
   have au:DN (S.take k)+(AN S[k].cond+AN S[k].grant)≤65535:=by
    have h1:=Aa bq;have h2:S=S.take (k+1) ++S.drop (k+1):=(yG _ _).symm;rw[h2,ar,MT,MT,Cy] at h1;omega
   have ae:=Iw S[k] (S.take k) 0;have av:=KL S[k] (S.take k);have eT:=Ix S[k] (S.take k) 0;rw[← ar] at ae av eT;rw[zW,← CY (S.take k) 0] at ae eT;have aw:(A7 0 (S.take k)).length+(AN S[k].cond+AN S[k].grant)≤65535:=by rw[CY];exact au
   have ax:(CW (S.take k)).length+(AN S[k].cond+AN S[k].grant)≤65535:=by rw[Ge];exact au
   have ay:=Pe (Ct 0 (S.take k)) ⟨S[k].kind,S[k].name,EW S[k].cond (A7 0 (S.take k)).length,EW S[k].grant ((A7 0 (S.take k)).length+AN S[k].cond)⟩;rw[← eT] at ay;have E:=Ab (And.intro ae (And.intro av ay));obtain ⟨aV,aW⟩:=Aa br S[k] (zP ad);have az:=Ab (And.intro aV aW);have aX:=Ab O;have b6:=aU.lt;clear C ae av eT ay ar bD au aV aW O;generalize S[k]=x at aq c1 c2 c3 c4 aw ax E az;dsimp only at E;have F:=Ab (show ∀ v A H I P Q,A.ownsRow w.heap.size 51 4 v (k+1) (Dm (Ct 0 (S.take k)) ++ [.int .i64 x.kind,.string x.name,.int .i64 (EW x.cond (A7 0 (S.take k)).length),.int .i64 (EW x.grant ((A7 0 (S.take k)).length+AN x.cond))])→LV A w.heap.size (w.heap.size+1) (A7 0 (S.take k) ++Fb x.cond (A7 0 (S.take k)).length ++Fb x.grant ((A7 0 (S.take k)).length+AN x.cond)) (CW (S.take k) ++Kq x.cond ++Kq x.grant) H I P Q→A.ownsRow w.heap.size 51 4 v (k+1) (Dm (Ct 0 (S.take (k+1))))∧LV A w.heap.size (w.heap.size+1) (A7 0 (S.take (k+1))) (CW (S.take (k+1))) H I P Q from fun v A H I P Q h1 h2=>by
    obtain ⟨e1,e2,e3⟩:=Aa E;rw[e1,e2,e3];exact ⟨h1,h2⟩)
   generalize Dm (Ct 0 (S.take k))=ao at z F;generalize A7 0 (S.take k)=M at a F aw ax E;generalize CW (S.take k)=aA at a F aw ax E;clear E ad;obtain ⟨q3,af⟩:∃ v,v=Ei x.cond:=⟨_,rfl⟩
   obtain ⟨q4,ag⟩:∃ v,v=Ei x.grant:=⟨_,rfl⟩
   rw[← af] at c3;rw[← ag] at c4;have aB:=B.alloc B.size (.cells #[.int .i64 x.at',.int .i64 x.kind,.string x.name,q3,q4] 69);have ah:=(Below.refl wr.heap.size wr).alloc NLN (.cells #[.int .i64 x.at',.int .i64 x.kind,.string x.name,q3,q4] 69);have aY:=Am.new wr #[.int .i64 x.at',.int .i64 x.kind,.string x.name,q3,q4] 69;have aC:=Ab (AcP w.heap.size (w.heap.size+1) w NLN x.cond (Aa az).1 M aA nd N t y _ aB (a.below ah) (by omega) (by omega));have T:=Ab (fun nd N t y aZ (bE:Below w.heap.size w aZ) h=>AcP w.heap.size (w.heap.size+1) w NLN x.grant (Aa az).2 (M ++Fb x.cond M.length) (aA ++Kq x.cond) nd N t y aZ bE h (by rw[zB,Is];omega) (by rw[zB,JJ];omega));have a0:(M ++Fb x.cond M.length).length=M.length+AN x.cond:=by rw[zB,Is]
   rw[a0] at T;rw[← af] at aC;rw[← ag] at T;have a3:=JH x.cond;have a4:=JH x.grant;rw[← af] at a3;rw[← ag] at a4;have ai:=World.ownsRow.alloc z (.cells #[.int .i64 x.at',.int .i64 x.kind,.string x.name,q3,q4] 69);have s:=a.below ah;have n:=PR.after ah NLN;clear af ag ah a0;go_wp2_with fail
   rw[run_store _ _ _ _ _ a3];go_simp
   rw[run_store _ _ _ _ _ a4];go_simp
   go_wp2_with fail
   refine (Aa aC).mono ?_;rintro r o ⟨rfl,bF,bG,bH,bI,a5,U⟩;have a6:=U.row s aY (by decide) (by decide) (by decide);have J:=U.row s n (by decide) (by decide) (by decide);have aD:=U.stm s ai;have aE:=aB.trans U.low;clear U s aY n ai aB aC aq c1 c2 c3 c4;generalize EW x.cond M.length=aj at F ⊢;generalize EW x.grant (M.length+AN x.cond)=V at F T;obtain ⟨f,l,rfl,_⟩:=Af aD;have W:=a5.below (Di o);have X:=a6.after (Di o) NLN;have a7:=J.after (Di o) NLN;have a8:=Ac (w':=o.drew) aD (fun q hq=>rfl);have aF:=aE.trans ((Di o).mono aE.size);have a9:=Ab ((Aa T _ _ _ _ _ aF W).mono (R':=fun e w'=>∃ v,e= .returned v∧(v= .int .i64 V∧∃ H I P Q,LV w' w.heap.size (w.heap.size+1) (M ++Fb x.cond M.length ++Fb x.grant (M.length+AN x.cond)) (aA ++Kq x.cond ++Kq x.grant) H I (t ++bH ++P) (y ++bI ++Q)∧Nk w.heap.size (w.heap.size+1) bF bG o.drew H I w')) (fun r w' h=>⟨_,h.1,rfl,h.2⟩));have b1:o.drew.cell? ⟨wr.heap.size,1,none⟩=some (.int .i64 x.kind):=X.cell 1;have b2:o.drew.cell? ⟨wr.heap.size,2,none⟩=some (.string x.name):=X.cell 2;have b4:o.drew.cell? ⟨wr.heap.size,4,none⟩=some q4:=X.cell 4;clear a5 a6 J aD aE T;dsimp only;go_wp2_with fail
   apply Ut
   ·intro bJ;go_region_law (first
     |(refine Lv rfl 86 _ Tryz.func86 bA bB _ _ _ rfl (.pointer (some ⟨w.heap.size+1,0,none⟩)) q4 rfl rfl _ (Aa a9) ?_;rintro b7 Y ⟨rfl,MI,aG,ba,bb,bc,Z⟩;have aH:=Z.row W X (by decide) (by decide) (by decide);have ak:=Z.row W a7 (by decide) (by decide) (by decide);have aa:=Z.stm W a8;have ab:=aF.trans Z.low;have a1:Y.cell? ⟨wr.heap.size,1,none⟩=some (.int .i64 x.kind):=aH.cell 1;have a2:Y.cell? ⟨wr.heap.size,2,none⟩=some (.string x.name):=aH.cell 2;have bd:=World.news_of_block (heap_alloc_new Y (.cells #[.int .i64 x.kind,.string x.name,.int .i64 aj,.int .i64 V] 51));have bf:=World.ownsRow.alloc aa (.cells #[.int .i64 x.kind,.string x.name,.int .i64 aj,.int .i64 V] 51))
     |(refine step_append_lies _ rfl _ _ 25 rfl w.heap.size 51 bs (.agg #[.int .i64 0,.string ByteArray.empty,.int .i64 0,.int .i64 0]) 4 40 Tryz.underlying25 bt bu bv bw rfl (by decide) (.slice f k l) k ao rfl bf ⟨Y.heap.size,0,none⟩ 1 1 [.int .i64 x.kind,.string x.name,.int .i64 aj,.int .i64 V] rfl rfl bd (by intro u hu;simp at hu;rcases hu with rfl | rfl | rfl | rfl <;> rfl) (by decide) (by unfold maxLen;omega) (by omega) (by have:=ab.size;simp;omega) _ rfl ?_;intro g7 c7 aI bg aJ bK O))
    all_goals
     have aK:=Ax aJ;have bh:=bc.other aa aK;have bi:Am aI w.heap.size #[.slice none 0 0,.slice none 0 0] 27:=⟨(aK _ ak.lt (Ad ak aa (by decide))).trans ak.out⟩
     have bj:=(ab.alloc ab.size (.cells #[.int .i64 x.kind,.string x.name,.int .i64 aj,.int .i64 V] 51)).grown aJ (by have:=ab.size;simp;omega) (fun q hq=>(aa.lt q hq).1);have K:=Ab (And.intro (Aa F _ _ _ _ _ _ bg bh) (And.intro bi bj));clear aK bh bi bj bg aJ bK O bd bf aa a1 a2 ab aH ak bc Z;generalize Y.heap.size=h5;revert K;revert bb;revert ba;revert aG;revert MI;revert aI;revert c7;revert g7;revert h5;exact bJ.out
   intro h5 g7 c7 aI MI aG ba bb K;clear b1 b2 b4 W X a7 a8 aF a9;go_wp2_with fail
   go_roundw
   case rel=>exact ⟨k+1,MI,aG,_,_,Aa aX,by go_num,(Aa K).1.1,(Aa K).1.2,(Aa K).2.1,(Aa K).2.2⟩
   case measure=>have:=Aa aX;simp[intOf];omega
  ·have e:k=m:=by omega
   subst e;have eT:S.take k=S:=by rw[← Aa al,List.take_length]
   rw[eT] at z a;obtain ⟨f,l,rfl,_⟩:=Af z;obtain ⟨b,d,rfl,_⟩:=Af a.nodes.own;obtain ⟨aL,aM,rfl,_⟩:=Af a.places;have s:=a.below (Di wr);have n:=PR.after (Di wr) NLN;have ai:=Ac (w':=wr.drew) z (fun q hq=>rfl);have bL:=B.trans ((Di wr).mono B.size);have bM:wr.drew.cell? ⟨w.heap.size+1,0,none⟩=some (.slice b (A7 0 S).length d):=s.row.cell 0;have bN:wr.drew.cell? ⟨w.heap.size+1,1,none⟩=some (.slice aL (CW S).length aM):=s.row.cell 1;have bO:wr.drew.cell? ⟨w.heap.size,0,none⟩=some (.slice none 0 0):=n.cell 0;have bP:wr.drew.cell? ⟨w.heap.size,1,none⟩=some (.slice none 0 0):=n.cell 1;have bQ:=n.frozen 0;have bR:=n.frozen 1;have J:=n.set 0 (.slice b (A7 0 S).length d);have bS:(wr.drew.setCell ⟨w.heap.size,0,none⟩ (.slice b (A7 0 S).length d)).cell? ⟨w.heap.size,1,none⟩=some (.slice none 0 0):=J.cell 1;have bT:=J.frozen 1;have bU:wr.cell? ⟨w.heap.size+1,0,none⟩=some (.slice b (A7 0 S).length d):=a.row.cell 0;have bV:wr.cell? ⟨w.heap.size+1,1,none⟩=some (.slice aL (CW S).length aM):=a.row.cell 1;have bW:wr.cell? ⟨w.heap.size,0,none⟩=some (.slice none 0 0):=PR.cell 0;have bX:wr.cell? ⟨w.heap.size,1,none⟩=some (.slice none 0 0):=PR.cell 1;have bY:=PR.frozen 0;have bZ:=PR.frozen 1;clear bS bT;go_wp2_with fail
   go_region_law fail
   all_goals
    have L:∀ q,q≠w.heap.size→((wr.setCell ⟨w.heap.size,0,none⟩ (.slice b (A7 0 S).length d)).setCell ⟨w.heap.size,1,none⟩ (.slice f k l)).heap[q]? =wr.heap[q]? :=fun q hq=>(heap_setCell_other _ ⟨w.heap.size,1,none⟩ q _ hq).trans (heap_setCell_other wr ⟨w.heap.size,0,none⟩ q _ hq);have aN:=(PR.set 0 (.slice b (A7 0 S).length d)).set 1 (.slice f k l);have bk:((wr.setCell ⟨w.heap.size,0,none⟩ (.slice b (A7 0 S).length d)).setCell ⟨w.heap.size,1,none⟩ (.slice f k l)).cell? ⟨w.heap.size,0,none⟩=some (.slice b (A7 0 S).length d):=aN.cell 0;have bl:((wr.setCell ⟨w.heap.size,0,none⟩ (.slice b (A7 0 S).length d)).setCell ⟨w.heap.size,1,none⟩ (.slice f k l)).cell? ⟨w.heap.size,1,none⟩=some (.slice f k l):=aN.cell 1;have aO:=(B.setCell (p:=⟨w.heap.size,0,none⟩) NLN (.slice b (A7 0 S).length d)).setCell (p:=⟨w.heap.size,1,none⟩) NLN (.slice f k l);have bm:=a.nodes.upto (fun q hq=>L q (fun e=>Ad PR a.nodes.own (by decide) (by rw[hq,e]))) (fun j ac q hq=>L q (fun e=>Ad PR (a.nodes.names j (by rw[← a.nodes.len];exact ac) ac) (by decide) (by rw[hq,e]))) (fun j ac q hq=>L q (fun e=>Ad PR (a.nodes.kids j (by rw[← a.nodes.lenk];exact ac) ac) (by decide) (by rw[hq,e])));have bn:=Ac z (fun q hq=>L q (fun e=>Ad PR z (by decide) (by rw[hq,e])));have bo:=Ac a.places (fun q hq=>L q (fun e=>Ad PR a.places (by decide) (by rw[hq,e])));have b0:=a.apart;clear L aN bM bN bU bV bO bP bW bX bQ bR bY bZ J n s ai bL;generalize (wr.setCell ⟨w.heap.size,0,none⟩ (.slice b (A7 0 S).length d)).setCell ⟨w.heap.size,1,none⟩ (.slice f k l)=A at bk bl aO bm bn bo ⊢;go_wp2_with fail
    refine bodyPost_ret (v:= .tuple #[.agg #[.slice b (A7 0 S).length d,.slice f k l],.slice aL (CW S).length aM]) (by simp[results,Tryz.results42,go_sem,bk,bl]) rfl ⟨⟨_,_,t,y,_,rfl, ?_, ?_, ?_,b0⟩, ?_⟩
    ·exact bm.blocks (fun q _ _=>rfl)
    ·rw[Aa al];exact Ac bn (fun q hq=>rfl)
    ·exact Ac bo (fun q hq=>rfl)
    ·exact aO.trans ((Di A).mono aO.size)
end Go.Proofs.YtffkofkjpckmpaaGreatDoor
