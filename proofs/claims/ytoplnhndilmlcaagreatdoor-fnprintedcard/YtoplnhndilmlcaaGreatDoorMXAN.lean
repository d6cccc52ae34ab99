/-
  LTG, QJ, NUF, NUG, GR, GO, GS. Own work.
-/
import Derived.Test.YtoplnhndilmlcaaGreatDoorMXAM
import Derived.Test.YtoplnhndilmlcaaGreatDoorMXAB
import Derived.Test.YtoplnhndilmlcaaGreatDoorQH
import Derived.Test.YtoplnhndilmlcaaGreatDoorMXAK
import Derived.Test.YtoplnhndilmlcaaGreatDoorNUE1
import Derived.Test.YtoplnhndilmlcaaGreatDoorNUE2
import Derived.Test.YtoplnhndilmlcaaGreatDoorNUE3
import Derived.Test.YtoplnhndilmlcaaGreatDoorMXAH
import Derived.Test.YtoplnhndilmlcaaGreatDoorMXAZ
import Derived.Test.YtoplnhndilmlcaaGreatDoorGJ
namespace Go.Proofs.YtoplnhndilmlcaaGreatDoor
set_option maxRecDepth 100000
set_option maxHeartbeats 3200000
open Go.RowKit
set_option linter.unusedVariables false
def DpI (B R gb:Nat) (a:Option Addr) (n c:Nat) (zs:List Int) (wild:Bool) (p:Nat) (N:List Nd) (L:List (ByteArray × Int)) (nd lt:Value) (t:Nat) (w:World) (vx vi:Value) (wr:World):Prop:=
 ∃ (j q:Nat) (M:List Nd) (nd':Value),1≤j∧j≤t∧vi= .int .i64 (j:Int)∧vx= .int .i64 (Ay M)∧Hid (NP zs L j p N q M)∧N.length≤M.length∧M.length≤N.length+j∧FV B R gb a n c zs wild q M L nd' lt wr∧Gk B R gb lt nd w nd' wr
theorem Xy {zs:List Int}{L:List (ByteArray × Int)}{j p q a:Nat}{N M b:List Nd}(h1: 1≤j)(h:NP zs L j p N q M)(hs:Snc q M (YV 9 [Ay M]) a b):NP zs L (j+1) p N a b:=by
 obtain ⟨rfl,rfl⟩:=hs;obtain ⟨k,rfl⟩:∃ k,j=k+1:=⟨j - 1,by omega⟩
 exact ⟨M,h,rfl⟩
theorem LO {B R b:Nat}{a:Option Addr}{n c:Nat}{zs:List Int}{wild:Bool}{p:Nat}{N:List Nd}{L:List (ByteArray × Int)}{nd lt:Value}{w:World}(h:FV B R b a n c zs wild p N L nd lt w)(hm:N.length+80≤1000000)(z:L.length≤100)(t:Nat)(A: 1≤t)(T:t≤70):
  Calls Tryz.prog 48 #[.pointer (some ⟨b,0,none⟩),.int .i64 (t:Int)] w (Ev B R b a n c zs wild N 70 (NP zs L t p N) L nd lt w):=by
 go_enter Tryz.func48,Tryz.ntmps48
 go_wp2_with fail
 refine (CT h (by omega) z 1 (by omega)).mono ?_;rintro r C ⟨E,m,F,rfl,H,a1,a2,o,q⟩;have s:=Ab (show DpI B R b a n c zs wild p N L nd lt t w (.int .i64 (Ay m)) (.int .i64 1) C from ⟨1,E,m,F,by omega,A,rfl,rfl,H,a1,a2,o,q⟩);clear o q a1 a2 h;dsimp only;go_wp2_with fail
 go_loopw [5,6] (fun I g wr=>DpI B R b a n c zs wild p N L nd lt t w I g wr) (fun _ g _=>t - (intOf g).toNat)
 case atStart=>exact Aa s
 case round=>
  clear s;obtain ⟨j,q2,i,J,K,U,rfl,rfl,u,b1,b2,d,f⟩:=hrel;by_cases k:j < t
  ·have M:(j:Int) < (t:Int):=by omega
   have O:=Ab (Xt t j k);go_wp2_with fail
   refine (DQ d (by omega) [Ay i] _ 1 rfl rfl (by omega) 9).mono ?_;rintro r P ⟨q3,v,Q,rfl,S,b3,b4,x,y⟩;have l:=Ab (show DpI B R b a n c zs wild p N L nd lt t w (.int .i64 (Ay v)) (.int .i64 ((j:Int)+1)) P from ⟨j+1,q3,v,Q,by omega,by omega,by rw[Int.natCast_add];rfl,rfl,Ab (Xy K (Aa u) (Aa S)),by omega,by omega,x,f.trans y⟩);clear d f x y k;dsimp only;go_wp2_with fail
   exact ⟨Aa l,Aa O⟩
  ·have M: ¬ ((j:Int) < (t:Int)):=by omega
   have l:=Ab (show Ev B R b a n c zs wild N 70 (NP zs L t p N) L nd lt w (.returned (.int .i64 (Ay i))) wr from ⟨q2,i,J,rfl,by rw[show t=j by omega];exact u,b1,by omega,d,f⟩);clear d f k;go_wp2_with fail
   go_ret
   exact Aa l
set_option maxHeartbeats 1600000
structure UO (w:World) (lo:Nat) (v:Value) (N:List Nd) (P:Ex→Prop) (Es:List Ex):Prop where
 own:w.ownsRow lo 45 1 v Es.length (Es.map Ex.val)
 tree:∀ j,(h:j < Es.length)→CP N j Es[j]
 fit:∀ e∈Es,P e
theorem UO.trs {w:World}{lo:Nat}{v:Value}{N:List Nd}{P:Ex→Prop}{Es:List Ex}(h:UO w lo v N P Es)(hs:Es.length≤1048576):∃ a c,v= .slice a Es.length c∧Trs w a Es.length c Es:=by
 obtain ⟨a,c,rfl,b⟩:=Af h.own;refine ⟨a,c,rfl,rfl,hs,fun j d=>?_⟩;obtain ⟨g,rfl,i,f⟩:=b (by omega);refine ⟨g,0,rfl,(h.own.lt g rfl).2, ?_⟩;have:=f j Es[j].val (by simp[d]);simpa using this
theorem Abp:(Tryz.prog.info? 45).map (fun i=>(i.zero,i.size,i.bytes))=some (some .nilIface,1,16):=by kernel_rfl
def Yr (w0:World) (N:List Nd) (P:Ex→Prop):Prop:=
 ∀ (k:Nat) (x:Nd) (an:Option Addr) (nn cn:Nat) (Es:List Ex),N[k]? =some x→Es.length=k→(∀ j,(h:j < Es.length)→CP N j Es[j])→(∀ e∈Es,P e)→Bb w0 an nn cn x.names→∃ e,V9 Es k x an nn cn e∧CP N k e∧P e
theorem Ro (a:Option Addr)(n c:Nat)(N:List Nd)(C w:World)(h:Fe C a n c N)(L:Below C.heap.size C w)(P:Ex→Prop)(M:Yr C N P):
  Calls Tryz.prog 27 #[.slice a n c] w fun r w'=>(∃ v Es,r= .returned v∧Es.length=n∧UO w' w.heap.size v N P Es)∧Below w.heap.size w w':=by
 have aA:=h.small;have af:=Ab h.len;have ag:=Ab M;clear M;obtain ⟨ah,ai,aj,ak,al⟩:=info_parts Abp;go_enter Tryz.func27,Tryz.ntmps27
 go_wp2_with fail
 go_loopw [3,8] (fun v i wr=>∃ (k:Nat) (Es:List Ex),k≤n∧i= .int .i64 k∧Hid (Es.length=k)∧UO wr w.heap.size v N P Es∧Below w.heap.size w wr) (fun _ i _=>n - (intOf i).toNat)
 case atStart=>exact ⟨0, [],by omega,rfl,rfl,⟨World.ownsRow_nil _ _ _ _,fun j E=>absurd E (by simp),fun e he=>(by cases he)⟩,BRN⟩
 case round=>
  obtain ⟨k,Es,hk,rfl,m,d,s⟩:=hrel;by_cases F:k < n
  ·have aB:(k:Int) < (n:Int):=by omega
   have H:k < N.length:=by rw[Aa af];exact F
   have g:=L.trans (s.mono L.size);obtain ⟨b,y,rfl,l,an,nn,o,z,A,B,O,d1,d2,d3,d4,Q,R⟩:=h.cells k H;have ao:=(g.cell (p:=⟨b,y+k * 5,none⟩) l).trans O;have c1:=(g.cell (p:=⟨b,y+k * 5+1,none⟩) l).trans d1;have c2:=(g.cell (p:=⟨b,y+k * 5+2,none⟩) l).trans d2;have c3:=(g.cell (p:=⟨b,y+k * 5+3,none⟩) l).trans d3;have c4:=(g.cell (p:=⟨b,y+k * 5+4,none⟩) l).trans d4;have I:=R.below g NLN;have aC:b < wr.heap.size:=Nat.lt_of_lt_of_le l g.size;clear O d1 d2 d3 d4 R g;have hx:N[k]? =some N[k]:=List.getElem?_eq_getElem H;obtain ⟨e,hm,ht,S⟩:=Aa ag k _ an nn o Es hx (Aa m) d.tree d.fit Q;have T:=Ab F;have ap:Es.length≤1048576:=by rw[Aa m];omega
   obtain ⟨aq,ar,rfl,U⟩:=d.trs ap;have au:=Ab (fun j (E:j < (Es ++ [e]).length)=>show CP N j (Es ++ [e])[j] by
    by_cases V:j < Es.length
    ·rw[List.getElem_append_left V];exact d.tree j V
    ·have:j=Es.length:=by simp at E;omega
     subst this;simp only[List.getElem_concat_length];rw[Aa m];exact ht)
   have av:=Ab (fun f (hf:f∈Es ++ [e])=>show P f by
    rcases List.mem_append.1 hf with hf | hf
    ·exact d.fit f hf
    ·simp at hf;subst hf;exact S)
   have W:=d.own;generalize N[k]=x at ao c1 c2 c3 c4 I hm;have aD:=Aj.new wr #[.int .i64 x.op,.int .i64 x.num,.string x.text,.slice an nn o,.slice z A B] 80;have X:=s.alloc s.size (.cells #[.int .i64 x.op,.int .i64 x.num,.string x.text,.slice an nn o,.slice z A B] 80);have Y:=(Below.refl wr.heap.size wr).alloc NLN (.cells #[.int .i64 x.op,.int .i64 x.num,.string x.text,.slice an nn o,.slice z A B] 80);have Z:=W.alloc (.cells #[.int .i64 x.op,.int .i64 x.num,.string x.text,.slice an nn o,.slice z A B] 80);have aa:=Ab (TA hm (I.below Y NLN) (U.below Y NLN));obtain ⟨t,u,J⟩:=e.form;rw[J] at aa;have aw:=Ab J;have aE:=s.size;have ax:=m;clear I Q hm ht S U W d hx H F J l m;go_wp2_with fail
   have aF:(wr.alloc (.cells #[.int .i64 x.op,.int .i64 x.num,.string x.text,.slice an nn o,.slice z A B] 80)).heap.size=wr.heap.size+1:=by simp
   refine (Aa aa).mono ?_;rintro r ab ⟨rfl,ac⟩;have ad:ab.ownsRow w.heap.size 45 1 (.slice aq Es.length ar) Es.length (Es.map Ex.val):=FZ Z (fun q hq=>ac.block q (Z.lt q hq).2);have K:=X.trans (ac.mono X.size);have aG:=K.size;dsimp only;go_wp2_with (at_builtin;refine wpList_append_own _ rfl _ _ 71 rfl w.heap.size 45 ah .nilIface 1 16 Tryz.underlying71 ai aj ak al rfl (by decide) _ _ _ rfl (World.ownsRow.alloc ad _) ⟨ab.heap.size,0,none⟩ 1 1 [.iface t u] rfl rfl ?d1 ?d2 ?d3 ?d4 ?d5 ?_)
   case d1=>exact Bn _ _ _ _ (by simp)
   case d2=>intro u hu;simp at hu;subst hu;rfl
   case d3=>unfold maxLen;omega
   case d4=>omega
   case d5=>simp;omega
   intro aH aI ay ae _;have az:=(K.alloc K.size (.cells #[.iface t u] 45)).grown ae (by simp;omega) (fun q hq=>(ad.lt q hq).1);clear ae;go_wp2_with fail
   go_roundw
   case rel=>exact ⟨k+1,Es ++ [e],Aa T,by go_num,Ab (by simp[Aa ax]),⟨by rw[List.map_append,List.length_append];simp only[List.map_cons,List.map_nil,Aa aw];exact ay,Aa au,Aa av⟩,az⟩
   case measure=>have:=Aa T;simp[intOf];omega
  ·have e:k=n:=by omega
   subst e;go_wp2_with fail
   go_ret
   exact ⟨⟨_,Es,rfl,Aa m,d⟩,s⟩
theorem Bp:∀ (e:Ex) (b:Nat),(Fc e b).length=e.cnt
 | .int ..,_=>rfl
 | .text ..,_=>rfl
 | .bool ..,_=>rfl
 | .set ..,_=>rfl
 | .name ..,_=>rfl
 | .attr ..,_=>rfl
 | .lett ..,_=>rfl
 | .un _ _ k,b=>by simp[Fc,Ex.cnt,Bp k]
 | .bin _ _ l r,b=>by simp[Fc,Ex.cnt,Bp l,Bp r];omega
 | .ite _ c t e,b=>by simp[Fc,Ex.cnt,Bp c,Bp t,Bp e];omega
theorem Bv:∀ (e:Ex),(Jw e).length=e.cnt
 | .int .. =>rfl
 | .text .. =>rfl
 | .bool .. =>rfl
 | .set .. =>rfl
 | .name .. =>rfl
 | .attr .. =>rfl
 | .lett .. =>rfl
 | .un _ _ k=>by simp[Jw,Ex.cnt,Bv k]
 | .bin _ _ l r=>by simp[Jw,Ex.cnt,Bv l,Bv r];omega
 | .ite _ c t e=>by simp[Jw,Ex.cnt,Bv c,Bv t,Bv e];omega
def Ex.sok (w:World):Ex→Prop
 | .set _ a n c ss=>Bb w a n c ss∧ss.length≤1048576
 | .un _ _ k=>k.sok w
 | .bin _ _ l r=>l.sok w∧r.sok w
 | .ite _ c t e=>c.sok w∧t.sok w∧e.sok w
 | _=>True
theorem Ex.sok_below {w w':World}{B:Nat}(a:Below B w w')(b:w.heap.size≤B):∀ (e:Ex),e.sok w→e.sok w'
 | .int ..,h=>h
 | .text ..,h=>h
 | .bool ..,h=>h
 | .set ..,h=>⟨h.1.below a b,h.2⟩
 | .name ..,h=>h
 | .attr ..,h=>h
 | .lett ..,h=>h
 | .un _ _ k,h=>k.sok_below (w:=w) a b h
 | .bin _ _ l r,h=>⟨l.sok_below a b h.1,r.sok_below a b h.2⟩
 | .ite _ c t e,h=>⟨c.sok_below a b h.1,t.sok_below a b h.2.1,e.sok_below a b h.2.2⟩
theorem FY (B f:Nat)(d:World)(g:d.heap.size≤B):∀ (e:Ex),e.sok d→XM B f d e.val (Fc e) (Jw e) e.cnt
 | .int i n,_=>EI B f d _ _ i _ rfl (Qr i n) (Vt i n) (Ab fun w _=>XI i n w)
 | .text i s,_=>EI B f d _ _ i _ rfl (NG i s) (SZ i s) (Ab fun w _=>VJ i s w)
 | .bool i b,_=>EI B f d _ _ i _ rfl (NH i b) (S8 i b) (Ab fun w _=>VN i b w)
 | .set i a n c ss,h=>EI B f d _ _ i _ rfl (Qs i a n c) (Vu i a n c) (Ab fun w F=>XL i a n c ss w (h.1.below F g) h.2)
 | .name i s,_=>EI B f d _ _ i _ rfl (NI i s) (Ta i s) (Ab fun w _=>VK i s w)
 | .attr i n,_=>EI B f d _ _ i _ rfl (NJ i n) (Tb i n) (Ab fun w _=>VL i n w)
 | .lett i n,_=>EI B f d _ _ i _ rfl (NK i n) (Tc i n) (Ab fun w _=>VM i n w)
 | .un i op k,h=>by
  have z:=FY B f d g k h;obtain ⟨t,u,hf⟩:=Ex.form k;rw[Ex.val];rw[hf] at z ⊢;exact Aa8 B f d i op t u k.cnt (Fc k) (Jw k) (Bp k) (Ab z) (Bv k) (Ab fun ks w _=>Zy i op t u k w)
 | .bin i op l r,h=>by
  have j:=FY B f d g l h.1;have m:=FY B f d g r h.2;obtain ⟨o,p,x⟩:=Ex.form l;obtain ⟨q,v,y⟩:=Ex.form r;rw[Ex.val];rw[x] at j ⊢;rw[y] at m ⊢;exact Zz B f d i op o p _ (Fc l) (Jw l) (Bp l) (Ab j) (Bv l) q v _ (Fc r) (Jw r) (Bp r) (Ab m) (Bv r) (Ab fun ks w _=>XJ i op o p q v l r w)
 | .ite i c t e,h=>by
  have j:=FY B f d g c h.1;have m:=FY B f d g t h.2.1;have A:=FY B f d g e h.2.2;obtain ⟨o,p,x⟩:=Ex.form c;obtain ⟨q,v,y⟩:=Ex.form t;obtain ⟨C,E,H⟩:=Ex.form e;rw[Ex.val];rw[x] at j ⊢;rw[y] at m ⊢;rw[H] at A ⊢;exact ZB B f d i o p _ (Fc c) (Jw c) (Bp c) (Ab j) (Bv c) q v _ (Fc t) (Jw t) (Bp t) (Ab m) (Bv t) C E _ (Fc e) (Jw e) (Bp e) (Ab A) (Bv e) (Ab fun ks w _=>XK i o p q v C E c t e w)
theorem ZC (a:Nat)(w:World):Calls Tryz.prog 79 #[.pointer (some ⟨a,0,none⟩),.nilIface] w fun r w'=>r= .returned (.int .i64 (-1))∧w'=w:=by
 go_enter Tryz.func79,Tryz.ntmps79
 go_wp2_with fail
 go_ret
 exact ⟨rfl,rfl⟩
structure Sx where
 at':Int
 kind:Int
 name:ByteArray
 cond:Option Ex
 grant:Option Ex
def DG:Option Ex→Value
 | none=> .nilIface
 | some e=>e.val
def Xa (x:Sx):List Value:= [.int .i64 x.at',.int .i64 x.kind,.string x.name,DG x.cond,DG x.grant]
def NE (S:List Sx):List Value:=S.flatMap Xa
theorem ZD:∀ (S:List Sx),(NE S).length=S.length * 5
 | []=>rfl
 | x ::S=>by
  have:=ZD S;rw[NE] at this ⊢;rw[List.flatMap_cons,List.length_append,this,List.length_cons];simp[Xa];omega
theorem SM:∀ (S:List Sx) (j:Nat) (h:j < S.length) (r:Nat),r < 5→(NE S)[j * 5+r]? =(Xa S[j])[r]?
 | x ::S,0,h,r,hr=>by
  rw[NE,List.flatMap_cons,Nat.zero_mul,Nat.zero_add,List.getElem?_append_left (by simp[Xa];omega)];simp
 | x ::S,j+1,h,r,hr=>by
  have a:=SM S j (by simpa using h) r hr;rw[NE] at a ⊢;rw[List.flatMap_cons,List.getElem?_append_right (by simp[Xa];omega)];have e:(j+1) * 5+r - (Xa x).length=j * 5+r:=by simp[Xa];omega
  rw[e,a];simp only[List.getElem_cons_succ]
 | [],_,h,_,_=>absurd h (by simp)
def AU:Option Ex→Nat
 | none=>0
 | some e=>e.cnt
def IV:Option Ex→Nat→List Nd
 | none,_=> []
 | some e,b=>Fc e b
def PT:Option Ex→List Int
 | none=> []
 | some e=>Jw e
def LC:Option Ex→Nat→Int
 | none,_=>-1
 | some e,b=>((b+e.cnt - 1 :Nat):Int)
def Vm (w:World):Option Ex→Prop
 | none=>True
 | some e=>e.sok w
theorem GX (a:Option Ex)(b:Nat):(IV a b).length=AU a:=by
 cases a
 ·rfl
 ·exact Bp _ _
theorem IX (a:Option Ex):(PT a).length=AU a:=by
 cases a
 ·rfl
 ·exact Bv _
def A9:Nat→List Sx→List Nd
 | _, []=> []
 | b,x ::S=>IV x.cond b ++IV x.grant (b+AU x.cond) ++A9 (b+AU x.cond+AU x.grant) S
def De:List Sx→List Int
 | []=> []
 | x ::S=>PT x.cond ++PT x.grant ++De S
def Dn:Nat→List Sx→List St
 | _, []=> []
 | b,x ::S=>⟨x.kind,x.name,LC x.cond b,LC x.grant (b+AU x.cond)⟩ ::Dn (b+AU x.cond+AU x.grant) S
def Dt (S:List Sx):Nat:=(S.map fun x=>AU x.cond+AU x.grant).sum
theorem Cq (x:Sx)(S:List Sx):Dt (x ::S)=AU x.cond+AU x.grant+Dt S:=by simp[Dt]
theorem EF:∀ (S:List Sx) (b:Nat),(A9 b S).length=Dt S
 | [],_=>rfl
 | x ::S,b=>by rw[A9,List.length_append,List.length_append,GX,GX,EF S,Cq]
theorem Gx:∀ (S:List Sx),(De S).length=Dt S
 | []=>rfl
 | x ::S=>by rw[De,List.length_append,List.length_append,IX,IX,Gx S,Cq]
theorem LF:∀ (S:List Sx) (b:Nat),(Dn b S).length=S.length
 | [],_=>rfl
 | x ::S,b=>by rw[Dn,List.length_cons,LF S,List.length_cons]
theorem QT (a B:List Sx):Dt (a ++B)=Dt a+Dt B:=by simp[Dt]
theorem JI (x:Sx):∀ (S:List Sx) (b:Nat),A9 b (S ++ [x])=A9 b S ++IV x.cond (b+Dt S) ++IV x.grant (b+Dt S+AU x.cond)
 | [],b=>by simp[A9,Dt]
 | y ::S,b=>by
  rw[List.cons_append,A9,A9,JI x S,Cq];have e:b+AU y.cond+AU y.grant+Dt S=b+(AU y.cond+AU y.grant+Dt S):=by omega
  rw[e];simp only[List.append_assoc]
theorem NS (x:Sx):∀ (S:List Sx),De (S ++ [x])=De S ++PT x.cond ++PT x.grant
 | []=>by simp[De]
 | y ::S=>by
  rw[List.cons_append,De,De,NS x S];simp only[List.append_assoc]
theorem JJ (x:Sx):∀ (S:List Sx) (b:Nat),Dn b (S ++ [x])=Dn b S ++ [⟨x.kind,x.name,LC x.cond (b+Dt S),LC x.grant (b+Dt S+AU x.cond)⟩]
 | [],b=>by simp[Dn,Dt]
 | y ::S,b=>by
  rw[List.cons_append,Dn,Dn,JJ x S,Cq];have e:b+AU y.cond+AU y.grant+Dt S=b+(AU y.cond+AU y.grant+Dt S):=by omega
  rw[e];rfl
theorem VO (L:List St)(s:St):AR (L ++ [s])=AR L ++ [.int .i64 s.kind,.string s.name,.int .i64 s.cond,.int .i64 s.grant]:=by simp[AR]
def AdR (B nb:Nat) (N:List Nd) (P:List Int) (nd pl:Value) (nv kv:List Value) (M:List Nd) (Q:List Int) (ix:Int) (w:World) (r:Ending) (w':World):Prop:=
 r= .returned (.int .i64 ix)∧∃ nd' pl' nv' kv',KH w' B nb (N ++M) (P ++Q) nd' pl' (nv ++nv') (kv ++kv')∧Nk B nb nd pl w nd' pl' w'
theorem AbR (B b:Nat)(c:World)(i:c.heap.size≤B)(a:Option Ex)(hs:Vm c a)(N:List Nd)(P:List Int)(nd d:Value)(f g:List Value)(w:World)(j:Below B c w)(h:KH w B b N P nd d f g)(h1:N.length+AU a≤65535)(h2:P.length+AU a≤65535):
  Calls Tryz.prog 79 #[.pointer (some ⟨b,0,none⟩),DG a] w (AdR B b N P nd d f g (IV a N.length) (PT a) (LC a N.length) w):=by
 cases a with
 | none=>exact (ZC b w).mono fun r w' ⟨e1,e2⟩=>⟨e1,nd,d, [], [],by rw[e2];simpa[IV,PT] using h,by rw[e2];exact Nk.refl _ _ _ _ _⟩
 | some e=>exact (FY B b c i e hs N P nd d f g w j h h1 h2).mono fun r w' ⟨e1,k,l,m,n,o,p,_⟩=>⟨by rw[e1,Bp];rfl,k,l,m,n,o,p⟩
theorem KH.other {w w':World}{B b:Nat}{N:List Nd}{P:List Int}{nd c:Value}{d f:List Value}(h:KH w B b N P nd c d f){v:Value}{m:Nat}{g:List Value}{lo:Nat}(O:w.ownsRow lo 51 4 v m g)(hk:∀ q,q < w.heap.size→v.ownBlock≠some q→w'.heap[q]? =w.heap[q]?):KH w' B b N P nd c d f:=
 ⟨⟨(hk b h.row.lt (Ad h.row O (by decide))).trans h.row.out⟩,
   h.nodes.upto (fun q hq=>hk q (h.nodes.lts.1 q hq).2 (fun e=>Ak O h.nodes.own (by decide) q e hq)) (fun j a q hq=>hk q (h.nodes.lts.2.1 j a q hq).2 (fun e=>Ak O (h.nodes.names j (by rw[← h.nodes.len];exact a) a) (by decide) q e hq)) (fun j a q hq=>hk q (h.nodes.lts.2.2 j a q hq).2 (fun e=>Ak O (h.nodes.kids j (by rw[← h.nodes.lenk];exact a) a) (by decide) q e hq)),
   Ac h.places (fun q hq=>hk q (h.places.lt q hq).2 (fun e=>Ak O h.places (by decide) q e hq)),h.apart,h.low⟩
theorem Nk.stm {B a:Nat}{nd b d f:Value}{w w':World}{N:List Nd}{P:List Int}{g i:List Value}(h:Nk B a nd b w d f w')(C:KH w B a N P nd b g i){v:Value}{m:Nat}{c:List Value}{lo:Nat}(O:w.ownsRow lo 51 4 v m c):w'.ownsRow lo 51 4 v m c:=
 Ac O (fun q hq=>h.block q (O.lt q hq).2 (fun e=>Ad C.row O (by decide) (by rw[hq,e])) (fun e=>Ak O C.nodes.own (by decide) q hq e) (fun e=>Ak O C.places (by decide) q hq e))
end Go.Proofs.YtoplnhndilmlcaaGreatDoor
namespace Go.Proofs.YtoplnhndilmlcaaGreatDoor
set_option maxRecDepth 100000
set_option maxHeartbeats 1600000
open Go.RowKit
set_option linter.unusedVariables false
variable {aY : Addr} {pb g c : Nat} {T : List Ae} {tl : Nat}
theorem WY (t:Ae)(r:List Ae)(hk:t.kind=1):CS aY pb g c T tl .prim (t ::r) (.ok (.int t.at_ t.num) r):=by
 intro w k h b;show Calls Tryz.prog 173 #[.pointer (some ⟨pb,0,none⟩)] w (EW aY pb g c T tl (.ok (.int t.at_ t.num) r) w);have l:=Ab (Bc h);have d:=Ab h;have p:=Ab b;have e1:(t.kind== 1)=true:=beq_iff_eq.2 hk;clear h b hk;go_enter Tryz.func173,Tryz.ntmps173
 go_wp2_with fail
 refine (Aa l).mono ?_;rintro e f ⟨rfl,a⟩;dsimp only[Cf,CX];have i:=a.alloc a.size (.cells #[.int .i64 t.kind,.int .i64 t.num,.string t.text,.int .i64 (t.at_:Int)] 93);have m:=Aj.new f #[.int .i64 t.kind,.int .i64 t.num,.string t.text,.int .i64 (t.at_:Int)] 93;have nz:=(Aa d).row.lt;have q:=a.size;go_wp2_with fail
 generalize f.alloc (.cells #[.int .i64 t.kind,.int .i64 t.num,.string t.text,.int .i64 (t.at_:Int)] 93)=s at *;have n:=Ab (Bm ((Aa d).below i));refine (Aa n).mono ?_;rintro e u ⟨rfl,o,j⟩;obtain ⟨v,c1,c2,c3,x⟩:=BX (m.touchP j (.inr (by omega)));dsimp only[Cf];go_wp2_with fail
 go_ret2
 exact ⟨⟨.int t.at_ t.num,_,rfl,⟨rfl,rfl⟩,trivial,o⟩,(Ai.of_below i NLN).trans j⟩
theorem Vc (t:Ae)(r:List Ae)(hk:t.kind=2):CS aY pb g c T tl .prim (t ::r) (.ok (.text t.at_ t.text) r):=by
 intro w k h b;show Calls Tryz.prog 173 #[.pointer (some ⟨pb,0,none⟩)] w (EW aY pb g c T tl (.ok (.text t.at_ t.text) r) w);have l:=Ab (Bc h);have d:=Ab h;have p:=Ab b;have e1:(t.kind== 1)=false:=beq_eq_false_iff_ne.2 (by omega);have e2:(t.kind== 2)=true:=beq_iff_eq.2 hk;clear h b hk;go_enter Tryz.func173,Tryz.ntmps173
 go_wp2_with fail
 refine (Aa l).mono ?_;rintro e f ⟨rfl,a⟩;dsimp only[Cf,CX];have i:=a.alloc a.size (.cells #[.int .i64 t.kind,.int .i64 t.num,.string t.text,.int .i64 (t.at_:Int)] 93);have m:=Aj.new f #[.int .i64 t.kind,.int .i64 t.num,.string t.text,.int .i64 (t.at_:Int)] 93;have nz:=(Aa d).row.lt;have q:=a.size;go_wp2_with fail
 generalize f.alloc (.cells #[.int .i64 t.kind,.int .i64 t.num,.string t.text,.int .i64 (t.at_:Int)] 93)=s at *;have n:=Ab (Bm ((Aa d).below i));refine (Aa n).mono ?_;rintro e u ⟨rfl,o,j⟩;obtain ⟨v,c1,c2,c3,x⟩:=BX (m.touchP j (.inr (by omega)));dsimp only[Cf];go_wp2_with fail
 go_ret2
 exact ⟨⟨.text t.at_ t.text,_,rfl,⟨rfl,rfl⟩,trivial,o⟩,(Ai.of_below i NLN).trans j⟩
theorem Vd (t:Ae)(r:List Ae)(hk:t.kind=3):CS aY pb g c T tl .prim (t ::r) (.ok (.name t.at_ t.text) r):=by
 intro w k h b;show Calls Tryz.prog 173 #[.pointer (some ⟨pb,0,none⟩)] w (EW aY pb g c T tl (.ok (.name t.at_ t.text) r) w);have l:=Ab (Bc h);have d:=Ab h;have p:=Ab b;have e1:(t.kind== 1)=false:=beq_eq_false_iff_ne.2 (by omega);have e2:(t.kind== 2)=false:=beq_eq_false_iff_ne.2 (by omega);have e3:(t.kind== 3)=true:=beq_iff_eq.2 hk;clear h b hk;go_enter Tryz.func173,Tryz.ntmps173
 go_wp2_with fail
 refine (Aa l).mono ?_;rintro e f ⟨rfl,a⟩;dsimp only[Cf,CX];have i:=a.alloc a.size (.cells #[.int .i64 t.kind,.int .i64 t.num,.string t.text,.int .i64 (t.at_:Int)] 93);have m:=Aj.new f #[.int .i64 t.kind,.int .i64 t.num,.string t.text,.int .i64 (t.at_:Int)] 93;have nz:=(Aa d).row.lt;have q:=a.size;go_wp2_with fail
 generalize f.alloc (.cells #[.int .i64 t.kind,.int .i64 t.num,.string t.text,.int .i64 (t.at_:Int)] 93)=s at *;have n:=Ab (Bm ((Aa d).below i));refine (Aa n).mono ?_;rintro e u ⟨rfl,o,j⟩;obtain ⟨v,c1,c2,c3,x⟩:=BX (m.touchP j (.inr (by omega)));dsimp only[Cf];go_wp2_with fail
 go_ret2
 exact ⟨⟨.name t.at_ t.text,_,rfl,⟨rfl,rfl⟩,trivial,o⟩,(Ai.of_below i NLN).trans j⟩
theorem Gv {t:Ae}{s:List UInt8}(h:see s t=true):(t.kind== 1)=false∧(t.kind== 2)=false∧(t.kind== 3)=false:=by
 rcases Lm h with e | e <;> rw[e] <;> decide
theorem Um {t:Ae}{s:List UInt8}(h:see s t=true)(u:List UInt8):(t.text.toList== u)=decide (s=u):=by
 rw[WK h,ByteArray.toList_eq];show (s== u)=_;by_cases e:s=u
 ·rw[decide_eq_true e,e];simp
 ·rw[decide_eq_false e];simpa using e
theorem WZ (t:Ae)(r:List Ae)(hk:see Ca t=true):CS aY pb g c T tl .prim (t ::r) (.ok (.bool t.at_ true) r):=by
 intro w k h f;show Calls Tryz.prog 173 #[.pointer (some ⟨pb,0,none⟩)] w (EW aY pb g c T tl (.ok (.bool t.at_ true) r) w);have o:=Ab (Bc h);have i:=Ab h;have z:=Ab f;obtain ⟨e1,e2,e3⟩:=Gv hk;have e4:(t.text.toList== [116,114,117,101])=true:=by rw[Um hk];decide
 have p:=Ab (fun s w' (q:Below w.heap.size w w')=>AD (h.below q) s);have u:=Ab (show Aw Ca (t ::r)=true from hk);clear h f hk;go_enter Tryz.func173,Tryz.ntmps173
 go_wp2_with fail
 refine (Aa o).mono ?_;rintro e j ⟨rfl,a⟩;dsimp only[Cf,CX];have b:=a.alloc a.size (.cells #[.int .i64 t.kind,.int .i64 t.num,.string t.text,.int .i64 (t.at_:Int)] 93);have l:=Aj.new j #[.int .i64 t.kind,.int .i64 t.num,.string t.text,.int .i64 (t.at_:Int)] 93;have nz:=(Aa i).row.lt;have A:=a.size;go_wp2_with fail
 generalize j.alloc (.cells #[.int .i64 t.kind,.int .i64 t.num,.string t.text,.int .i64 (t.at_:Int)] 93)=v at *;refine (Aa p Ca v b).mono ?_;rintro e B ⟨rfl,d⟩;rw[Aa u];have m:=b.trans (d.mono b.size);dsimp only;have x:=Ab (Bm ((Aa i).below m));obtain ⟨C,b1,b2,b3,E⟩:=BX (l.after d NLN);go_wp2_with fail
 refine (Aa x).mono ?_;rintro e F ⟨rfl,y,n⟩;obtain ⟨H,c1,c2,c3,I⟩:=BX ((l.after d NLN).touchP n (.inr (by omega)));dsimp only[Cf];go_wp2_with fail
 go_ret2
 exact ⟨⟨.bool t.at_ true,_,rfl,⟨rfl,rfl⟩,trivial,y⟩,(Ai.of_below m NLN).trans n⟩
theorem W6 (t:Ae)(r:List Ae)(hk:see Bu t=true):CS aY pb g c T tl .prim (t ::r) (.ok (.bool t.at_ false) r):=by
 intro w k h j;show Calls Tryz.prog 173 #[.pointer (some ⟨pb,0,none⟩)] w (EW aY pb g c T tl (.ok (.bool t.at_ false) r) w);have u:=Ab (Bc h);have l:=Ab h;have E:=Ab j;obtain ⟨e1,e2,e3⟩:=Gv hk;have e4:(t.text.toList== [116,114,117,101])=false:=by rw[Um hk];decide
 have m:=Ab (fun s w' (v:Below w.heap.size w w')=>AD (h.below v) s);have x:=Ab (show Aw Ca (t ::r)=false from Am hk (by decide));have y:=Ab (show Aw Bu (t ::r)=true from hk);clear h j hk;go_enter Tryz.func173,Tryz.ntmps173
 go_wp2_with fail
 refine (Aa u).mono ?_;rintro e n ⟨rfl,b⟩;dsimp only[Cf,CX];have d:=b.alloc b.size (.cells #[.int .i64 t.kind,.int .i64 t.num,.string t.text,.int .i64 (t.at_:Int)] 93);have o:=Aj.new n #[.int .i64 t.kind,.int .i64 t.num,.string t.text,.int .i64 (t.at_:Int)] 93;have nz:=(Aa l).row.lt;have F:=b.size;go_wp2_with fail
 generalize n.alloc (.cells #[.int .i64 t.kind,.int .i64 t.num,.string t.text,.int .i64 (t.at_:Int)] 93)=z at *;refine (Aa m Ca z d).mono ?_;rintro e A ⟨rfl,a⟩;rw[Aa x];have f:=d.trans (a.mono d.size);dsimp only;go_wp2_with fail
 refine (Aa m Bu A f).mono ?_;rintro e H ⟨rfl,i⟩;rw[Aa y];have p:=f.trans (i.mono f.size);dsimp only;have B:=Ab (Bm ((Aa l).below p));obtain ⟨I,b1,b2,b3,J⟩:=BX (o.after (a.trans (i.mono a.size)) NLN);go_wp2_with fail
 refine (Aa B).mono ?_;rintro e K ⟨rfl,C,q⟩;obtain ⟨L,c1,c2,c3,M⟩:=BX ((o.after (a.trans (i.mono a.size)) NLN).touchP q (.inr (by omega)));dsimp only[Cf];go_wp2_with fail
 go_ret2
 exact ⟨⟨.bool t.at_ false,_,rfl,⟨rfl,rfl⟩,trivial,C⟩,(Ai.of_below p NLN).trans q⟩
theorem NC (q: 16≤pb)(t:Ae)(r:List Ae)(x:PR)(hk:see Dp t=true)(n:CS aY pb g c T tl .encl r x):CS aY pb g c T tl .prim (t ::r) (x.pre t.at_ 10):=by
 intro w k h b;show Calls Tryz.prog 173 #[.pointer (some ⟨pb,0,none⟩)] w (EW aY pb g c T tl (x.pre t.at_ 10) w);have u:=Ab (Bc h);have y:=Ab h;have N:=Ab b;obtain ⟨e1,e2,e3⟩:=Gv hk;have z:Hid (∀ w',Below w.heap.size w w'→Calls Tryz.prog 171 #[.pointer (some ⟨pb,0,none⟩),.int .i64 10,.func (.func 174) #[.pointer (some ⟨pb,0,none⟩)] #[]] w' (EW aY pb g c T tl (x.pre t.at_ 10) w')):=Ab (fun w' a=>M4 q 10 t r x w' k (h.below a) (b.below a) n);have d:=Ab (fun s w' (a:Below w.heap.size w w')=>AD (h.below a) s);have A:=Ab (show Aw Ca (t ::r)=false from Am hk (by decide));have B:=Ab (show Aw Bu (t ::r)=false from Am hk (by decide));have C:=Ab (show Aw Dp (t ::r)=true from hk);clear h b hk n;go_enter Tryz.func173,Tryz.ntmps173
 go_wp2_with fail
 refine (Aa u).mono ?_;rintro e o ⟨rfl,f⟩;dsimp only[Cf,CX];have i:=f.alloc f.size (.cells #[.int .i64 t.kind,.int .i64 t.num,.string t.text,.int .i64 (t.at_:Int)] 93);have O:=Aj.new o #[.int .i64 t.kind,.int .i64 t.num,.string t.text,.int .i64 (t.at_:Int)] 93;have nz:=(Aa y).row.lt;have P:=f.size;go_wp2_with fail
 generalize o.alloc (.cells #[.int .i64 t.kind,.int .i64 t.num,.string t.text,.int .i64 (t.at_:Int)] 93)=E at *;refine (Aa d Ca E i).mono ?_;rintro e F ⟨rfl,H⟩;rw[Aa A];have j:=i.trans (H.mono i.size);dsimp only;go_wp2_with fail
 refine (Aa d Bu F j).mono ?_;rintro e I ⟨rfl,J⟩;rw[Aa B];have l:=j.trans (J.mono j.size);dsimp only;go_wp2_with fail
 refine (Aa d Dp I l).mono ?_;rintro e K ⟨rfl,L⟩;rw[Aa C];have p:=l.trans (L.mono l.size);dsimp only;go_wp2_with fail
 refine (Aa z K p).mono ?_;intro Q R m;obtain ⟨v,e,rfl,S,he⟩:=m.form;have M:=Ab (m.from (Ai.of_below p NLN));clear m;dsimp only;go_wp2_with fail
 go_ret2
 exact Aa M
theorem W8 (Q: 16≤pb)(t:Ae)(r:List Ae)(x:PR)(hk:see AV t=true)(o:CS aY pb g c T tl .encl (t ::r) x):CS aY pb g c T tl .prim (t ::r) (x):=by
 intro w k h d;show Calls Tryz.prog 173 #[.pointer (some ⟨pb,0,none⟩)] w (EW aY pb g c T tl (x) w);have u:=Ab (Bc h);have y:=Ab h;have R:=Ab d;obtain ⟨e1,e2,e3⟩:=Gv hk;have z:Hid (∀ w',Below w.heap.size w w'→Calls Tryz.prog 174 #[.pointer (some ⟨pb,0,none⟩)] w' (EW aY pb g c T tl (x) w')):=Ab (fun w' a=>o w' k (h.below a) (d.below a));have b:=Ab (fun s w' (a:Below w.heap.size w w')=>AD (h.below a) s);have A:=Ab (show Aw Ca (t ::r)=false from Am hk (by decide));have B:=Ab (show Aw Bu (t ::r)=false from Am hk (by decide));have C:=Ab (show Aw Dp (t ::r)=false from Am hk (by decide));have E:=Ab (show Aw AV (t ::r)=true from hk);clear h d hk o;go_enter Tryz.func173,Tryz.ntmps173
 go_wp2_with fail
 refine (Aa u).mono ?_;rintro e p ⟨rfl,f⟩;dsimp only[Cf,CX];have i:=f.alloc f.size (.cells #[.int .i64 t.kind,.int .i64 t.num,.string t.text,.int .i64 (t.at_:Int)] 93);have S:=Aj.new p #[.int .i64 t.kind,.int .i64 t.num,.string t.text,.int .i64 (t.at_:Int)] 93;have nz:=(Aa y).row.lt;have U:=f.size;go_wp2_with fail
 generalize p.alloc (.cells #[.int .i64 t.kind,.int .i64 t.num,.string t.text,.int .i64 (t.at_:Int)] 93)=F at *;refine (Aa b Ca F i).mono ?_;rintro e H ⟨rfl,I⟩;rw[Aa A];have j:=i.trans (I.mono i.size);dsimp only;go_wp2_with fail
 refine (Aa b Bu H j).mono ?_;rintro e J ⟨rfl,K⟩;rw[Aa B];have l:=j.trans (K.mono j.size);dsimp only;go_wp2_with fail
 refine (Aa b Dp J l).mono ?_;rintro e L ⟨rfl,M⟩;rw[Aa C];have m:=l.trans (M.mono l.size);dsimp only;go_wp2_with fail
 refine (Aa b AV L m).mono ?_;rintro e N ⟨rfl,O⟩;rw[Aa E];have q:=m.trans (O.mono m.size);dsimp only;go_wp2_with fail
 refine (Aa z N q).mono ?_;intro V W n;obtain ⟨v,e,rfl,X,he⟩:=n.form;have P:=Ab (n.from (Ai.of_below q NLN));clear n;dsimp only;go_wp2_with fail
 go_ret2
 exact Aa P
theorem Ls (u: 16≤pb)(t:Ae)(r:List Ae)(hk:see Dq t=true):CS aY pb g c T tl .prim (t ::r) (JC t (FR r)):=by
 intro w k h d;show Calls Tryz.prog 173 #[.pointer (some ⟨pb,0,none⟩)] w (EW aY pb g c T tl (JC t (FR r)) w);have x:=Ab (Bc h);have y:=Ab h;have U:=Ab d;obtain ⟨e1,e2,e3⟩:=Gv hk;have z:Hid (∀ w',Below w.heap.size w w'→Calls Tryz.prog 175 #[.pointer (some ⟨pb,0,none⟩)] w' (EW aY pb g c T tl (JC t (FR r)) w')):=Ab (fun w' b=>WX u t r w' k (h.below b) (d.below b));have a:=Ab (fun s w' (b:Below w.heap.size w w')=>AD (h.below b) s);have A:=Ab (show Aw Ca (t ::r)=false from Am hk (by decide));have B:=Ab (show Aw Bu (t ::r)=false from Am hk (by decide));have C:=Ab (show Aw Dp (t ::r)=false from Am hk (by decide));have E:=Ab (show Aw AV (t ::r)=false from Am hk (by decide));have F:=Ab (show Aw Dq (t ::r)=true from hk);clear h d hk;go_enter Tryz.func173,Tryz.ntmps173
 go_wp2_with fail
 refine (Aa x).mono ?_;rintro e p ⟨rfl,f⟩;dsimp only[Cf,CX];have i:=f.alloc f.size (.cells #[.int .i64 t.kind,.int .i64 t.num,.string t.text,.int .i64 (t.at_:Int)] 93);have V:=Aj.new p #[.int .i64 t.kind,.int .i64 t.num,.string t.text,.int .i64 (t.at_:Int)] 93;have nz:=(Aa y).row.lt;have W:=f.size;go_wp2_with fail
 generalize p.alloc (.cells #[.int .i64 t.kind,.int .i64 t.num,.string t.text,.int .i64 (t.at_:Int)] 93)=H at *;refine (Aa a Ca H i).mono ?_;rintro e I ⟨rfl,J⟩;rw[Aa A];have j:=i.trans (J.mono i.size);dsimp only;go_wp2_with fail
 refine (Aa a Bu I j).mono ?_;rintro e K ⟨rfl,L⟩;rw[Aa B];have l:=j.trans (L.mono j.size);dsimp only;go_wp2_with fail
 refine (Aa a Dp K l).mono ?_;rintro e M ⟨rfl,N⟩;rw[Aa C];have m:=l.trans (N.mono l.size);dsimp only;go_wp2_with fail
 refine (Aa a AV M m).mono ?_;rintro e O ⟨rfl,P⟩;rw[Aa E];have n:=m.trans (P.mono m.size);dsimp only;go_wp2_with fail
 refine (Aa a Dq O n).mono ?_;rintro e Q ⟨rfl,R⟩;rw[Aa F];have q:=n.trans (R.mono n.size);dsimp only;go_wp2_with fail
 refine (Aa z Q q).mono ?_;intro X Y o;obtain ⟨v,e,rfl,Z,he⟩:=o.form;have S:=Ab (o.from (Ai.of_below q NLN));clear o;dsimp only;go_wp2_with fail
 go_ret2
 exact Aa S
theorem ND (a:List Ae)(h1:(CX tl a).kind≠1)(h2:(CX tl a).kind≠2)(h3:(CX tl a).kind≠3)(h4:Aw Ca a=false)(h5:Aw Bu a=false)(h6:Aw Dp a=false)(h7:Aw AV a=false)(h8:Aw Dq a=false):CS aY pb g c T tl .prim a (.bad a):=by
 intro w k h i;show Calls Tryz.prog 173 #[.pointer (some ⟨pb,0,none⟩)] w (EW aY pb g c T tl (.bad a) w);have u:=Ab (Bc h);have v:=Ab h;have S:=Ab i;have e1:((CX tl a).kind== 1)=false:=beq_eq_false_iff_ne.2 h1;have e2:((CX tl a).kind== 2)=false:=beq_eq_false_iff_ne.2 h2;have e3:((CX tl a).kind== 3)=false:=beq_eq_false_iff_ne.2 h3;have x:=Ab h4;have y:=Ab h5;have z:=Ab h6;have A:=Ab h7;have B:=Ab h8;have d:=Ab (fun s w' (f:Below w.heap.size w w')=>AD (h.below f) s);have C:=Ab (fun w' (f:Below w.heap.size w w')=>CH (h.below f) (i.below f));clear h i h1 h2 h3 h4 h5 h6 h7 h8;go_enter Tryz.func173,Tryz.ntmps173
 go_wp2_with fail
 refine (Aa u).mono ?_;rintro e q ⟨rfl,j⟩;generalize CX tl a=t at e1 e2 e3;dsimp only[Cf];have l:=j.alloc j.size (.cells #[.int .i64 t.kind,.int .i64 t.num,.string t.text,.int .i64 (t.at_:Int)] 93);have U:=Aj.new q #[.int .i64 t.kind,.int .i64 t.num,.string t.text,.int .i64 (t.at_:Int)] 93;have nz:=(Aa v).row.lt;have V:=j.size;go_wp2_with fail
 generalize q.alloc (.cells #[.int .i64 t.kind,.int .i64 t.num,.string t.text,.int .i64 (t.at_:Int)] 93)=E at *;refine (Aa d Ca E l).mono ?_;rintro e F ⟨rfl,H⟩;rw[Aa x];have m:=l.trans (H.mono l.size);dsimp only;go_wp2_with fail
 refine (Aa d Bu F m).mono ?_;rintro e I ⟨rfl,J⟩;rw[Aa y];have n:=m.trans (J.mono m.size);dsimp only;go_wp2_with fail
 refine (Aa d Dp I n).mono ?_;rintro e K ⟨rfl,L⟩;rw[Aa z];have o:=n.trans (L.mono n.size);dsimp only;go_wp2_with fail
 refine (Aa d AV K o).mono ?_;rintro e M ⟨rfl,N⟩;rw[Aa A];have p:=o.trans (N.mono o.size);dsimp only;go_wp2_with fail
 refine (Aa d Dq M p).mono ?_;rintro e O ⟨rfl,P⟩;rw[Aa B];have r:=p.trans (P.mono p.size);dsimp only;go_wp2_with fail
 refine (Aa C O r).mono ?_;rintro e W ⟨b,rfl,Q,R⟩;dsimp only[By];go_wp2_with fail
 go_ret2
 exact ⟨⟨.nilIface,b,rfl,.inl rfl,Q⟩,(Ai.of_below r NLN).allP R⟩
theorem Ve (a: 16≤pb)(b:List Ae)(x:PR)(d:D .prim b x)(f:∀ r x,D .encl r x→r.length≤b.length→CS aY pb g c T tl .encl r x):CS aY pb g c T tl .prim b x:=by
 cases d with
 | num h=>exact WY _ _ h
 | text h=>exact Vc _ _ h
 | name h=>exact Vd _ _ h
 | tru h=>exact WZ _ _ h
 | fls h=>exact W6 _ _ h
 | @size_bad t r q h d=>exact NC a t r _ h (f r _ d (by simp))
 | @size t r q e h d=>exact NC a t r _ h (f r _ d (by simp))
 | @par t r x h d=>exact W8 a t r x h (f _ _ d NLN)
 | @set_bad t r q i h hs=>
  have e:JC t (FR r)= .bad q:=by rw[hs];rfl
  rw[← e];exact Ls a t r h
 | @set_end t r q i h hs hq=>
  have e:JC t (FR r)= .bad q:=by
   rw[hs,JC,if_pos rfl];cases q with
   | nil=>rfl
   | cons u q=>exact if_neg (by rw[show see BT u=false from hq];decide)
  rw[← e];exact Ls a t r h
 | @set t u r q i h hs hq=>
  have e:JC t (FR r)= .ok (.set t.at_ i) q:=by rw[hs,JC,if_pos rfl];exact if_pos hq
  rw[← e];exact Ls a t r h
 | prim_nil=>exact ND [] (show (0 :Int)≠1 by decide) (show (0 :Int)≠2 by decide) (show (0 :Int)≠3 by decide) rfl rfl rfl rfl rfl
 | prim_no h1 h2 h3 h4 h5 h6 h7 h8=>exact ND _ h1 h2 h3 h4 h5 h6 h7 h8
end Go.Proofs.YtoplnhndilmlcaaGreatDoor
namespace Go.Proofs.YtoplnhndilmlcaaGreatDoor
set_option maxRecDepth 100000
set_option maxHeartbeats 6400000
open Go.RowKit
set_option linter.unusedVariables false
variable {aY : Addr} {pb g c : Nat} {T : List Ae} {tl : Nat}
def wd3:Nat→List UInt8
 | 0=>Gm
 | 1=>Cm
 | _=>AE
def Cg (i0:Nat) (x:PR):Nat→List Pt→List Ae→Prop
 | 0,L,r=>∃ a b d,L= [a,b,d]∧x= .ok (.ite i0 a b d) r
 | n+1,L,r=>∃ y,D (.beh (wd3 (2 - n))) r y∧(∀ q,y= .bad q→x= .bad q)∧∀ p q,y= .ok p q→Cg i0 x n (L ++ [p]) q∧q.length≤r.length
theorem D.choice {t:Ae}{r:List Ae}{x:PR}(d:D .expr (t ::r) x)(h:see Gm t=true):Cg t.at_ x 3 [] (t ::r):=by
 cases d with
 | expr_no a d=>rw[Aw,h] at a;cases a
 | expr_if1 _ d1=>exact ⟨_,d1,fun q e=>(by cases e;rfl),fun p q e=>by cases e⟩
 | expr_if2 _ d1 d2=>exact ⟨_,d1,fun q e=>(by cases e),fun p q e=>by cases e;exact ⟨⟨_,d2,fun q e=>(by cases e;rfl),fun p q e=>by cases e⟩,d1.len⟩⟩
 | expr_if3 _ d1 d2 d3=>exact ⟨_,d1,fun q e=>(by cases e),fun p q e=>by cases e;exact ⟨⟨_,d2,fun q e=>(by cases e),fun p q e=>by cases e;exact ⟨⟨_,d3,fun q e=>(by cases e;rfl),fun p q e=>by cases e⟩,d2.len⟩⟩,d1.len⟩⟩
 | expr_if _ d1 d2 d3=>exact ⟨_,d1,fun q e=>(by cases e),fun p q e=>by cases e;exact ⟨⟨_,d2,fun q e=>(by cases e),fun p q e=>by cases e;exact ⟨⟨_,d3,fun q e=>(by cases e),fun p q e=>by cases e;exact ⟨⟨_,_,_,rfl,rfl⟩,d3.len⟩⟩,d2.len⟩⟩,d1.len⟩⟩
def Ql (E:List Ex):Array Value:=(E.map Ex.val ++List.replicate (3 - E.length) Value.nilIface).toArray
def Lr (lo:Nat) (w:World):List Ex→List Pt→Prop
 | [], []=>True
 | e ::E,p ::L=>Er e p∧e.own lo w∧Lr lo w E L
 | _,_=>False
theorem Lr.touch {a:Nat}{w w':World}(T:Ai a (a+1) w w'):∀ (b:List Ex) (L:List Pt),Lr (a+1) w b L→Lr (a+1) w' b L
 | [], [],_=>trivial
 | e ::b,p ::L,h=>⟨h.1,e.own_touch T h.2.1,Lr.touch T b L h.2.2⟩
 | [],_ ::_,h=>h
 | _ ::_, [],h=>h
theorem Lr.snoc {lo:Nat}{w:World}{e:Ex}{p:Pt}(he:Er e p)(b:e.own lo w):∀ (a:List Ex) (L:List Pt),Lr lo w a L→Lr lo w (a ++ [e]) (L ++ [p])
 | [], [],_=>⟨he,b,trivial⟩
 | _ ::a,_ ::L,h=>⟨h.1,h.2.1,Lr.snoc he b a L h.2.2⟩
 | [],_ ::_,h=>absurd h id
 | _ ::_, [],h=>absurd h id
theorem Ex.own_set {lo:Nat}{w:World}{b:Nat}{cs:Array Value}{f:TypeId}(R:Aj w b cs f)(d:f≠9)(j:Nat)(v:Value):∀ (e:Ex),e.own lo w→e.own lo (w.setCell ⟨b,j,none⟩ v)
 | .int ..,h=>h
 | .text ..,h=>h
 | .bool ..,h=>h
 | .set _ a n c ss,h=>by
  have g:w.ownsRow lo 9 1 (.slice a n c) n (ss.map Value.string):=h;exact Ac g (fun q hq=>heap_setCell_other w ⟨b,j,none⟩ q v (fun e=>Ad R g d (by rw[hq,e])))
 | .name ..,h=>h
 | .attr ..,h=>h
 | .lett ..,h=>h
 | .un _ _ k,h=>k.own_set R d j v h
 | .bin _ _ l r,h=>⟨l.own_set R d j v h.1,r.own_set R d j v h.2⟩
 | .ite _ c t e,h=>⟨c.own_set R d j v h.1,t.own_set R d j v h.2.1,e.own_set R d j v h.2.2⟩
theorem Lr.setP {lo:Nat}{w:World}{b:Nat}{cs:Array Value}{c:TypeId}(R:Aj w b cs c)(d:c≠9)(j:Nat)(v:Value):∀ (a:List Ex) (L:List Pt),Lr lo w a L→Lr lo (w.setCell ⟨b,j,none⟩ v) a L
 | [], [],_=>trivial
 | e ::a,p ::L,h=>⟨h.1,e.own_set R d j v h.2.1,Lr.setP R d j v a L h.2.2⟩
 | [],_ ::_,h=>h
 | _ ::_, [],h=>h
theorem Pp.setP {w:World}{k:Nat}{f:List Ae}(h:Pp w pb g c T tl f k){b:Nat}{cs:Array Value}{d:TypeId}(R:Aj w b cs d)(h1:d≠95)(h2:d≠93)(j:Nat)(v:Value):Pp (w.setCell ⟨b,j,none⟩ v) pb g c T tl f k:=by
 have i:pb≠b:=fun e=>by
  have l:=R.out;have a:=h.row.out;rw[e,l] at a;injection a with a;injection a with _ a;exact h1 a
 exact ⟨⟨(heap_setCell_other w ⟨b,j,none⟩ pb v i).trans h.row.out⟩,Ac h.toks (fun q hq=>heap_setCell_other w ⟨b,j,none⟩ q v (fun e=>Ad R h.toks h2 (by rw[hq,e]))),h.drop,h.len,h.small⟩
theorem Acc (w:World):(Instr.index 254 (.agg #[.string ⟨#[105,102]⟩,.string ⟨#[116,104,101,110]⟩,.string ⟨#[101,108,115,101]⟩]) (.int .i64 0)).run Tryz.prog w= .ok (.string ⟨#[105,102]⟩) w:=by kernel_rfl
theorem Acd (w:World):(Instr.index 254 (.agg #[.string ⟨#[105,102]⟩,.string ⟨#[116,104,101,110]⟩,.string ⟨#[101,108,115,101]⟩]) (.int .i64 1)).run Tryz.prog w= .ok (.string ⟨#[116,104,101,110]⟩) w:=by kernel_rfl
theorem Ace (w:World):(Instr.index 254 (.agg #[.string ⟨#[105,102]⟩,.string ⟨#[116,104,101,110]⟩,.string ⟨#[101,108,115,101]⟩]) (.int .i64 2)).run Tryz.prog w= .ok (.string ⟨#[101,108,115,101]⟩) w:=by kernel_rfl
theorem SE (aq: 16≤pb)(t:Ae)(r:List Ae)(x:PR)(hc:Cg t.at_ x 3 [] (t ::r))(aA:∀ s ar x,D (.beh s) ar x→ar.length≤r.length+1→CS aY pb g c T tl (.beh s) ar x)(w:World)(k:Nat)(h:Pp w pb g c T tl (t ::r) k)(aB:Gy w aY):
  Calls Tryz.prog 158 #[.pointer (some ⟨pb,0,none⟩)] w (EW aY pb g c T tl x w):=by
 have aa:=Ab (Bc h);have au:=Ab aA;have ab:=Ab hc;have ac:=Ab h;have av:=Ab aB;have aQ:=Cp (.int .i64 t.kind) (.int .i64 t.num) (.string t.text) (.int .i64 (t.at_:Int));have nz:=h.row.lt;clear aA hc h aB;go_enter Tryz.func158,Tryz.ntmps158
 go_wp2_with fail
 refine (Aa aa).mono ?_;rintro e m ⟨rfl,aw⟩;dsimp only[Cf,CX];have aR:=aw.size;have ax:=aw.alloc aw.size (.cells #[.nilIface,.nilIface,.nilIface] 253);have aC:=Aj.new m #[.nilIface,.nilIface,.nilIface] 253;go_wp2_with fail
 go_loopw [14] (fun ay wr=>∃ (i:Nat) (z:List Ex) (L:List Pt) (q:List Ae) (Z:Nat),ay= .int .i64 i∧i≤3∧z.length=i∧Lr (pb+1) wr z L∧Cg t.at_ x (3 - i) L q∧q.length≤r.length+1∧Pp wr pb g c T tl q Z∧Aj wr m.heap.size (Ql z) 253∧Ai pb (pb+1) w wr) (fun ay _=>3 - (intOf ay).toNat)
 case atStart=>exact ⟨0, [], [],t ::r,k,rfl,by omega,rfl,trivial,Aa ab,by simp,(Aa ac).below ax,aC,Ai.of_below ax NLN⟩
 case round=>
  clear aC ax;obtain ⟨i,z,L,q,Z,rfl,hi,I,J,u,hq,K,H,E⟩:=hrel;have az:pb+1≤m.heap.size:=by omega
  have aJ:i=0∨i=1∨i=2∨i=3:=by omega
  rcases aJ with rfl | rfl | rfl | rfl
  ·have aK:z= []:=List.eq_nil_of_length_eq_zero I;subst aK;obtain ⟨y,M,N,O⟩:∃ y,D (.beh (wd3 0)) q y∧(∀ f,y= .bad f→x= .bad f)∧∀ p f,y= .ok p f→Cg t.at_ x 2 (L ++ [p]) f∧f.length≤q.length:=u;have P:Hid (Calls Tryz.prog 135 #[.pointer (some ⟨pb,0,none⟩),.string (Bg (wd3 0))] wr (EW aY pb g c T tl y wr)):=Ab (Aa au _ q y M hq wr Z K ((Aa av).touch E aq));have A:=Ab (And.intro N O);have F:=Ab J;have ad:=Ab hq;clear I J hq M N O K hi ab ac aa;have aD:=Acc;go_wp2_with fail
   refine (Aa P).mono ?_;intro aE ae Q;cases y with
   | bad f=>
    obtain ⟨⟨v,b,rfl,af,ag⟩,o⟩:=Q;have W:=Ab ((Aa A).1 f rfl);rcases af with rfl | ⟨aF,aG,rfl⟩
    all_goals
     dsimp only[By];go_wp2_with fail
     go_ret2
     rw[Aa W];exact ⟨⟨.nilIface,b,rfl,.inl rfl,ag⟩,E.trans o⟩
   | ok p f=>
    obtain ⟨⟨e,ah,rfl,he,R,S⟩,o⟩:=Q;obtain ⟨u,U⟩:=(Aa A).2 p f rfl;have l:=H.touchP o (.inr az);have ai:=Ab (Lr.snoc he R _ _ (Lr.touch o _ _ (Aa F)));have V:=Ab (And.intro u U);have X:=Ab S;obtain ⟨B,C,hf⟩:=e.form;have aj:=Ab hf;rw[hf];clear he R S hf u U H A F P;have aH:=fun j=>l.frozen j;have ak:=l.cell 0;have Y:=l.cell 0;have q2:=l.cell 1;have q3:=l.cell 2;simp only[Ql,List.map_nil,List.length_nil,List.nil_append,List.getElem?_toArray,List.getElem?_cons_zero,List.getElem?_cons_succ,Nat.reduceSub,List.replicate] at ak Y q2 q3;dsimp only;go_wp2_with fail
    have al:=l.set 0 (.iface B C);have ao:=(E.trans o).setNewP ⟨m.heap.size,0,none⟩ (.iface B C) (by show w.heap.size≤m.heap.size;omega);have aI:=Ai.setCell (lo:=m.heap.size) (hi:=m.heap.size+1) ae ⟨m.heap.size,0,none⟩ (.iface B C) NLN (Nat.lt_succ_self _);go_roundw
    case rel=>exact ⟨1, [e],_,f,ah,rfl,by omega,rfl,Lr.setP l (by decide) _ _ _ _ (Aa ai),(Aa V).1,by have:=Aa ad;have:=(Aa V).2;omega,(Aa X).setP l (by decide) (by decide) _ _,by rw[Ql];simp only[List.map_cons,List.map_nil];rw[Aa aj];exact al,ao⟩
    case measure=>simp[intOf]
  ·obtain ⟨n,rfl⟩:∃ n,z= [n]:=by
    match z,I with
    | [n],_=>exact ⟨n,rfl⟩
   obtain ⟨y,M,N,O⟩:∃ y,D (.beh (wd3 1)) q y∧(∀ f,y= .bad f→x= .bad f)∧∀ p f,y= .ok p f→Cg t.at_ x 1 (L ++ [p]) f∧f.length≤q.length:=u;have P:Hid (Calls Tryz.prog 135 #[.pointer (some ⟨pb,0,none⟩),.string (Bg (wd3 1))] wr (EW aY pb g c T tl y wr)):=Ab (Aa au _ q y M hq wr Z K ((Aa av).touch E aq));have A:=Ab (And.intro N O);have F:=Ab J;have ad:=Ab hq;clear I J hq M N O K hi ab ac aa;have aD:=Acd;go_wp2_with fail
   refine (Aa P).mono ?_;intro aE ae Q;cases y with
   | bad f=>
    obtain ⟨⟨v,b,rfl,af,ag⟩,o⟩:=Q;have W:=Ab ((Aa A).1 f rfl);rcases af with rfl | ⟨aF,aG,rfl⟩
    all_goals
     dsimp only[By];go_wp2_with fail
     go_ret2
     rw[Aa W];exact ⟨⟨.nilIface,b,rfl,.inl rfl,ag⟩,E.trans o⟩
   | ok p f=>
    obtain ⟨⟨e,ah,rfl,he,R,S⟩,o⟩:=Q;obtain ⟨u,U⟩:=(Aa A).2 p f rfl;have l:=H.touchP o (.inr az);have ai:=Ab (Lr.snoc he R _ _ (Lr.touch o _ _ (Aa F)));have V:=Ab (And.intro u U);have X:=Ab S;obtain ⟨B,C,hf⟩:=e.form;have aj:=Ab hf;rw[hf];clear he R S hf u U H A F P;have aH:=fun j=>l.frozen j;have ak:=l.cell 1;have Y:=l.cell 0;have q2:=l.cell 1;have q3:=l.cell 2;simp only[Ql,List.map_cons,List.map_nil,List.length_cons,List.length_nil,List.nil_append,List.cons_append,List.getElem?_toArray,List.getElem?_cons_zero,List.getElem?_cons_succ,Nat.reduceAdd,Nat.reduceSub,List.replicate] at ak Y q2 q3;dsimp only;go_wp2_with fail
    have al:=l.set 1 (.iface B C);have ao:=(E.trans o).setNewP ⟨m.heap.size,1,none⟩ (.iface B C) (by show w.heap.size≤m.heap.size;omega);have aI:=Ai.setCell (lo:=m.heap.size) (hi:=m.heap.size+1) ae ⟨m.heap.size,1,none⟩ (.iface B C) NLN (Nat.lt_succ_self _);go_roundw
    case rel=>exact ⟨2, [n,e],_,f,ah,rfl,by omega,rfl,Lr.setP l (by decide) _ _ _ _ (Aa ai),(Aa V).1,by have:=Aa ad;have:=(Aa V).2;omega,(Aa X).setP l (by decide) (by decide) _ _,by rw[Ql];simp only[List.map_cons,List.map_nil];rw[Aa aj];exact al,ao⟩
    case measure=>simp[intOf]
  ·obtain ⟨n,e1,rfl⟩:∃ n e1,z= [n,e1]:=by
    match z,I with
    | [n,e1],_=>exact ⟨n,e1,rfl⟩
   obtain ⟨y,M,N,O⟩:∃ y,D (.beh (wd3 2)) q y∧(∀ f,y= .bad f→x= .bad f)∧∀ p f,y= .ok p f→Cg t.at_ x 0 (L ++ [p]) f∧f.length≤q.length:=u;have P:Hid (Calls Tryz.prog 135 #[.pointer (some ⟨pb,0,none⟩),.string (Bg (wd3 2))] wr (EW aY pb g c T tl y wr)):=Ab (Aa au _ q y M hq wr Z K ((Aa av).touch E aq));have A:=Ab (And.intro N O);have F:=Ab J;have ad:=Ab hq;clear I J hq M N O K hi ab ac aa;have aD:=Ace;go_wp2_with fail
   refine (Aa P).mono ?_;intro aE ae Q;cases y with
   | bad f=>
    obtain ⟨⟨v,b,rfl,af,ag⟩,o⟩:=Q;have W:=Ab ((Aa A).1 f rfl);rcases af with rfl | ⟨aF,aG,rfl⟩
    all_goals
     dsimp only[By];go_wp2_with fail
     go_ret2
     rw[Aa W];exact ⟨⟨.nilIface,b,rfl,.inl rfl,ag⟩,E.trans o⟩
   | ok p f=>
    obtain ⟨⟨e,ah,rfl,he,R,S⟩,o⟩:=Q;obtain ⟨u,U⟩:=(Aa A).2 p f rfl;have l:=H.touchP o (.inr az);have ai:=Ab (Lr.snoc he R _ _ (Lr.touch o _ _ (Aa F)));have V:=Ab (And.intro u U);have X:=Ab S;obtain ⟨B,C,hf⟩:=e.form;have aj:=Ab hf;rw[hf];clear he R S hf u U H A F P;have aH:=fun j=>l.frozen j;have ak:=l.cell 2;have Y:=l.cell 0;have q2:=l.cell 1;have q3:=l.cell 2;simp only[Ql,List.map_cons,List.map_nil,List.length_cons,List.length_nil,List.nil_append,List.cons_append,List.getElem?_toArray,List.getElem?_cons_zero,List.getElem?_cons_succ,Nat.reduceAdd,Nat.reduceSub,List.replicate] at ak Y q2 q3;dsimp only;go_wp2_with fail
    have al:=l.set 2 (.iface B C);have ao:=(E.trans o).setNewP ⟨m.heap.size,2,none⟩ (.iface B C) (by show w.heap.size≤m.heap.size;omega);have aI:=Ai.setCell (lo:=m.heap.size) (hi:=m.heap.size+1) ae ⟨m.heap.size,2,none⟩ (.iface B C) NLN (Nat.lt_succ_self _);go_roundw
    case rel=>exact ⟨3, [n,e1,e],_,f,ah,rfl,by omega,rfl,Lr.setP l (by decide) _ _ _ _ (Aa ai),(Aa V).1,by have:=Aa ad;have:=(Aa V).2;omega,(Aa X).setP l (by decide) (by decide) _ _,by rw[Ql];simp only[List.map_cons,List.map_nil];rw[Aa aj];exact al,ao⟩
    case measure=>simp[intOf]
  ·obtain ⟨n,e1,e2,rfl⟩:∃ n e1 e2,z= [n,e1,e2]:=by
    match z,I with
    | [n,e1,e2],_=>exact ⟨n,e1,e2,rfl⟩
   obtain ⟨a,b,d,rfl,hx⟩:∃ a b d,L= [a,b,d]∧x= .ok (.ite t.at_ a b d) q:=u;have W:=Ab hx;have F:=Ab J;have X:=Ab K;obtain ⟨aS,u0,ap⟩:=n.form;obtain ⟨aT,u1,f1⟩:=e1.form;obtain ⟨aU,u2,f2⟩:=e2.form;have Y:=H.cell 0;have q2:=H.cell 1;have q3:=H.cell 2;simp only[Ql,List.map_cons,List.map_nil,List.length_cons,List.length_nil,List.nil_append,List.cons_append,List.getElem?_toArray,List.getElem?_cons_zero,List.getElem?_cons_succ,ap,f1,f2] at Y q2 q3;have aL:=Ab (And.intro ap (And.intro f1 f2));clear hx J K I hq hi ap f1 f2 ab ac aa;go_wp2_with fail
   go_ret2
   rw[Aa W];obtain ⟨⟨aM,aN,g1,aO,g2,aP,_⟩,ap,f1,f2⟩:=And.intro (Aa F) (Aa aL);exact ⟨⟨.ite t.at_ n e1 e2,Z,by rw[Ex.val,ap,f1,f2];rfl,⟨rfl,aM,g1,g2⟩,⟨aN,aO,aP⟩,Aa X⟩,E⟩
theorem Vb (z: 16≤pb)(b:List Ae)(x:PR)(d:D .expr b x)(k:∀ x,D (.chain 1) b x→CS aY pb g c T tl (.chain 1) b x)(l:∀ s m x,D (.beh s) m x→m.length≤b.length→CS aY pb g c T tl (.beh s) m x):CS aY pb g c T tl .expr b x:=by
 intro w u h j;show Calls Tryz.prog 148 #[.pointer (some ⟨pb,0,none⟩)] w (EW aY pb g c T tl x w);have y:=Ab (AD h Gm);have A:(Aw Gm b=false∧D (.chain 1) b x)∨(∃ t r,b=t ::r∧see Gm t=true∧Cg t.at_ x 3 [] (t ::r)):=by
  cases hs:Aw Gm b
  ·left;cases d with
   | expr_no h d=>exact ⟨rfl,d⟩
   | expr_if1 f _=>rw[Aw,f] at hs;cases hs
   | expr_if2 f _ _=>rw[Aw,f] at hs;cases hs
   | expr_if3 f _ _ _=>rw[Aw,f] at hs;cases hs
   | expr_if f _ _ _=>rw[Aw,f] at hs;cases hs
  ·cases b with
   | nil=>cases hs
   | cons t r=>exact .inr ⟨t,r,rfl,hs,d.choice hs⟩
 clear d;rcases A with ⟨hs,d⟩ | ⟨t,r,rfl,hs,hc⟩
 ·have n:=Ab hs;have o:Hid (∀ w',Below w.heap.size w w'→Calls Tryz.prog 159 #[.pointer (some ⟨pb,0,none⟩),.int .i64 1] w' (EW aY pb g c T tl x w')):=Ab (fun w' a=>k _ d w' u (h.below a) (j.below a));clear h j k l hs d;go_enter Tryz.func148,Tryz.ntmps148
  go_wp2_with fail
  refine (Aa y).mono ?_;rintro e p ⟨rfl,a⟩;rw[Aa n];dsimp only;go_wp2_with fail
  refine (Aa o p a).mono ?_;intro r B i;obtain ⟨v,e,rfl,C,he⟩:=i.form;have q:=Ab (i.from (Ai.of_below a NLN));clear i;dsimp only;go_wp2_with fail
  go_ret2
  exact Aa q
 ·have n:=Ab (show Aw Gm (t ::r)=true from hs);have o:=Ab (fun w' (a:Below w.heap.size w w')=>SE z t r x hc l w' u (h.below a) (j.below a));clear h j k l hs hc;go_enter Tryz.func148,Tryz.ntmps148
  go_wp2_with fail
  refine (Aa y).mono ?_;rintro e p ⟨rfl,a⟩;rw[Aa n];dsimp only;go_wp2_with fail
  refine (Aa o p a).mono ?_;intro r B i;obtain ⟨v,e,rfl,C,he⟩:=i.form;have q:=Ab (i.from (Ai.of_below a NLN));clear i;dsimp only;go_wp2_with fail
  go_ret2
  exact Aa q
end Go.Proofs.YtoplnhndilmlcaaGreatDoor
namespace Go.Proofs.YtoplnhndilmlcaaGreatDoor
open Go.RowKit
set_option linter.unusedVariables false
variable {aY : Addr} {pb g c : Nat} {T : List Ae} {tl : Nat}
theorem Vf (j: 16≤pb):∀ (n:Nat) (nt:NT) (f:List Ae) (x:PR),D nt f x→nt.good→nt.slow=false→f.length * 17+nt.rank≤n→CS aY pb g c T tl nt f x:=by
 intro n
 induction n using Nat.strongRecOn with
 | ind n t=>
  intro nt f x d o hs hm;have i:∀ b r y,D b r y→b.good→b.slow=false→r.length * 17+b.rank < f.length * 17+nt.rank→CS aY pb g c T tl b r y:=fun b r y a p m q=>t _ (by omega) b r y a p m NLN;have u:∀ b:NT,b.slow=false→b.rank≤15:=fun b h=>by
   cases b with
   | more k e=>cases h
   | opd k=>simp only[NT.rank];split <;> (try split) <;> (try split) <;> (try split) <;> omega
   | chain k=>simp only[NT.rank];split <;> (try split) <;> (try split) <;> omega
   | _=>simp[NT.rank]
  cases nt with
  | more k e=>cases hs
  | beh s=>exact WQ j s f x d (fun r x a l=>i _ _ _ a trivial rfl (by simp only[NT.rank];omega))
  | encl=>exact U8 j f x d (fun x a=>i _ _ _ a trivial rfl (by simp only[NT.rank];omega))
  | prim=>exact Ve j f x d (fun r x a l=>i _ _ _ a trivial rfl (by simp only[NT.rank];omega))
  | una=>exact WT j f x d (fun x a=>i _ _ _ a trivial rfl (by simp only[NT.rank];omega)) (fun r x a l=>i _ _ _ a trivial rfl (by simp only[NT.rank];omega))
  | neg=>exact WS j f x d (fun x a=>i _ _ _ a trivial rfl (by simp only[NT.rank];omega)) (fun r x a l=>i _ _ _ a trivial rfl (by simp only[NT.rank];omega))
  | cmp=>exact WV j f x d (fun r x a l=>i _ _ _ a (.inr (.inr (.inl rfl))) rfl (by simp[NT.rank];omega))
  | opd k=>exact WR k f x d (fun b x a p q=>by
    cases m:b.slow
    ·exact i _ _ _ a p m (by omega)
    ·cases b with
     | more v e=>exfalso;have:(NT.opd k).rank≤15:=u _ rfl;simp only[NT.rank] at q this;omega
     | _=>cases m)
  | chain k=>
   have w:(NT.opd k).rank+1=(NT.chain k).rank:=by simp[NT.good] at o;rcases o with rfl | rfl | rfl | rfl <;> rfl
   exact SD j k f x d (fun r x a l=>i _ _ _ a (by simp[NT.good] at o ⊢;omega) rfl (by omega))
  | expr=>exact Vb j f x d (fun x a=>i _ _ _ a (.inl rfl) rfl (by simp[NT.rank])) (fun s r x a l=>i _ _ _ a trivial rfl (by simp only[NT.rank];omega))
theorem g0 (b: 16≤pb)(s:List UInt8)(a:List Ae)(x:PR)(d:D (.beh s) a x)(w:World)(k:Nat)(h:Pp w pb g c T tl a k)(f:Gy w aY):
  Calls Tryz.prog 135 #[.pointer (some ⟨pb,0,none⟩),.string (Bg s)] w (EW aY pb g c T tl x w):=Vf b _ (.beh s) a x d trivial rfl NLN w k h f
end Go.Proofs.YtoplnhndilmlcaaGreatDoor
