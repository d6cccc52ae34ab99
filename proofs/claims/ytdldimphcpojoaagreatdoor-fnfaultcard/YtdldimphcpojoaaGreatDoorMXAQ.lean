/-
  NUF, NUG, KTE, QS, VPX, TZ. Own work.
-/
import Derived.Test.YtdldimphcpojoaaGreatDoorNUE1
import Derived.Test.YtdldimphcpojoaaGreatDoorNUE2
import Derived.Test.YtdldimphcpojoaaGreatDoorNUE3
import Derived.Test.YtdldimphcpojoaaGreatDoorMXAO
import Derived.Test.YtdldimphcpojoaaGreatDoorKTD
import Derived.Test.YtdldimphcpojoaaGreatDoorMXAY
import Derived.Test.YtdldimphcpojoaaGreatDoorMXAW
import Derived.Test.YtdldimphcpojoaaGreatDoorMXAF
namespace Go.Proofs.YtdldimphcpojoaaGreatDoor
set_option maxRecDepth 100000
open Go.RowKit
set_option linter.unusedVariables false
theorem Am:∀ (e:Ex) (b:Nat),(BI e b).length=e.cnt
 | .int ..,_=>rfl
 | .text ..,_=>rfl
 | .bool ..,_=>rfl
 | .set ..,_=>rfl
 | .name ..,_=>rfl
 | .attr ..,_=>rfl
 | .lett ..,_=>rfl
 | .un _ _ k,b=>by simp[BI,Ex.cnt,Am k]
 | .bin _ _ l r,b=>by simp[BI,Ex.cnt,Am l,Am r];omega
 | .ite _ c t e,b=>by simp[BI,Ex.cnt,Am c,Am t,Am e];omega
theorem AU:∀ (e:Ex),(CX e).length=e.cnt
 | .int .. =>rfl
 | .text .. =>rfl
 | .bool .. =>rfl
 | .set .. =>rfl
 | .name .. =>rfl
 | .attr .. =>rfl
 | .lett .. =>rfl
 | .un _ _ k=>by simp[CX,Ex.cnt,AU k]
 | .bin _ _ l r=>by simp[CX,Ex.cnt,AU l,AU r];omega
 | .ite _ c t e=>by simp[CX,Ex.cnt,AU c,AU t,AU e];omega
def Ex.sok (w:World):Ex→Prop
 | .set _ a n c ss=>Bg w a n c ss∧ss.length≤1048576
 | .un _ _ k=>k.sok w
 | .bin _ _ l r=>l.sok w∧r.sok w
 | .ite _ c t e=>c.sok w∧t.sok w∧e.sok w
 | _=>True
theorem Ex.sok_below {w w':World}{B:Nat}(a:Below B w w')(b:w.heap.size≤B):∀ (e:Ex),e.sok w→e.sok w'
 | .int ..,h=>h
 | .text ..,h=>h
 | .bool ..,h=>h
 | .set ..,h=>⟨h.1.below a b,h.2⟩
 | .name ..,h=>h
 | .attr ..,h=>h
 | .lett ..,h=>h
 | .un _ _ k,h=>k.sok_below (w:=w) a b h
 | .bin _ _ l r,h=>⟨l.sok_below a b h.1,r.sok_below a b h.2⟩
 | .ite _ c t e,h=>⟨c.sok_below a b h.1,t.sok_below a b h.2.1,e.sok_below a b h.2.2⟩
theorem FF (B f:Nat)(d:World)(g:d.heap.size≤B):∀ (e:Ex),e.sok d→VD B f d e.val (BI e) (CX e) e.cnt
 | .int i n,_=>EJ B f d _ _ i _ rfl (Om i n) (TJ i n) (Ab fun w _=>Vz i n w)
 | .text i s,_=>EJ B f d _ _ i _ rfl (Me i s) (QU i s) (Ab fun w _=>TV i s w)
 | .bool i b,_=>EJ B f d _ _ i _ rfl (Mf i b) (QV i b) (Ab fun w _=>TZ i b w)
 | .set i a n c ss,h=>EJ B f d _ _ i _ rfl (On i a n c) (TK i a n c) (Ab fun w H=>VC i a n c ss w (h.1.below H g) h.2)
 | .name i s,_=>EJ B f d _ _ i _ rfl (Mg i s) (QW i s) (Ab fun w _=>TW i s w)
 | .attr i n,_=>EJ B f d _ _ i _ rfl (Mh i n) (QX i n) (Ab fun w _=>TX i n w)
 | .lett i n,_=>EJ B f d _ _ i _ rfl (Mi i n) (QY i n) (Ab fun w _=>TY i n w)
 | .un i op k,h=>by
  have z:=FF B f d g k h;obtain ⟨t,u,I⟩:=Ex.form k;rw[Ex.val];rw[I] at z ⊢;exact X7 B f d i op t u k.cnt (BI k) (CX k) (Am k) (Ab z) (AU k) (Ab fun A w _=>WS i op t u k w)
 | .bin i op l r,h=>by
  have j:=FF B f d g l h.1;have m:=FF B f d g r h.2;obtain ⟨o,p,x⟩:=Ex.form l;obtain ⟨q,v,y⟩:=Ex.form r;rw[Ex.val];rw[x] at j ⊢;rw[y] at m ⊢;exact WT B f d i op o p _ (BI l) (CX l) (Am l) (Ab j) (AU l) q v _ (BI r) (CX r) (Am r) (Ab m) (AU r) (Ab fun A w _=>VA i op o p q v l r w)
 | .ite i c t e,h=>by
  have j:=FF B f d g c h.1;have m:=FF B f d g t h.2.1;have C:=FF B f d g e h.2.2;obtain ⟨o,p,x⟩:=Ex.form c;obtain ⟨q,v,y⟩:=Ex.form t;obtain ⟨E,F,J⟩:=Ex.form e;rw[Ex.val];rw[x] at j ⊢;rw[y] at m ⊢;rw[J] at C ⊢;exact WU B f d i o p _ (BI c) (CX c) (Am c) (Ab j) (AU c) q v _ (BI t) (CX t) (Am t) (Ab m) (AU t) E F _ (BI e) (CX e) (Am e) (Ab C) (AU e) (Ab fun A w _=>VB i o p q v E F c t e w)
theorem WV (a:Nat)(w:World):Calls Tryz.prog 63 #[.pointer (some ⟨a,0,none⟩),.nilIface] w fun r w'=>r= .returned (.int .i64 (-1))∧w'=w:=by
 go_enter Tryz.func63,Tryz.ntmps63
 go_wp2_with fail
 go_ret
 exact ⟨rfl,rfl⟩
structure Sx where
 at':Int
 kind:Int
 name:ByteArray
 cond:Option Ex
 grant:Option Ex
def DE:Option Ex→Value
 | none=> .nilIface
 | some e=>e.val
def U0 (x:Sx):List Value:= [.int .i64 x.at',.int .i64 x.kind,.string x.name,DE x.cond,DE x.grant]
def Mc (S:List Sx):List Value:=S.flatMap U0
theorem WW:∀ (S:List Sx),(Mc S).length=S.length * 5
 | []=>rfl
 | x ::S=>by
  have:=WW S;rw[Mc] at this ⊢;rw[List.flatMap_cons,List.length_append,this,List.length_cons];simp[U0];omega
theorem QA:∀ (S:List Sx) (j:Nat) (h:j < S.length) (r:Nat),r < 5→(Mc S)[j * 5+r]? =(U0 S[j])[r]?
 | x ::S,0,h,r,hr=>by
  rw[Mc,List.flatMap_cons,Nat.zero_mul,Nat.zero_add,List.getElem?_append_left (by simp[U0];omega)];simp
 | x ::S,j+1,h,r,hr=>by
  have a:=QA S j (by simpa using h) r hr;rw[Mc] at a ⊢;rw[List.flatMap_cons,List.getElem?_append_right (by simp[U0];omega)];have e:(j+1) * 5+r - (U0 x).length=j * 5+r:=by simp[U0];omega
  rw[e,a];simp only[List.getElem_cons_succ]
 | [],_,h,_,_=>absurd h (by simp)
def A9:Option Ex→Nat
 | none=>0
 | some e=>e.cnt
def JE:Option Ex→Nat→List Nd
 | none,_=> []
 | some e,b=>BI e b
def JW:Option Ex→List Int
 | none=> []
 | some e=>CX e
def I5:Option Ex→Nat→Int
 | none,_=>-1
 | some e,b=>((b+e.cnt - 1 :Nat):Int)
def Tq (w:World):Option Ex→Prop
 | none=>True
 | some e=>e.sok w
theorem Gs (a:Option Ex)(b:Nat):(JE a b).length=A9 a:=by
 cases a
 ·rfl
 ·exact Am _ _
theorem Im (a:Option Ex):(JW a).length=A9 a:=by
 cases a
 ·rfl
 ·exact AU _
def Bi:Nat→List Sx→List Nd
 | _, []=> []
 | b,x ::S=>JE x.cond b ++JE x.grant (b+A9 x.cond) ++Bi (b+A9 x.cond+A9 x.grant) S
def Dd:List Sx→List Int
 | []=> []
 | x ::S=>JW x.cond ++JW x.grant ++Dd S
def DZ:Nat→List Sx→List St
 | _, []=> []
 | b,x ::S=>⟨x.kind,x.name,I5 x.cond b,I5 x.grant (b+A9 x.cond)⟩ ::DZ (b+A9 x.cond+A9 x.grant) S
def DH (S:List Sx):Nat:=(S.map fun x=>A9 x.cond+A9 x.grant).sum
theorem CP (x:Sx)(S:List Sx):DH (x ::S)=A9 x.cond+A9 x.grant+DH S:=by simp[DH]
theorem EG:∀ (S:List Sx) (b:Nat),(Bi b S).length=DH S
 | [],_=>rfl
 | x ::S,b=>by rw[Bi,List.length_append,List.length_append,Gs,Gs,EG S,CP]
theorem Io:∀ (S:List Sx),(Dd S).length=DH S
 | []=>rfl
 | x ::S=>by rw[Dd,List.length_append,List.length_append,Im,Im,Io S,CP]
theorem KM:∀ (S:List Sx) (b:Nat),(DZ b S).length=S.length
 | [],_=>rfl
 | x ::S,b=>by rw[DZ,List.length_cons,KM S,List.length_cons]
theorem KX (a B:List Sx):DH (a ++B)=DH a+DH B:=by simp[DH]
theorem Jg (x:Sx):∀ (S:List Sx) (b:Nat),Bi b (S ++ [x])=Bi b S ++JE x.cond (b+DH S) ++JE x.grant (b+DH S+A9 x.cond)
 | [],b=>by simp[Bi,DH]
 | y ::S,b=>by
  rw[List.cons_append,Bi,Bi,Jg x S,CP];have e:b+A9 y.cond+A9 y.grant+DH S=b+(A9 y.cond+A9 y.grant+DH S):=by omega
  rw[e];simp only[List.append_assoc]
theorem Jh (x:Sx):∀ (S:List Sx),Dd (S ++ [x])=Dd S ++JW x.cond ++JW x.grant
 | []=>by simp[Dd]
 | y ::S=>by
  rw[List.cons_append,Dd,Dd,Jh x S];simp only[List.append_assoc]
theorem Ji (x:Sx):∀ (S:List Sx) (b:Nat),DZ b (S ++ [x])=DZ b S ++ [⟨x.kind,x.name,I5 x.cond (b+DH S),I5 x.grant (b+DH S+A9 x.cond)⟩]
 | [],b=>by simp[DZ,DH]
 | y ::S,b=>by
  rw[List.cons_append,DZ,DZ,Ji x S,CP];have e:b+A9 y.cond+A9 y.grant+DH S=b+(A9 y.cond+A9 y.grant+DH S):=by omega
  rw[e];rfl
theorem Mn (L:List St)(s:St):CA (L ++ [s])=CA L ++ [.int .i64 s.kind,.string s.name,.int .i64 s.cond,.int .i64 s.grant]:=by simp[CA]
def Zn (B nb:Nat) (N:List Nd) (P:List Int) (nd pl:Value) (nv kv:List Value) (M:List Nd) (Q:List Int) (ix:Int) (w:World) (r:Ending) (w':World):Prop:=
 r= .returned (.int .i64 ix)∧∃ nd' pl' nv' kv',J2 w' B nb (N ++M) (P ++Q) nd' pl' (nv ++nv') (kv ++kv')∧Nk B nb nd pl w nd' pl' w'
theorem Yw (B b:Nat)(c:World)(i:c.heap.size≤B)(a:Option Ex)(hs:Tq c a)(N:List Nd)(P:List Int)(nd d:Value)(f g:List Value)(w:World)(j:Below B c w)(h:J2 w B b N P nd d f g)(h1:N.length+A9 a≤65535)(h2:P.length+A9 a≤65535):
  Calls Tryz.prog 63 #[.pointer (some ⟨b,0,none⟩),DE a] w (Zn B b N P nd d f g (JE a N.length) (JW a) (I5 a N.length) w):=by
 cases a with
 | none=>exact (WV b w).mono fun r w' ⟨e1,e2⟩=>⟨e1,nd,d, [], [],by rw[e2];simpa[JE,JW] using h,by rw[e2];exact Nk.refl _ _ _ _ _⟩
 | some e=>exact (FF B b c i e hs N P nd d f g w j h h1 h2).mono fun r w' ⟨e1,k,l,m,n,o,p,_⟩=>⟨by rw[e1,Am];rfl,k,l,m,n,o,p⟩
theorem J2.other {w w':World}{B b:Nat}{N:List Nd}{P:List Int}{nd c:Value}{d f:List Value}(h:J2 w B b N P nd c d f){v:Value}{m:Nat}{g:List Value}{lo:Nat}(O:w.ownsRow lo 49 4 v m g)(hk:∀ q,q < w.heap.size→v.ownBlock≠some q→w'.heap[q]? =w.heap[q]?):J2 w' B b N P nd c d f:=
 ⟨⟨(hk b h.row.lt (Ad h.row O (by decide))).trans h.row.out⟩,
   h.nodes.upto (fun q hq=>hk q (h.nodes.lts.1 q hq).2 (fun e=>Al O h.nodes.own (by decide) q e hq)) (fun j a q hq=>hk q (h.nodes.lts.2.1 j a q hq).2 (fun e=>Al O (h.nodes.names j (by rw[← h.nodes.len];exact a) a) (by decide) q e hq)) (fun j a q hq=>hk q (h.nodes.lts.2.2 j a q hq).2 (fun e=>Al O (h.nodes.kids j (by rw[← h.nodes.lenk];exact a) a) (by decide) q e hq)),
   Ac h.places (fun q hq=>hk q (h.places.lt q hq).2 (fun e=>Al O h.places (by decide) q e hq)),h.apart,h.low⟩
theorem Nk.stm {B a:Nat}{nd b d f:Value}{w w':World}{N:List Nd}{P:List Int}{g i:List Value}(h:Nk B a nd b w d f w')(C:J2 w B a N P nd b g i){v:Value}{m:Nat}{c:List Value}{lo:Nat}(O:w.ownsRow lo 49 4 v m c):w'.ownsRow lo 49 4 v m c:=
 Ac O (fun q hq=>h.block q (O.lt q hq).2 (fun e=>Ad C.row O (by decide) (by rw[hq,e])) (fun e=>Al O C.nodes.own (by decide) q hq e) (fun e=>Al O C.places (by decide) q hq e))
set_option maxHeartbeats 3200000
theorem OX (R:Nat)(a:Option Addr)(n c:Nat)(w:World)(h:Cr w R a n c):
  Calls Tryz.prog 40 #[.pointer (some ⟨R,0,none⟩)] w fun e w'=>∃ r:Int,e= .returned (.int .i64 r)∧0≤r∧r≤1048576∧Below w.heap.size w w':=by
 obtain ⟨p,h⟩:=h;have b:=h.row.cell 0;have c1:=h.row.cell 1;have h1:=h.le;have h2:=h.small;go_enter Tryz.func40,Tryz.ntmps40
 go_wp2_with fail
 go_quiet (fail)
 go_wp2_with fail
 go_ret
 exact ⟨_,rfl,by omega,by omega,⟨rfl,rfl,rfl,NLN,fun _ _=>rfl⟩⟩
theorem DT {B R d:Nat}{a:Option Addr}{n c m:Nat}{L:List (ByteArray × Int)}{nd lt:Value}{w:World}(h:GF B R d a n c m L nd lt w)(hm:m+1≤1000000)(f:List Int)(b:Array Value)(j:Nat)(i:b.toList=AN f)(k:b.size=j)(h3:j≤3)(op:Int):
  Calls Tryz.prog 77 #[.pointer (some ⟨d,0,none⟩),.int .i64 op,.slice (some ⟨w.heap.size,0,none⟩) j j] (w.alloc (.cells b 3)) (Eu B R d a n c m 1 L nd lt w):=by
 have l:=(Below.refl w.heap.size w).alloc NLN (.cells b 3);have o:Gk B R d lt nd w nd (w.alloc (.cells b 3)):=Gk.of_below l h.lt.1.1;go_enter Tryz.func77,Tryz.ntmps77
 go_wp2_with fail
 refine (TP h hm f b j i k h3 op _ BRN).mono ?_;intro r q g;have p:=Ab (g.back o);obtain ⟨⟨s,rfl⟩,-⟩:=g;dsimp only;go_wp2_with fail
 go_ret
 exact Aa p
def We:Nat→Nat
 | 0=>1
 | d+1=>3 * We d+1
def Ym (B R gb:Nat) (a:Option Addr) (n c:Nat) (L:List (ByteArray × Int)) (lt:Value) (d:Nat):Prop:=
 ∀ (ty:Int) (m:Nat) (nd:Value) (w:World),(ty=1∨ty=2∨ty=3∨ty=4)→m+We d≤1000000→GF B R gb a n c m L nd lt w→Calls Tryz.prog 41 #[.pointer (some ⟨gb,0,none⟩),.int .i64 ty,.int .i64 (d:Int)] w (Eu B R gb a n c m (We d) L nd lt w)
theorem BU {B R g:Nat}{a:Option Addr}{n c m d:Nat}{L:List (ByteArray × Int)}{nd lt:Value}{w:World}(j:Ym B R g a n c L lt d)(h:GF B R g a n c m L nd lt w)(hm:m+2 * We d+1≤1000000)(op b f:Int)(h1:b=1∨b=2∨b=3∨b=4)(h2:f=1∨f=2∨f=3∨f=4):
  Calls Tryz.prog 78 #[.pointer (some ⟨g,0,none⟩),.int .i64 op,.int .i64 b,.int .i64 f,.int .i64 (d:Int)] w (Eu B R g a n c m (2 * We d+1) L nd lt w):=by
 have i:=Ab j;unfold Ym at i;generalize We d=l at hm i ⊢;clear j;go_enter Tryz.func78,Tryz.ntmps78
 go_wp2_with fail
 refine (Aa i b m nd w h1 (by omega) h).mono ?_;rintro r o ⟨⟨x,rfl⟩,p,q,a1,a2,s,t⟩;dsimp only;go_wp2_with fail
 refine (Aa i f p q o h2 (by omega) s).mono ?_;rintro r J ⟨⟨y,rfl⟩,K,M,a3,a4,u,v⟩;have z:=t.trans v;dsimp only;go_wp2_with fail
 refine (DT u (by omega) [x,y] _ 2 rfl rfl (by omega) op).mono ?_;rintro r A ⟨⟨k,rfl⟩,C,E,a5,a6,F,H⟩;have I:=Ab (show Eu B R g a n c m (2 * l+1) L nd lt w (.returned (.int .i64 k)) A from ⟨⟨k,rfl⟩,C,E,by omega,by omega,F,z.trans H⟩);dsimp only;go_wp2_with fail
 go_ret
 exact Aa I
theorem Xh {op:Int}(h: 11≤op∧op≤26):Dw op=1∨Dw op=2∨Dw op=4∨Dw op=5∨Dw op=6:=by
 have:op=11∨op=12∨op=13∨op=14∨op=15∨op=16∨op=17∨op=18∨op=19∨op=20∨op=21∨op=22∨op=23∨op=24∨op=25∨op=26:=by omega
 rcases this with e | e | e | e | e | e | e | e | e | e | e | e | e | e | e | e <;> subst e <;> decide
theorem DL (w:World)(a:Option Addr)(n c:Nat)(N:List Nd)(h:Hj w a n c N):∀ (e:Ex) (i:Nat),Ev N i e→e.fit w→e.cnt≤4000→Fv w a n c i e.put
 | e,i,t,hf,hc=>by
  have E:=e.pr_size hf;have fin:∀ (x:Nd),N[i]? =some x→x.op=e.op→(1≤x.op∧x.op≤27)→Pq w a n c i x.op e.pr→Fv w a n c i e.put:=fun x hx b z A=>by
   have:=VN w a n c N h i x hx z e.pr (by omega) A;rw[b] at this;exact this
  cases t with
  | int hx b hk=>exact fin _ hx b (by omega) (by rw[b];exact W6 w a n c N h i _ hx b hf.1 hf.2)
  | text hx b hk=>exact fin _ hx b (by omega) (by rw[b];exact VL w a n c N h i _ hx b hf)
  | @bool _ x hx b hk=>
   refine fin _ hx b (by omega) ?_;rw[b];by_cases h1:x.num=1
   ·rw[Ex.pr,decide_eq_true h1];exact Ue w a n c N h i _ hx b h1
   ·rw[Ex.pr,decide_eq_false h1];exact Uf w a n c N h i _ hx b h1
  | set hx b hk F H I=>exact fin _ hx b (by omega) (by rw[b];exact W8 w a n c N h i _ hx b (by have:=hf.1.len;have:=hf.2.1;omega) hf.2.2)
  | name hx b hk=>exact fin _ hx b (by omega) (by rw[b];exact VM w a n c N h i _ hx b)
  | attr hx b hk=>exact absurd hf id
  | lett hx b hk=>exact absurd hf id
  | @un _ k x e hx b hk hi t=>
   have j:e.cnt≤4000:=by simp only[Ex.cnt] at hc;omega
   have s:=DL w a n c N h e k t hf.2 j;have y:∀ d,(e.put d).size≤50000000000:=fun d=>by have:=e.put_size hf.2 d;omega
   refine fin _ hx rfl (by omega) ?_;rw[Yx];have:x.op=8∨x.op=9∨x.op=10:=by omega
   rcases this with e1 | e1 | e1
   ·rw[e1];exact W9 w a n c N h i _ hx e1 k hk e.put s (y _)
   ·rw[e1];exact Xa w a n c N h i _ hx e1 k hk e.put s (y _)
   ·rw[e1];exact VO w a n c N h i _ hx e1 k hk e.put s (y _)
  | @bin _ k l x e f hx b hk hi t u=>
   have j:e.cnt≤4000∧f.cnt≤4000:=by simp only[Ex.cnt] at hc;omega
   have o:=DL w a n c N h e k t hf.2.1 j.1;have p:=DL w a n c N h f l u hf.2.2 j.2;have q:∀ d,(e.put d).size≤16000010:=fun d=>by have:=e.put_size hf.2.1 d;omega
   have r:∀ d,(f.put d).size≤16000010:=fun d=>by have:=f.put_size hf.2.2 d;omega
   refine fin _ hx rfl (by omega) ?_;rw[X8,Yy,Sz];rcases Xh b with e1 | e1 | e1 | e1 | e1
   ·rw[e1];exact Xc w a n c N h i _ hx b _ e1 rfl k l hk e.put f.put o p (q _) (r _)
   ·rw[e1];exact Xd w a n c N h i _ hx b _ e1 rfl k l hk e.put f.put o p (q _) (r _)
   ·rw[e1];exact Xe w a n c N h i _ hx b _ e1 rfl k l hk e.put f.put o p (q _) (r _)
   ·rw[e1];exact Xf w a n c N h i _ hx b _ e1 rfl k l hk e.put f.put o p (q _) (r _)
   ·rw[e1];exact Xg w a n c N h i _ hx b _ e1 rfl k l hk e.put f.put o p (q _) (r _)
  | @ite _ k l m x e f g hx b hk hi t u v=>
   have j:e.cnt≤4000∧f.cnt≤4000∧g.cnt≤4000:=by simp only[Ex.cnt] at hc;omega
   have o:=DL w a n c N h e k t hf.1 j.1;have p:=DL w a n c N h f l u hf.2.1 j.2.1;have B:=DL w a n c N h g m v hf.2.2 j.2.2;have q:∀ d,(e.put d).size≤16000010:=fun d=>by have:=e.put_size hf.1 d;omega
   have r:∀ d,(f.put d).size≤16000010:=fun d=>by have:=f.put_size hf.2.1 d;omega
   have C:∀ d,(g.put d).size≤16000010:=fun d=>by have:=g.put_size hf.2.2 d;omega
   refine fin _ hx b (by omega) ?_;rw[b];have:=Xb w a n c N h i _ hx b k l m hk e.put f.put g.put o p B (q _) (r _) (C _);rw[Ds,Ds,Ds] at this;exact this
termination_by e=>e
theorem Pc {w:World}{a:Option Addr}{n c:Nat}{N:List Nd}(h:Hj w a n c N)(p:∀ x∈N,By x=true)(q:∀ x∈N,x.num≤9223372036854775807)(r:∀ (i:Nat) (x:Nd),N[i]? =some x→∀ k∈x.kids,0≤k∧k < (i:Int)):
  ∃ Es:List Ex,Es.length=N.length∧(∀ j,(h:j < Es.length)→Ev N j Es[j])∧∀ e∈Es,e.fit w:=by
 have:∀ k,k≤N.length→∃ Es:List Ex,Es.length=k∧(∀ j,(h:j < Es.length)→Ev N j Es[j])∧∀ e∈Es,e.fit w:=by
  intro k
  induction k with
  | zero=>exact fun _=>⟨[],rfl,fun j g=>absurd g (by simp),fun e he=>by cases he⟩
  | succ k s=>
   intro hk;obtain ⟨Es,hl,l,m⟩:=s (by omega);have d:k < N.length:=by omega
   have hx:N[k]? =some N[k]:=List.getElem?_eq_getElem d;obtain ⟨b,v,_,_,an,nn,y,z,A,B,_,_,_,_,_,t,_⟩:=h.cells k d;obtain ⟨e,_,ht,u⟩:=X9 (w:=w) hx (p _ (List.getElem_mem d)) (r k _ hx) (q _ (List.getElem_mem d)) hl l m t;refine ⟨Es ++ [e],by simp[hl],fun j g=>?_,fun f hf'=>?_⟩
   ·by_cases o:j < Es.length
    ·rw[List.getElem_append_left o];exact l j o
    ·have:j=Es.length:=by simp at g;omega
     subst this;simp only[List.getElem_concat_length];rw[hl];exact ht
   ·rcases List.mem_append.1 hf' with hf' | hf'
    ·exact m f hf'
    ·simp at hf';subst hf';exact u
 exact this N.length NLN
theorem Ev.one {N:List Nd}{i:Nat}{e:Ex}(t:Ev N i e):∀ {f:Ex},Ev N i f→e.pr=f.pr∧e.op=f.op:=by
 induction t with
 | int h g hk=>intro f u;rcases u.inv h with ⟨b,r⟩ | ⟨b,r⟩ | ⟨b,r⟩ | ⟨b,r⟩ | ⟨b,r⟩ | ⟨b,r⟩ | ⟨b,r⟩ | ⟨b,r⟩ | ⟨b,r⟩ | ⟨b,r⟩ <;> first | omega | (subst r;exact ⟨rfl,rfl⟩)
 | text h g hk=>intro f u;rcases u.inv h with ⟨b,r⟩ | ⟨b,r⟩ | ⟨b,r⟩ | ⟨b,r⟩ | ⟨b,r⟩ | ⟨b,r⟩ | ⟨b,r⟩ | ⟨b,r⟩ | ⟨b,r⟩ | ⟨b,r⟩ <;> first | omega | (subst r;exact ⟨rfl,rfl⟩)
 | bool h g hk=>intro f u;rcases u.inv h with ⟨b,r⟩ | ⟨b,r⟩ | ⟨b,r⟩ | ⟨b,r⟩ | ⟨b,r⟩ | ⟨b,r⟩ | ⟨b,r⟩ | ⟨b,r⟩ | ⟨b,r⟩ | ⟨b,r⟩ <;> first | omega | (subst r;exact ⟨rfl,rfl⟩)
 | set h g hk a n c=>intro f u;rcases u.inv h with ⟨b,r⟩ | ⟨b,r⟩ | ⟨b,r⟩ | ⟨b,r⟩ | ⟨b,r⟩ | ⟨b,r⟩ | ⟨b,r⟩ | ⟨b,r⟩ | ⟨b,r⟩ | ⟨b,r⟩ <;> first | omega | (obtain ⟨_,_,_,r⟩:=r;subst r;exact ⟨rfl,rfl⟩)
 | name h g hk=>intro f u;rcases u.inv h with ⟨b,r⟩ | ⟨b,r⟩ | ⟨b,r⟩ | ⟨b,r⟩ | ⟨b,r⟩ | ⟨b,r⟩ | ⟨b,r⟩ | ⟨b,r⟩ | ⟨b,r⟩ | ⟨b,r⟩ <;> first | omega | (subst r;exact ⟨rfl,rfl⟩)
 | attr h g hk=>intro f u;rcases u.inv h with ⟨b,r⟩ | ⟨b,r⟩ | ⟨b,r⟩ | ⟨b,r⟩ | ⟨b,r⟩ | ⟨b,r⟩ | ⟨b,r⟩ | ⟨b,r⟩ | ⟨b,r⟩ | ⟨b,r⟩ <;> first | omega | (subst r;exact ⟨rfl,rfl⟩)
 | lett h g hk=>intro f u;rcases u.inv h with ⟨b,r⟩ | ⟨b,r⟩ | ⟨b,r⟩ | ⟨b,r⟩ | ⟨b,r⟩ | ⟨b,r⟩ | ⟨b,r⟩ | ⟨b,r⟩ | ⟨b,r⟩ | ⟨b,r⟩ <;> first | omega | (subst r;exact ⟨rfl,rfl⟩)
 | un h g hk hi t x=>
  intro f u;rcases u.inv h with ⟨b,r⟩ | ⟨b,r⟩ | ⟨b,r⟩ | ⟨b,r⟩ | ⟨b,r⟩ | ⟨b,r⟩ | ⟨b,r⟩ | ⟨b,s,e',d,j,r⟩ | ⟨b,r⟩ | ⟨b,r⟩ <;> first | omega | skip
  subst r;rw[hk] at d;obtain rfl:=Int.ofNat.inj (List.cons.inj d).1;obtain ⟨k,l⟩:=x j;exact ⟨by simp only[Ex.pr,k,l],rfl⟩
 | bin h g hk hi t u m o=>
  intro f v;rcases v.inv h with ⟨b,r⟩ | ⟨b,r⟩ | ⟨b,r⟩ | ⟨b,r⟩ | ⟨b,r⟩ | ⟨b,r⟩ | ⟨b,r⟩ | ⟨b,r⟩ | ⟨b,s,y,e',z,d,j,p,r⟩ | ⟨b,r⟩ <;> first | omega | skip
  subst r;rw[hk] at d;simp only[List.cons.injEq,and_true,Int.natCast_inj] at d;obtain ⟨rfl,rfl⟩:=d;obtain ⟨k,l⟩:=m j;obtain ⟨q,w⟩:=o p;exact ⟨by simp only[Ex.pr,k,l,q,w],rfl⟩
 | ite h g hk hi t u v m o A=>
  intro f B;rcases B.inv h with ⟨b,r⟩ | ⟨b,r⟩ | ⟨b,r⟩ | ⟨b,r⟩ | ⟨b,r⟩ | ⟨b,r⟩ | ⟨b,r⟩ | ⟨b,r⟩ | ⟨b,r⟩ | ⟨b,s,y,F,e',z,H,d,j,p,C,r⟩ <;> first | omega | skip
  subst r;rw[hk] at d;simp only[List.cons.injEq,and_true,Int.natCast_inj] at d;obtain ⟨rfl,rfl,rfl⟩:=d;obtain ⟨k,l⟩:=m j;obtain ⟨q,w⟩:=o p;obtain ⟨E,I⟩:=A C;exact ⟨by simp only[Ex.pr,k,q,E],rfl⟩
theorem Xi {N:List Nd}{Es a:List Ex}(h1:Es.length=N.length)(h2:a.length=N.length)(b:∀ j,(h:j < Es.length)→Ev N j Es[j])(c:∀ j,(h:j < a.length)→Ev N j a[j])(k:Int):Wg Es k=Wg a k:=by
 rw[Wg,Wg];by_cases hk:k.toNat < N.length
 ·rw[List.getElem?_eq_getElem (by omega),List.getElem?_eq_getElem (by omega)];exact ((b _ (by omega)).one (c _ (by omega))).1
 ·rw[List.getElem?_eq_none (by omega),List.getElem?_eq_none (by omega)]
theorem Xj {N:List Nd}{Es a:List Ex}(h1:Es.length=N.length)(h2:a.length=N.length)(b:∀ j,(h:j < Es.length)→Ev N j Es[j])(c:∀ j,(h:j < a.length)→Ev N j a[j])(L:List St):J7 Es L=J7 a L:=by
 have e:Re Es=Re a:=funext fun s=>by
  simp only[Re,WY,Xi h1 h2 b c]
 rw[J7,J7,e]
theorem Mq.one {N:List Nd}{L:List St}{s t:ByteArray}(h:Mq N L s)(k:Mq N L t):s=t:=by
 rcases h with ⟨h1,rfl⟩ | ⟨h1,Es,a1,a2,rfl⟩
 ·rcases k with ⟨_,rfl⟩ | ⟨a,_⟩
  ·rfl
  ·rw[h1] at a;cases a
 ·rcases k with ⟨a,_⟩ | ⟨_,b,b1,b2,rfl⟩
  ·rw[h1] at a;cases a
  ·exact Xj a1 b1 a2 b2 L
end Go.Proofs.YtdldimphcpojoaaGreatDoor
namespace Go.Proofs.YtdldimphcpojoaaGreatDoor
set_option maxHeartbeats 1600000
open Go.RowKit
set_option linter.unusedVariables false
variable {aS aB aT : Addr}
theorem ST (t:ByteArray)(w:World)(S:LF w aS aB aT):
  Calls Tryz.prog 7 #[.string t] w fun e w'=>SD w (Ar t) e w':=by
 have i:=An.new w #[.int .i64 0,.int .i64 0] 30;have f:=(Below.refl w.heap.size w).alloc NLN (.cells #[.int .i64 0,.int .i64 0] 30);have k:=S.below f NLN;have O:(w.alloc (.cells #[.int .i64 0,.int .i64 0] 30)).heap.size=w.heap.size+1:=by simp
 go_enter Tryz.func7,Tryz.ntmps7
 go_wp2_with fail
 generalize w.alloc (.cells #[.int .i64 0,.int .i64 0] 30)=z at i f k O ⊢;refine (Ou t z k).mono ?_;rintro e A (⟨hc,B,x,c,rfl,E,F,a⟩ | ⟨H,h1,h3,b,rfl,I,a⟩)
 ·have l:=i.after a NLN;have h:=f.trans (a.mono f.size);have o:=Ab hc;have q:=Ab B;have P:=Ab F;have X:=a.size;clear hc B F a i f k;generalize J:(Ar t).toks=T at *;have Q:=Ab J;clear J;go_wp2_with fail
  refine (JF A).mono ?_;rintro e K ⟨rfl,g⟩;have d:=l.after g NLN;have r:=h.trans (g.mono h.size);have L:=E7 E g;clear g l h E;have s:=d.cell 0;have u:=d.cell 1;have R:=fun j=>d.frozen j;simp only[List.getElem?_toArray,List.getElem?_cons_zero,List.getElem?_cons_succ] at s u;go_wp2_with fail
  have m:=(d.set 0 (.int .i64 0)).set 1 (.int .i64 0);have v:=(r.setCell (p:=⟨w.heap.size,0,none⟩) NLN (.int .i64 0)).setCell (p:=⟨w.heap.size,1,none⟩) NLN (.int .i64 0);have y:_=some (Value.int .i64 0):=m.cell 0;have g1:_=some (Value.int .i64 0):=m.cell 1;have U:((K.setCell ⟨w.heap.size,0,none⟩ (.int .i64 0)).setCell ⟨w.heap.size,1,none⟩ (.int .i64 0)).ownsRow w.heap.size 41 4 (.slice x T.length c) T.length (Ef T):=
   (Cn L (fun p V=>by
    have h1:z.heap.size≤p.block:=by subst V;exact (L.lt _ rfl).1
    rw[heap_setCell_other _ _ _ _ (by show p.block≠w.heap.size;omega),heap_setCell_other _ _ _ _ (by show p.block≠w.heap.size;omega)])).mono (by omega)
  refine bodyPost_ret (Jq Tryz.results7 rfl y g1) rfl ?_;unfold SD;rw[Aa Q,Aa o,Aa q];exact ⟨x,c,rfl,U,Aa P,v⟩
 ·have l:=i.after a NLN;have h:=f.trans (a.mono f.size);have M:=k.below a NLN;have W:=Ab H;clear H a i f k;generalize hC:(Ar t).code=C at *;generalize N:(Ar t).at_=n at *;have o:=Ab hC;have q:=Ab N;clear hC N;go_wp2_with fail
  refine (JG b n C A M I ⟨h1,h3⟩).mono ?_;rintro e K ⟨rfl,g⟩;have d:=l.after g NLN;have r:=h.trans (g.mono h.size);clear g l h I M;have s:=d.cell 0;have u:=d.cell 1;have R:=fun j=>d.frozen j;simp only[List.getElem?_toArray,List.getElem?_cons_zero,List.getElem?_cons_succ] at s u;go_wp2_with fail
  have m:=(d.set 0 (.int .i64 C)).set 1 (.int .i64 n);have v:=(r.setCell (p:=⟨w.heap.size,0,none⟩) NLN (.int .i64 C)).setCell (p:=⟨w.heap.size,1,none⟩) NLN (.int .i64 n);have y:_=some (Value.int .i64 C):=m.cell 0;have g1:_=some (Value.int .i64 n):=m.cell 1;refine bodyPost_ret (Jq Tryz.results7 rfl y g1) rfl ?_;unfold SD;rw[Aa W,Aa o,Aa q];exact ⟨none,0,rfl,World.ownsRow_nil _ _ _ _,Gx,v⟩
end Go.Proofs.YtdldimphcpojoaaGreatDoor
