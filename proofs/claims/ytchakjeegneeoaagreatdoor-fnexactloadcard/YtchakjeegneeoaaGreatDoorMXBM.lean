/-
  VPX, VPT, VPS, VPY0, ZT3, FRA. Own work.
-/
import Derived.Test.YtchakjeegneeoaaGreatDoorMXAX
import Derived.Test.YtchakjeegneeoaaGreatDoorMXAS
import Derived.Test.YtchakjeegneeoaaGreatDoorMXBD
namespace Go.Proofs.YtchakjeegneeoaaGreatDoor
set_option maxRecDepth 100000
set_option maxHeartbeats 1600000
open Go.RowKit
set_option linter.unusedVariables false
theorem Mo (a f:Option Addr)(n c g:Nat)(L:List Int)(w:World)(h:BT w a n c L)(l:BT w f n g L):
  Calls Tryz.prog 16 #[.slice a n c,.slice f n g] w fun e w'=>e= .returned (.bool true)∧Below w.heap.size w w':=by
 have q:=h.small;have m:=Ab h.len;go_enter Tryz.func16,Tryz.ntmps16
 go_wp2
 go_loopw [5] (fun i wr=>∃ k:Nat,k≤n∧i= .int .i64 k∧Below w.heap.size w wr) (fun i _=>n - (intOf i).toNat)
 case atStart=>exact ⟨0,zF _,rfl,BRN⟩
 case round=>
  obtain ⟨k,hk,rfl,d⟩:=hrel;by_cases o:k < n
  ·have j:k < L.length:=by rw[Aa m];exact o
   obtain ⟨b,r,rfl,_,hc⟩:=(h.below d NLN).cells k j;obtain ⟨s,t,rfl,_,p⟩:=(l.below d NLN).cells k j;have u:(k:Int) < (n:Int):=by omega
   generalize L[k]=x at hc p;go_wp2
   go_quiet (fail)
   go_wp2
   go_roundw
   case rel=>exact ⟨k+1,by omega,by go_num,d.trans ((Iy wr _).mono d.size)⟩
   case measure=>simp[intOf];omega
  ·go_wp2
   go_ret
   exact ⟨rfl,d⟩
theorem UL (x:Nd)(an b:Option Addr)(nn c d:Nat)(f g:Option Addr)(a h i:Nat)(w:World)
  (h1:Bg w an nn c x.names)(o:Bg w b nn d x.names)(h2:BT w f a h x.kids)(p:BT w g a i x.kids):
  Calls Tryz.prog 37 #[.agg #[.int .i64 x.op,.int .i64 x.num,.string x.text,.slice an nn c,.slice f a h],.agg #[.int .i64 x.op,.int .i64 x.num,.string x.text,.slice b nn d,.slice g a i]] w fun e w'=>e= .returned (.bool true)∧Below w.heap.size w w':=by
 have k:=((Below.refl w.heap.size w).alloc NLN (.cells #[.int .i64 x.op,.int .i64 x.num,.string x.text,.slice an nn c,.slice f a h] 68)).alloc (by simp) (.cells #[.int .i64 x.op,.int .i64 x.num,.string x.text,.slice b nn d,.slice g a i] 68);have n:=(Al.new w #[.int .i64 x.op,.int .i64 x.num,.string x.text,.slice an nn c,.slice f a h] 68).alloc (.cells #[.int .i64 x.op,.int .i64 x.num,.string x.text,.slice b nn d,.slice g a i] 68);have l:=Al.new (w.alloc (.cells #[.int .i64 x.op,.int .i64 x.num,.string x.text,.slice an nn c,.slice f a h] 68)) #[.int .i64 x.op,.int .i64 x.num,.string x.text,.slice b nn d,.slice g a i] 68;simp only[World.size_alloc] at l;go_enter Tryz.func37,Tryz.ntmps37
 go_wp2_with fail
 refine (Oi _ _ _ _ _ _ _ (h1.below k NLN) (o.below k NLN)).mono ?_;rintro e u ⟨rfl,j⟩;have m:=k.trans (j.mono (by simp;omega));have q:=(n.after j NLN).cell 4;have r:=(l.after j NLN).cell 4;have s:=j.size;simp at q r s;clear n l k j;go_wp2_with fail
 refine (Mo _ _ _ _ _ _ _ (h2.below m NLN) (p.below m NLN)).mono ?_;rintro e w2 ⟨rfl,t⟩;go_wp2_with fail
 go_ret
 exact ⟨rfl,m.trans (t.mono (by omega))⟩
theorem Sj (a H:Option Addr)(n c I:Nat)(N:List Nd)(w:World)(h:GQ w a n c N)(J:GQ w H n I N):
  Calls Tryz.prog 14 #[.slice a n c,.slice H n I] w fun e w'=>e= .returned (.bool true)∧Below w.heap.size w w':=by
 have T:=h.small;have O:=Ab h.len;go_enter Tryz.func14,Tryz.ntmps14
 go_wp2_with fail
 go_loopw [5] (fun i wr=>∃ k:Nat,k≤n∧i= .int .i64 k∧Below w.heap.size w wr) (fun i _=>n - (intOf i).toNat)
 case atStart=>exact ⟨0,zF _,rfl,BRN⟩
 case round=>
  obtain ⟨k,hk,rfl,m⟩:=hrel;by_cases q:k < n
  ·have K:k < N.length:=by rw[Aa O];exact q
   obtain ⟨b,d,rfl,o,an,nn,r,s,j,t,c0,c1,c2,c3,c4,u,v⟩:=(h.below m NLN).cells k K;obtain ⟨f,g,rfl,p,y,P,z,A,Q,B,C,d1,d2,d3,d4,E,F⟩:=(J.below m NLN).cells k K;have R:(k:Int) < (n:Int):=by omega
   generalize N[k]=x at c0 c1 c2 c3 c4 u v C d1 d2 d3 d4 E F;obtain rfl:nn=P:=by rw[u.len,E.len]
   obtain rfl:j=Q:=by rw[← v.len,← F.len]
   have L:=Ab q;clear q h J;go_wp2_with fail
   have l:Below wr.heap.size wr wr.drew:=BRN.drew;have U:wr.drew.cell? ⟨b,d+k * 5,none⟩=some (.int .i64 x.op)∧wr.drew.cell? ⟨b,d+k * 5+1,none⟩=some (.int .i64 x.num)∧wr.drew.cell? ⟨b,d+k * 5+2,none⟩=some (.string x.text)∧wr.drew.cell? ⟨b,d+k * 5+3,none⟩=some (.slice an nn r)∧wr.drew.cell? ⟨b,d+k * 5+4,none⟩=some (.slice s j t)∧wr.drew.cell? ⟨f,g+k * 5,none⟩=some (.int .i64 x.op)∧wr.drew.cell? ⟨f,g+k * 5+1,none⟩=some (.int .i64 x.num)∧wr.drew.cell? ⟨f,g+k * 5+2,none⟩=some (.string x.text)∧wr.drew.cell? ⟨f,g+k * 5+3,none⟩=some (.slice y nn z)∧wr.drew.cell? ⟨f,g+k * 5+4,none⟩=some (.slice A j B):=⟨c0,c1,c2,c3,c4,C,d1,d2,d3,d4⟩
   go_region_held3 (fun w'=>w'.cell? ⟨b,d+k * 5,none⟩=some (.int .i64 x.op)∧w'.cell? ⟨b,d+k * 5+1,none⟩=some (.int .i64 x.num)∧w'.cell? ⟨b,d+k * 5+2,none⟩=some (.string x.text)∧w'.cell? ⟨b,d+k * 5+3,none⟩=some (.slice an nn r)∧w'.cell? ⟨b,d+k * 5+4,none⟩=some (.slice s j t)∧w'.cell? ⟨f,g+k * 5,none⟩=some (.int .i64 x.op)∧w'.cell? ⟨f,g+k * 5+1,none⟩=some (.int .i64 x.num)∧w'.cell? ⟨f,g+k * 5+2,none⟩=some (.string x.text)∧w'.cell? ⟨f,g+k * 5+3,none⟩=some (.slice y nn z)∧w'.cell? ⟨f,g+k * 5+4,none⟩=some (.slice A j B)) (first | assumption | go_keep)
    (first
     |(go_at_call 37;refine (UL x _ _ _ _ _ _ _ _ _ _ _ (u.below l NLN) (E.below l NLN) (v.below l NLN) (F.below l NLN)).mono ?_;rintro e w2 ⟨rfl,S⟩;have M:=l.trans (S.mono l.size);obtain ⟨ec,_⟩:=AcG M;have q2:w2.cell? ⟨b,d+k * 5,none⟩=some (.int .i64 x.op)∧w2.cell? ⟨b,d+k * 5+1,none⟩=some (.int .i64 x.num)∧w2.cell? ⟨b,d+k * 5+2,none⟩=some (.string x.text)∧w2.cell? ⟨b,d+k * 5+3,none⟩=some (.slice an nn r)∧w2.cell? ⟨b,d+k * 5+4,none⟩=some (.slice s j t)∧w2.cell? ⟨f,g+k * 5,none⟩=some (.int .i64 x.op)∧w2.cell? ⟨f,g+k * 5+1,none⟩=some (.int .i64 x.num)∧w2.cell? ⟨f,g+k * 5+2,none⟩=some (.string x.text)∧w2.cell? ⟨f,g+k * 5+3,none⟩=some (.slice y nn z)∧w2.cell? ⟨f,g+k * 5+4,none⟩=some (.slice A j B):=⟨(ec _ _ o).trans c0,(ec _ _ o).trans c1,(ec _ _ o).trans c2,(ec _ _ o).trans c3,(ec _ _ o).trans c4,(ec _ _ p).trans C,(ec _ _ p).trans d1,(ec _ _ p).trans d2,(ec _ _ p).trans d3,(ec _ _ p).trans d4⟩))
   go_wp2_with fail
   go_roundw
   case rel=>exact ⟨k+1,Aa L,by go_num,m.trans (M.mono m.size)⟩
   case measure=>have:=Aa L;simp[intOf];omega
  ·have R: ¬ ((k:Int) < (n:Int)):=by omega
   go_wp2_with fail
   go_ret
   exact ⟨rfl,m⟩
theorem UM (s:St)(w:World):
  Calls Tryz.prog 38 #[.agg #[.int .i64 s.kind,.string s.name,.int .i64 s.cond,.int .i64 s.grant],.agg #[.int .i64 s.kind,.string s.name,.int .i64 s.cond,.int .i64 s.grant]] w fun e w'=>e= .returned (.bool true)∧Below w.heap.size w w':=by
 go_enter Tryz.func38,Tryz.ntmps38
 go_wp2
 go_ret
 exact ⟨rfl,((Below.refl w.heap.size w).alloc NLN _).alloc (by simp) _⟩
theorem Sk (a q:Option Addr)(n c r:Nat)(N:List St)(w:World)(h:KN w a n c N)(s:KN w q n r N):
  Calls Tryz.prog 15 #[.slice a n c,.slice q n r] w fun e w'=>e= .returned (.bool true)∧Below w.heap.size w w':=by
 have C:=h.small;have z:=Ab h.len;go_enter Tryz.func15,Tryz.ntmps15
 go_wp2_with fail
 go_loopw [5] (fun i wr=>∃ k:Nat,k≤n∧i= .int .i64 k∧Below w.heap.size w wr) (fun i _=>n - (intOf i).toNat)
 case atStart=>exact ⟨0,zF _,rfl,BRN⟩
 case round=>
  obtain ⟨k,hk,rfl,j⟩:=hrel;by_cases o:k < n
  ·have t:k < N.length:=by rw[Aa z];exact o
   obtain ⟨b,d,rfl,l,c0,c1,c2,c3⟩:=(h.below j NLN).cells k t;obtain ⟨f,g,rfl,m,p,d1,d2,d3⟩:=(s.below j NLN).cells k t;have A:(k:Int) < (n:Int):=by omega
   generalize N[k]=x at c0 c1 c2 c3 p d1 d2 d3;have u:=Ab o;clear o h s;go_wp2_with fail
   have v:Below wr.heap.size wr wr.drew:=BRN.drew;have E:wr.drew.cell? ⟨b,d+k * 4,none⟩=some (.int .i64 x.kind)∧wr.drew.cell? ⟨b,d+k * 4+1,none⟩=some (.string x.name)∧wr.drew.cell? ⟨b,d+k * 4+2,none⟩=some (.int .i64 x.cond)∧wr.drew.cell? ⟨b,d+k * 4+3,none⟩=some (.int .i64 x.grant)∧wr.drew.cell? ⟨f,g+k * 4,none⟩=some (.int .i64 x.kind)∧wr.drew.cell? ⟨f,g+k * 4+1,none⟩=some (.string x.name)∧wr.drew.cell? ⟨f,g+k * 4+2,none⟩=some (.int .i64 x.cond)∧wr.drew.cell? ⟨f,g+k * 4+3,none⟩=some (.int .i64 x.grant):=⟨c0,c1,c2,c3,p,d1,d2,d3⟩
   go_region_held3 (fun w'=>w'.cell? ⟨b,d+k * 4,none⟩=some (.int .i64 x.kind)∧w'.cell? ⟨b,d+k * 4+1,none⟩=some (.string x.name)∧w'.cell? ⟨b,d+k * 4+2,none⟩=some (.int .i64 x.cond)∧w'.cell? ⟨b,d+k * 4+3,none⟩=some (.int .i64 x.grant)∧w'.cell? ⟨f,g+k * 4,none⟩=some (.int .i64 x.kind)∧w'.cell? ⟨f,g+k * 4+1,none⟩=some (.string x.name)∧w'.cell? ⟨f,g+k * 4+2,none⟩=some (.int .i64 x.cond)∧w'.cell? ⟨f,g+k * 4+3,none⟩=some (.int .i64 x.grant)) (first | assumption | go_keep)
    (first
     |(go_at_call 38;refine (UM x _).mono ?_;rintro e w2 ⟨rfl,B⟩;have y:=v.trans (B.mono v.size);obtain ⟨ec,_⟩:=AcG y;have q2:w2.cell? ⟨b,d+k * 4,none⟩=some (.int .i64 x.kind)∧w2.cell? ⟨b,d+k * 4+1,none⟩=some (.string x.name)∧w2.cell? ⟨b,d+k * 4+2,none⟩=some (.int .i64 x.cond)∧w2.cell? ⟨b,d+k * 4+3,none⟩=some (.int .i64 x.grant)∧w2.cell? ⟨f,g+k * 4,none⟩=some (.int .i64 x.kind)∧w2.cell? ⟨f,g+k * 4+1,none⟩=some (.string x.name)∧w2.cell? ⟨f,g+k * 4+2,none⟩=some (.int .i64 x.cond)∧w2.cell? ⟨f,g+k * 4+3,none⟩=some (.int .i64 x.grant):=⟨(ec _ _ l).trans c0,(ec _ _ l).trans c1,(ec _ _ l).trans c2,(ec _ _ l).trans c3,(ec _ _ m).trans p,(ec _ _ m).trans d1,(ec _ _ m).trans d2,(ec _ _ m).trans d3⟩))
   go_wp2_with fail
   go_roundw
   case rel=>exact ⟨k+1,Aa u,by go_num,j.trans (y.mono j.size)⟩
   case measure=>have:=Aa u;simp[intOf];omega
  ·have A: ¬ ((k:Int) < (n:Int)):=by omega
   go_wp2_with fail
   go_ret
   exact ⟨rfl,j⟩
def Pd (L:List St) (j:Nat) (h:j < L.length):Bool:=CG (decide (j+1=L.length)) L[j]
theorem JN:∀ (L:List St),FS L=true↔∀ j,(h:j < L.length)→Pd L j h=true
 | []=>by simp[FS]
 |s ::r=>by
  rw[FS,zI,JN r];have e:r.isEmpty=decide (0+1=(s ::r).length):=by cases r <;> simp
  constructor
  ·rintro ⟨h1,h2⟩ j a;cases j with
   |zero=>rw[e] at h1;exact h1
   |succ j=>
    have:=h2 j (by simpa using a);rw[Pd] at this ⊢;simp only[List.getElem_cons_succ,List.length_cons] at this ⊢;rw[show decide (j+1+1=r.length+1)=decide (j+1=r.length) by rw[decide_eq_decide];omega];exact this
  ·intro h;refine ⟨by rw[e];exact h 0 (by simp),fun j a=>?_⟩;have:=h (j+1) (by simpa using a);rw[Pd] at this ⊢;simp only[List.getElem_cons_succ,List.length_cons] at this;rw[show decide (j+1+1=r.length+1)=decide (j+1=r.length) by rw[decide_eq_decide];omega] at this;exact this
theorem Pe (L:List St)(k:Nat)(h:k < L.length):(L.take (k+1)).flatMap Ay=(L.take k).flatMap Ay ++Ay L[k]:=by
 rw[zf h,List.flatMap_append];simp
def KL (K:List (List Int)) (n:Nat) (rs:List Int):List Int:=rs.foldl (fun o r=>Be K n r o) []
theorem UK (K:List (List Int))(n:Nat)(rs a:List Int):KL K n (rs ++a)=a.foldl (fun o r=>Be K n r o) (KL K n rs):=by rw[KL,zt,KL]
theorem Wm {N:List Nd}(h:N.all As=true):∀ ks∈N.map Nd.kids,ks.length≤3:=by
 intro ks hk;obtain ⟨x,hx,rfl⟩:=zQ.1 hk;have:=z6.1 h x hx;rw[OR,zI] at this;have h1:=of_decide_eq_true this.1;unfold Dn at h1;split at h1
 ·omega
 ·split at h1
  ·omega
  ·split at h1
   ·omega
   ·split at h1 <;> omega
theorem Ax.kids {K:List (List Int)}{a b:Nat}{c:List (Nat × Nat)}(h:Ax K a c b):∀ j,a≤j→j < b→∃ ks,K[j]? =some (Aq ks)∧∀ p∈ks,p.1 < j:=by
 induction h with
 |nil a=>intro j h1 h2;omega
 |cons hk ht hf d f=>
  rename_i a t b ks c;intro j h1 h2;rcases Nat.lt_trichotomy j t with e | e | e
  ·exact d j h1 e
  ·subst e;exact ⟨ks,ht,fun p hp=>(hk.lt p hp).2⟩
  ·exact f j (by omega) h2
theorem Wn {N:List Nd}{n:Nat}{rs:List Int}(f:N.length=n)(b:(KL (N.map Nd.kids) n rs).length=n)(c:G1 (KL (N.map Nd.kids) n rs)):
  (∀ t,(h:t < N.length)→∀ y∈N[t].kids,0≤y∧y < (t:Int))∧∀ r∈rs,0≤r∧r < (n:Int):=by
 obtain ⟨d,e1,hf⟩:=JK (K:=N.map Nd.kids) (n:=n) rs [] c;have hf':Ax (N.map Nd.kids) 0 d n:=by
  have:(rs.foldl (fun o k=>Be (N.map Nd.kids) n k o) []).length=n:=b;rw[this] at hf;exact hf
 constructor
 ·intro t h y hy;obtain ⟨ks,h1,h2⟩:=hf'.kids t (zF _) (by omega);rw[zh,zH h] at h1;have h3:N[t].kids=Aq ks:=by simpa using h1
  rw[h3] at hy;obtain ⟨p,hp,rfl⟩:=zQ.1 hy;have:=h2 p hp;omega
 ·intro r a;rw[← e1] at a;obtain ⟨p,hp,rfl⟩:=zQ.1 a;have:=hf'.lt p hp;omega
set_option maxHeartbeats 32000000
def EX (n m:Nat) (N:List Nd) (L:List St) (e:Ending):Prop:=∃ b:Bool,e= .returned (.bool b)∧(b=true↔(n≤4000∧1≤m∧m≤600)∧N.all As=true∧JM N L)
theorem EY {n m:Nat}{N:List Nd}{L:List St}(h: ¬ ((n≤4000∧1≤m∧m≤600)∧N.all As=true∧JM N L)):EX n m N L (.returned (.bool false)):=⟨false,rfl,by constructor <;> intro k;cases k;exact absurd k h⟩
theorem UI {s:ByteArray}(h:s.size=0):s.toList.isEmpty=true:=zz.2 ((Dd s).2 h)
theorem QG {s:ByteArray}(h:s.size≠0):s.toList.isEmpty=false:=by rw[z2];intro k;exact h ((Dd s).1 (zz.1 k))
theorem Wl {w:World}{a:Nat}{e:TypeId}{size:Nat}{v:Value}{n:Nat}{b:List Value}(h:w.ownsRow a e size v n b):v.ownBlock≠some w.heap.size:=fun k=>by have:=(h.lt _ k).2;omega
theorem UJ (a b:Option Addr)(n c m d:Nat)(N:List Nd)(L:List St)(w:World)(h1:GQ w a n c N)(h2:KN w b m d L):
  Calls Tryz.prog 49 #[.slice a n c,.slice b m d,.bool false] w fun e w'=>EX n m N L e∧Below w.heap.size w w':=by
 have cb:=h1.small;have cc:=h2.small;have ac:=Ab h1.len;have az:=Ab h2.len;go_enter Tryz.func49,Tryz.ntmps49
 by_cases aW: 4000 < n
 ·have bO:(4000 :Int) < (n:Int):=by omega
  have l:=Ab (EY (n:=n) (m:=m) (N:=N) (L:=L) (fun h=>by omega));clear aW;go_wp2_with fail
  go_ret
  exact ⟨Aa l,BRN⟩
 have bO: ¬ ((4000 :Int) < (n:Int)):=by omega
 by_cases aF:m < 1
 ·have bP:(m:Int) < 1:=by omega
  have l:=Ab (EY (n:=n) (m:=m) (N:=N) (L:=L) (fun h=>by omega));clear aW aF;go_wp2_with fail
  go_ret
  exact ⟨Aa l,BRN⟩
 have bP: ¬ ((m:Int) < 1):=by omega
 by_cases bp: 600 < m
 ·have bQ:(600 :Int) < (m:Int):=by omega
  have l:=Ab (EY (n:=n) (m:=m) (N:=N) (L:=L) (fun h=>by omega));clear aW aF bp;go_wp2_with fail
  go_ret
  exact ⟨Aa l,BRN⟩
 have bQ: ¬ ((600 :Int) < (m:Int)):=by omega
 have U:n≤4000:=by omega
 have bR:m≤600:=by omega
 have bS: 1≤m:=by omega
 clear aW aF bp;go_wp2_with fail
 go_loopw [33] (fun i wr=>∃ k:Nat,k≤n∧i= .int .i64 k∧Below w.heap.size w wr∧Hid (∀ j,(ai:j < N.length)→j < k→As N[j]=true)) (fun i _=>n - (intOf i).toNat)
 case atStart=>exact ⟨0,by omega,rfl,BRN,Ab (fun j ai h=>absurd h (by omega))⟩
 case round=>
  obtain ⟨k,hk,rfl,I,aj⟩:=hrel;by_cases ak:k < n
  ·have bb:(k:Int) < (n:Int):=by omega
   have R:k < N.length:=by rw[Aa ac];exact ak
   have ad:=h1.sizes N[k] (zO R);obtain ⟨bq,br,rfl,bs,an,nn,aX,aY,aZ,a0,c0,c1,c2,c3,c4,bc,a1⟩:=(h1.below I NLN).cells k R;have z:=Ab (show As N[k]=false→EX n m N L (.returned (.bool false)) from fun e=>EY (fun h=>by
    have:=(G0 N).1 h.2.1 k R;rw[this] at e;cases e))
   have A:=Ab (show As N[k]=true→∀ j,(ai:j < N.length)→j < k+1→As N[j]=true from fun e j ai aG=>by
    by_cases aO:j=k
    ·subst aO;exact e
    ·exact Aa aj j ai (by omega))
   have E:=Ab ak;clear aj;generalize N[k]=x at c0 c1 c2 c3 c4 bc a1 ad z A;have bt:=Ab a1.len;have bu:=a1.small;have f:=I.alloc I.size (.cells #[.int .i64 x.op,.int .i64 x.num,.string x.text,.slice an nn aX,.slice aY aZ a0] 68);have bT:=(Below.refl wr.heap.size wr).alloc NLN (.cells #[.int .i64 x.op,.int .i64 x.num,.string x.text,.slice an nn aX,.slice aY aZ a0] 68);have bv:=bc.below bT NLN;clear bc a1;cases aH:As x
   ·have l:=Ab (Aa z aH);have bd:=Ab aH;clear aH z A;go_wp2_with (go_at_call 79;refine (KH x an nn aX aY aZ a0 _ bv (Aa bt).symm ad bu).mono ?_;rintro e w2 ⟨rfl,C⟩;rw[Aa bd])
    go_ret
    exact ⟨Aa l,f.trans (C.mono f.size)⟩
   ·have V:=Ab (Aa A aH);have bd:=Ab aH;clear aH z A;go_wp2_with (go_at_call 79;refine (KH x an nn aX aY aZ a0 _ bv (Aa bt).symm ad bu).mono ?_;rintro e w2 ⟨rfl,C⟩;rw[Aa bd])
    go_roundw
    case rel=>exact ⟨k+1,Aa E,by go_num,f.trans (C.mono f.size),V⟩
    case measure=>have:=Aa E;simp[intOf];omega
  ·have e:k=n:=by omega
   have bw:=Ab (show N.all As=true from (G0 N).2 (fun j ai=>Aa aj j ai (by have:=Aa ac;omega)));have aI:=Ab (Wm (Aa bw));have bU:=Ab (show (N.map Nd.kids).length=n by rw[zV];exact Aa ac);subst e;have bf:=Ab I;clear aj ak I;go_wp2_with fail
   go_loopw [9,44] (fun v i wr=>∃ (q:Nat) (O:List Int),q≤m∧i= .int .i64 q∧Below w.heap.size w wr∧Hid (∀ j,(h:j < L.length)→j < q→Pd L j h=true)∧Hid (KL (N.map Nd.kids) k ((L.take q).flatMap Ay)=O)∧O.length≤4 * k+2 * q∧wr.ownsRow w.heap.size 3 1 v O.length (Ar O)) (fun _ i _=>m - (intOf i).toNat)
   case atStart=>exact ⟨0, [],by omega,rfl,Aa bf,Ab (fun j h aG=>absurd aG (by omega)),Ab (by simp[KL]),by simp,World.ownsRow_nil _ _ _ _⟩
   case round=>
    obtain ⟨q,O,hq,rfl,I,aj,aJ,cd,a2⟩:=hrel;obtain ⟨ce,cf,rfl,bg⟩:=Ad a2;by_cases ak:q < m
    ·have bb:(q:Int) < (m:Int):=by omega
     have R:q < L.length:=by rw[Aa az];exact ak
     have ad:=h2.sizes L[q] (zO R);obtain ⟨bq,br,rfl,bs,c0,c1,c2,c3⟩:=(h2.below I NLN).cells q R;have z:=Ab (show CG (decide (q+1=m)) L[q]=false→EX k m N L (.returned (.bool false)) from fun e=>EY (fun h=>by
      have:=(JN L).1 h.2.2.1 q R;rw[Pd,Aa az,e] at this;cases this))
     have A:=Ab (show CG (decide (q+1=m)) L[q]=true→∀ j,(h:j < L.length)→j < q+1→Pd L j h=true from fun e j ai aG=>by
      by_cases aO:j=q
      ·subst aO;rw[Pd,Aa az];exact e
      ·exact Aa aj j ai (by omega))
     have B:=Ab (show KL (N.map Nd.kids) k ((L.take (q+1)).flatMap Ay)=(Ay L[q]).foldl (fun o r=>Be (N.map Nd.kids) k r o) O by rw[Pe L q R,UK,Aa aJ]);have E:=Ab ak;clear aj aJ bg;generalize L[q]=s at c0 c1 c2 c3 ad z A B;obtain ⟨kind,name,cond,grant⟩:=s;simp only at c0 c1 c2 c3 ad;have ae:=Al.new wr #[.int .i64 kind,.string name,.int .i64 cond,.int .i64 grant] 60;have f:=I.alloc I.size (.cells #[.int .i64 kind,.string name,.int .i64 cond,.int .i64 grant] 60);have av:=a2.alloc (.cells #[.int .i64 kind,.string name,.int .i64 cond,.int .i64 grant] 60);have aK:=Wl a2;have bx:(wr.alloc (.cells #[.int .i64 kind,.string name,.int .i64 cond,.int .i64 grant] 60)).heap.size=wr.heap.size+1:=by simp
     have F:=Ab (fun r O=>by have:=LP (K:=N.map Nd.kids) (Aa aI) k r O;rw[Aa bU] at this;exact this);by_cases a3:q+1=m
     ·have bV:((q:Int)==(m:Int) - 1)=true:=zN.2 (by omega);rw[zW a3] at z A;clear a3;by_cases Q:kind=1
      ·have e1:(kind== 1)=true:=zN.2 Q;subst Q;have l:=Ab (Aa z (by simp[CG]));clear z A B F;go_wp2_with fail
       go_ret
       exact ⟨Aa l,f⟩
      have e1:(kind== 1)=false:=zB.2 Q;by_cases W:kind=2
      ·have e2:(kind== 2)=true:=zN.2 W;subst W;clear Q;have l:=Ab (Aa z (by simp[CG]));clear z A B F;go_wp2_with fail
       go_ret
       exact ⟨Aa l,f⟩
      have e2:(kind== 2)=false:=zB.2 W;by_cases al:kind=3
      ·have e3:(kind== 3)=true:=zN.2 al;subst al;clear Q W;by_cases X:name.size=0
       ·have bh:=UI X;by_cases a4:cond= -1
        ·have ec:(cond== -1)=true:=zN.2 a4;subst a4;by_cases aA: -1≤grant
         ·by_cases aP: 0≤grant
          ·skip;have V:=Ab (Aa A (by simp[CG,X,aA]));obtain ⟨Y,aB⟩:∃ Y,Hid (Be (N.map Nd.kids) k grant O=Y):=⟨_,Ab rfl⟩
           have bW:Y.length≤max O.length (k+3 * k)+1:=by rw[← Aa aB];exact Aa F grant O
           have ao:=Ab (show KL (N.map Nd.kids) k ((L.take (q+1)).flatMap Ay)=Y by rw[Aa B];rw[← Aa aB];simp[Ay,aP]);clear z A B;go_wp2_with (go_at_call 81;refine (FR _ k c N w w.heap.size h1 NLN U (Aa aI) k grant O _ _ U (.inl (Nat.le_of_eq (Aa ac))) (by omega) f f.size av).mono ?_;rintro e bX ⟨bY,rfl,aQ,bi,bZ⟩;rw[Aa aB] at aQ;have bj:=f.trans bi)
           go_roundw
           case rel=>exact ⟨q+1,Y,Aa E,by go_num,bj,V,ao,by omega,aQ⟩
           case measure=>have:=Aa E;simp[intOf];omega
          ·skip;have V:=Ab (Aa A (by simp[CG,X,aA]));have ao:=Ab (show KL (N.map Nd.kids) k ((L.take (q+1)).flatMap Ay)=O by rw[Aa B];simp[Ay,aP]);clear z A B;go_wp2_with fail
           go_roundw
           case rel=>exact ⟨q+1,O,Aa E,by go_num,f,V,ao,by omega,av⟩
           case measure=>have:=Aa E;simp[intOf];omega
         ·skip;have l:=Ab (Aa z (by simp[CG,aA]));clear z A B F;go_wp2_with fail
          go_ret
          exact ⟨Aa l,f⟩
        ·have ec:(cond== -1)=false:=zB.2 a4;have l:=Ab (Aa z (by simp[CG,a4]));clear z A B F;go_wp2_with fail
         go_ret
         exact ⟨Aa l,f⟩
       ·have bh:=QG X;have l:=Ab (Aa z (by simp[CG,X]));clear z A B F;go_wp2_with fail
        go_ret
        exact ⟨Aa l,f⟩
      have e3:(kind== 3)=false:=zB.2 al;have l:=Ab (Aa z (by simp[CG,Q,W,al]));clear z A B F;go_wp2_with fail
      go_ret
      exact ⟨Aa l,f⟩
     ·have bV:((q:Int)==(m:Int) - 1)=false:=zB.2 (by omega);rw[zR a3] at z A;clear a3;by_cases Q:kind=1
      ·have e1:(kind== 1)=true:=zN.2 Q;subst Q;cases hi:BD name
       ·have ap:=Ab hi;clear hi;have l:=Ab (Aa z (by simp[CG,Aa ap]));clear z A B F;go_wp2_with (go_at_call 80;refine (Eh _ _ ad).mono ?_;rintro e w2 ⟨rfl,C⟩;rw[Aa ap];have aq:=f.trans (C.mono f.size);have aw:=ae.after C NLN;have a5:=Au av C NLN;have a6:=C.size;obtain ⟨aL,aM,q2,q3,aN⟩:=Bv aw)
        go_ret
        exact ⟨Aa l,aq⟩
       ·have ap:=Ab hi;clear hi;by_cases af: 0≤cond
        ·by_cases a7:grant= -1
         ·have b0:(grant== -1)=true:=zN.2 a7;subst a7;have V:=Ab (Aa A (by simp[CG,Aa ap,af]));obtain ⟨H,Z⟩:∃ H,Hid (Be (N.map Nd.kids) k cond O=H):=⟨_,Ab rfl⟩
          have bz:H.length≤max O.length (k+3 * k)+1:=by rw[← Aa Z];exact Aa F cond O
          have cg:=af;have ao:=Ab (show KL (N.map Nd.kids) k ((L.take (q+1)).flatMap Ay)=H by rw[Aa B];rw[← Aa Z];simp[Ay,af]);clear z A B;go_wp2_with (first | (go_at_call 80;refine (Eh _ _ ad).mono ?_;rintro e w2 ⟨rfl,C⟩;rw[Aa ap];have aq:=f.trans (C.mono f.size);have aw:=ae.after C NLN;have a5:=Au av C NLN;have a6:=C.size;obtain ⟨aL,aM,q2,q3,aN⟩:=Bv aw) | (go_at_call 81;refine (FR _ k c N w w.heap.size h1 NLN U (Aa aI) k cond O _ w2 U (.inl (Nat.le_of_eq (Aa ac))) (by omega) aq aq.size a5).mono ?_;rintro e bk ⟨aR,rfl,aa,aS,ax⟩;rw[Aa Z] at aa;have aC:=aq.trans aS;have aT:=aw.keep ax aK;have bA:aR.ownBlock≠some wr.heap.size:=(fun e=>by rcases ax.2.1 _ e with x | x;exact aK x;(have:=a6;omega));obtain ⟨bB,c4,rfl,_⟩:=Ad aa;obtain ⟨bC,bD,bE,bF,bG⟩:=Bv aT))
          go_roundw
          case rel=>exact ⟨q+1,H,Aa E,by go_num,aC,V,ao,by omega,aa⟩
          case measure=>have:=Aa E;simp[intOf];omega
         ·have b0:(grant== -1)=false:=zB.2 a7;have l:=Ab (Aa z (by simp[CG,Aa ap,a7]));clear z A B F;go_wp2_with (go_at_call 80;refine (Eh _ _ ad).mono ?_;rintro e w2 ⟨rfl,C⟩;rw[Aa ap];have aq:=f.trans (C.mono f.size);have aw:=ae.after C NLN;have a5:=Au av C NLN;have a6:=C.size;obtain ⟨aL,aM,q2,q3,aN⟩:=Bv aw)
          go_ret
          exact ⟨Aa l,aq⟩
        ·skip;have l:=Ab (Aa z (by simp[CG,Aa ap,af]));clear z A B F;go_wp2_with (go_at_call 80;refine (Eh _ _ ad).mono ?_;rintro e w2 ⟨rfl,C⟩;rw[Aa ap];have aq:=f.trans (C.mono f.size);have aw:=ae.after C NLN;have a5:=Au av C NLN;have a6:=C.size;obtain ⟨aL,aM,q2,q3,aN⟩:=Bv aw)
         go_ret
         exact ⟨Aa l,aq⟩
      have e1:(kind== 1)=false:=zB.2 Q;by_cases W:kind=2
      ·have e2:(kind== 2)=true:=zN.2 W;subst W;clear Q;by_cases X:name.size=0
       ·have bh:=UI X;by_cases af: 0≤cond
        ·by_cases aA: -1≤grant
         ·by_cases aP: 0≤grant
          ·skip;have V:=Ab (Aa A (by simp[CG,X,af,aA]));obtain ⟨H,Z⟩:∃ H,Hid (Be (N.map Nd.kids) k cond O=H):=⟨_,Ab rfl⟩
           have bz:H.length≤max O.length (k+3 * k)+1:=by rw[← Aa Z];exact Aa F cond O
           obtain ⟨Y,aB⟩:∃ Y,Hid (Be (N.map Nd.kids) k grant H=Y):=⟨_,Ab rfl⟩
           have bW:Y.length≤max H.length (k+3 * k)+1:=by rw[← Aa aB];exact Aa F grant H
           have ao:=Ab (show KL (N.map Nd.kids) k ((L.take (q+1)).flatMap Ay)=Y by rw[Aa B];rw[← Aa aB,← Aa Z];simp[Ay,af,aP]);clear z A B;go_wp2_with (first | (go_at_call 81;refine (FR _ k c N w w.heap.size h1 NLN U (Aa aI) k grant H _ bk U (.inl (Nat.le_of_eq (Aa ac))) (by omega) aC aC.size aa).mono ?_;rintro e bX ⟨bY,rfl,aQ,bi,bZ⟩;rw[Aa aB] at aQ;have bj:=aC.trans bi) | (go_at_call 81;refine (FR _ k c N w w.heap.size h1 NLN U (Aa aI) k cond O _ _ U (.inl (Nat.le_of_eq (Aa ac))) (by omega) f f.size av).mono ?_;rintro e bk ⟨aR,rfl,aa,aS,ax⟩;rw[Aa Z] at aa;have aC:=f.trans aS;have aT:=ae.keep ax aK;have bA:aR.ownBlock≠some wr.heap.size:=(fun e=>by rcases ax.2.1 _ e with x | x;exact aK x;(have:=bx;omega));obtain ⟨bB,c4,rfl,_⟩:=Ad aa;obtain ⟨bC,bD,bE,bF,bG⟩:=Bv aT))
           go_roundw
           case rel=>exact ⟨q+1,Y,Aa E,by go_num,bj,V,ao,by omega,aQ⟩
           case measure=>have:=Aa E;simp[intOf];omega
          ·skip;have V:=Ab (Aa A (by simp[CG,X,af,aA]));obtain ⟨H,Z⟩:∃ H,Hid (Be (N.map Nd.kids) k cond O=H):=⟨_,Ab rfl⟩
           have bz:H.length≤max O.length (k+3 * k)+1:=by rw[← Aa Z];exact Aa F cond O
           have ao:=Ab (show KL (N.map Nd.kids) k ((L.take (q+1)).flatMap Ay)=H by rw[Aa B];rw[← Aa Z];simp[Ay,af,aP]);clear z A B;go_wp2_with (go_at_call 81;refine (FR _ k c N w w.heap.size h1 NLN U (Aa aI) k cond O _ _ U (.inl (Nat.le_of_eq (Aa ac))) (by omega) f f.size av).mono ?_;rintro e bk ⟨aR,rfl,aa,aS,ax⟩;rw[Aa Z] at aa;have aC:=f.trans aS;have aT:=ae.keep ax aK;have bA:aR.ownBlock≠some wr.heap.size:=(fun e=>by rcases ax.2.1 _ e with x | x;exact aK x;(have:=bx;omega));obtain ⟨bB,c4,rfl,_⟩:=Ad aa;obtain ⟨bC,bD,bE,bF,bG⟩:=Bv aT)
           go_roundw
           case rel=>exact ⟨q+1,H,Aa E,by go_num,aC,V,ao,by omega,aa⟩
           case measure=>have:=Aa E;simp[intOf];omega
         ·skip;have l:=Ab (Aa z (by simp[CG,aA]));clear z A B F;go_wp2_with fail
          go_ret
          exact ⟨Aa l,f⟩
        ·skip;have l:=Ab (Aa z (by simp[CG,af]));clear z A B F;go_wp2_with fail
         go_ret
         exact ⟨Aa l,f⟩
       ·have bh:=QG X;have l:=Ab (Aa z (by simp[CG,X]));clear z A B F;go_wp2_with fail
        go_ret
        exact ⟨Aa l,f⟩
      have e2:(kind== 2)=false:=zB.2 W;by_cases al:kind=3
      ·have e3:(kind== 3)=true:=zN.2 al;subst al;clear Q W;have l:=Ab (Aa z (by simp[CG]));clear z A B F;go_wp2_with fail
       go_ret
       exact ⟨Aa l,f⟩
      have e3:(kind== 3)=false:=zB.2 al;have l:=Ab (Aa z (by simp[CG,Q,W,al]));clear z A B F;go_wp2_with fail
      go_ret
      exact ⟨Aa l,f⟩
    ·have e:q=m:=by omega
     subst e;have bH:L.take q=L:=zq (by rw[Aa az];exact NLN);rw[bH] at aJ;clear bH;have b1:=Ab (show FS L=true from (JN L).2 (fun j h=>Aa aj j h (by have:=Aa az;omega)));have a8:=Ab (show JM N L↔FS L=true∧O.length=k∧G1 O∧∀ r∈L.flatMap Ay,BE (N.map Nd.kids) k r≤64 by
      rw[JM,Aa ac];rw[← Aa aJ];exact Iff.rfl)
     have bI:=Ab bg;clear aj bg;by_cases aU:O.length=k
     case neg=>
      have b2:((O.length:Int) !=(k:Int))=true:=zS.2 (by omega);have l:=Ab (EY (n:=k) (m:=q) (N:=N) (L:=L) (fun h=>aU ((Aa a8).1 h.2.2).2.1));clear aU;go_wp2_with fail
      go_ret
      exact ⟨Aa l,I⟩
     have b2:((O.length:Int) !=(k:Int))=false:=by rw[aU];simp
     have bJ:=Ab aU;clear aU;go_wp2_with fail
     go_loop [138] (fun i=>∃ j:Nat,j≤O.length∧i= .int .i64 j∧Hid (∀ p,(h:p < O.length)→p < j→O[p]=(p:Int))) (fun i=>O.length - (intOf i).toNat)
     case atStart=>exact ⟨0,by omega,rfl,Ab (fun p h aG=>absurd aG (by omega))⟩
     case round=>
      obtain ⟨j,ai,rfl,a9⟩:=hrel;by_cases bl:j < O.length
      ·have b3:(j:Int) < (O.length:Int):=by omega
       obtain ⟨g,rfl,ch,bK⟩:=Aa bI (by omega);have b4:=bK j _ (show (Ar O)[j]? =some (.int .i64 O[j]) by rw[Ar,zh,zH bl];rfl);have M:=Ab (show O[j]=(j:Int)→∀ p,(h:p < O.length)→p < j+1→O[p]=(p:Int) from fun e p h aG=>by
        by_cases aO:p=j
        ·subst aO;exact e
        ·exact Aa a9 p h (by omega))
       have P:=Ab (show O[j]≠(j:Int)→EX k q N L (.returned (.bool false)) from fun e=>EY (fun h=>e ((UF O).1 ((Aa a8).1 h.2.2).2.2.1 j bl)));have bL:=Ab bl;clear bK a9;generalize O[j]=y at b4 M P;by_cases hy:y=(j:Int)
       ·have b5:((j:Int) != y)=false:=by rw[hy];simp
        have ar:=Ab (Aa M hy);clear hy M P;go_wp2_with fail
        go_round
        case rel=>exact ⟨j+1,Aa bL,by go_num,ar⟩
        case measure=>have:=Aa bL;simp[intOf];omega
       ·have b5:((j:Int) != y)=true:=zS.2 (fun e=>hy e.symm);have l:=Ab (Aa P hy);clear hy M P;go_wp2_with fail
        go_ret
        exact ⟨Aa l,I⟩
      ·have bM:=Ab (show G1 O from (UF O).2 (fun p h=>Aa a9 p h (by omega)));have bN:=Ab (Wn (N:=N) (n:=k) (rs:=L.flatMap Ay) (Aa ac) (by rw[Aa aJ];exact Aa bJ) (by rw[Aa aJ];exact Aa bM));have b3: ¬ ((j:Int) < (O.length:Int)):=by omega
       have bf:=Ab I;clear a9 bI a2 I;go_wp2_with fail
       go_loopw [149] (fun i wr=>∃ p:Nat,p≤q∧i= .int .i64 p∧Below w.heap.size w wr∧Hid (∀ r∈(L.take p).flatMap Ay,BE (N.map Nd.kids) k r≤64)) (fun i _=>q - (intOf i).toNat)
       case atStart=>exact ⟨0,by omega,rfl,Aa bf,Ab (by simp)⟩
       case round=>
        obtain ⟨p,hp,rfl,I,ba⟩:=hrel;by_cases ak:p < q
        ·have bb:(p:Int) < (q:Int):=by omega
         have R:p < L.length:=by rw[Aa az];exact ak
         obtain ⟨bq,br,rfl,bs,c0,c1,c2,c3⟩:=(h2.below I NLN).cells p R;have S:=Ab (show ∀ r∈Ay L[p],(0≤r∧r < (k:Int))∧r∈L.flatMap Ay from fun r J=>by
          have aF:r∈L.flatMap Ay:=List.mem_flatMap.2 ⟨L[p],zO R,J⟩;exact ⟨(Aa bN).2 r aF,aF⟩)
         have P:=Ab (show ∀ r∈Ay L[p],¬ BE (N.map Nd.kids) k r≤64→EX k q N L (.returned (.bool false)) from fun r J e=>EY (fun h=>e (((Aa a8).1 h.2.2).2.2.2 r (Aa S r J).2)));have T:=Ab (show (∀ r∈Ay L[p],BE (N.map Nd.kids) k r≤64)→∀ r∈(L.take (p+1)).flatMap Ay,BE (N.map Nd.kids) k r≤64 from fun e r J=>by
          rw[Pe L p R] at J;rcases zK.1 J with x | x
          ·exact Aa ba r x
          ·exact e r x)
         have E:=Ab ak;clear ba;generalize L[p]=s at c0 c1 c2 c3 S P T;obtain ⟨kind,name,cond,grant⟩:=s;simp only at c0 c1 c2 c3;have ae:=Al.new wr #[.int .i64 kind,.string name,.int .i64 cond,.int .i64 grant] 60;have f:=I.alloc I.size (.cells #[.int .i64 kind,.string name,.int .i64 cond,.int .i64 grant] 60);have ay:=Ab (Aa bN).1;have bm:=Ab (LQ (N.map Nd.kids) k);by_cases it: 0≤cond
         ·skip;obtain ⟨⟨ci,cj⟩,_⟩:=Aa S cond (by simp[Ay,it]);obtain ⟨t,rfl⟩:∃ t:Nat,cond=(t:Int):=⟨cond.toNat,by omega⟩
          obtain ⟨D,ag⟩:∃ D,Hid (BE (N.map Nd.kids) k (t:Int)=D):=⟨_,Ab rfl⟩
          have ck:D≤k+1:=by rw[← Aa ag];exact Aa bm _
          by_cases cl: 64 < D
          ·skip;have b6:(64 :Int) < (D:Int):=by omega
           have l:=Ab (Aa P (t:Int) (by simp[Ay,it]) (by rw[Aa ag];omega));clear P T S;go_wp2_with (go_at_call 48;refine (CK _ k c N w h1 (Aa ay) k t _ (by omega) (by omega) (by omega) f).mono ?_;rintro e aV ⟨rfl,ah⟩;rw[Aa ag];have ab:=f.trans (ah.mono f.size))
           go_ret
           exact ⟨Aa l,ab⟩
          ·have b6: ¬ ((64 :Int) < (D:Int)):=by omega
           by_cases au: 0≤grant
           ·skip;obtain ⟨⟨b7,b8⟩,_⟩:=Aa S grant (by simp[Ay,au]);obtain ⟨u,rfl⟩:∃ u:Nat,grant=(u:Int):=⟨grant.toNat,by omega⟩
            obtain ⟨G,M⟩:∃ G,Hid (BE (N.map Nd.kids) k (u:Int)=G):=⟨_,Ab rfl⟩
            have b9:G≤k+1:=by rw[← Aa M];exact Aa bm _
            by_cases ca: 64 < G
            ·skip;have bn:(64 :Int) < (G:Int):=by omega
             have l:=Ab (Aa P (u:Int) (by simp[Ay,au]) (by rw[Aa M];omega));clear P T S;go_wp2_with (first | (go_at_call 48;refine (CK _ k c N w h1 (Aa ay) k u aV (by omega) (by omega) (by omega) ab).mono ?_;rintro e bo ⟨rfl,aD⟩;rw[Aa M];have aE:=ab.trans (aD.mono ab.size)) | (go_at_call 48;refine (CK _ k c N w h1 (Aa ay) k t _ (by omega) (by omega) (by omega) f).mono ?_;rintro e aV ⟨rfl,ah⟩;rw[Aa ag];have ab:=f.trans (ah.mono f.size);obtain ⟨aL,aM,q2,q3,aN⟩:=Bv (ae.after ah NLN)))
             go_ret
             exact ⟨Aa l,aE⟩
            ·skip;have bn: ¬ ((64 :Int) < (G:Int)):=by omega
             have ar:=Ab (Aa T (by intro r J;simp[Ay,it,au] at J;rcases J with rfl | rfl;rw[Aa ag];omega;rw[Aa M];omega));clear P T S;go_wp2_with (first | (go_at_call 48;refine (CK _ k c N w h1 (Aa ay) k u aV (by omega) (by omega) (by omega) ab).mono ?_;rintro e bo ⟨rfl,aD⟩;rw[Aa M];have aE:=ab.trans (aD.mono ab.size)) | (go_at_call 48;refine (CK _ k c N w h1 (Aa ay) k t _ (by omega) (by omega) (by omega) f).mono ?_;rintro e aV ⟨rfl,ah⟩;rw[Aa ag];have ab:=f.trans (ah.mono f.size);obtain ⟨aL,aM,q2,q3,aN⟩:=Bv (ae.after ah NLN)))
             go_roundw
             case rel=>exact ⟨p+1,Aa E,by go_num,aE,ar⟩
             case measure=>have:=Aa E;simp[intOf];omega
           ·skip;have ar:=Ab (Aa T (by intro r J;simp[Ay,it,au] at J;rw[J,Aa ag];omega));clear P T S;go_wp2_with (go_at_call 48;refine (CK _ k c N w h1 (Aa ay) k t _ (by omega) (by omega) (by omega) f).mono ?_;rintro e aV ⟨rfl,ah⟩;rw[Aa ag];have ab:=f.trans (ah.mono f.size);obtain ⟨aL,aM,q2,q3,aN⟩:=Bv (ae.after ah NLN))
            go_roundw
            case rel=>exact ⟨p+1,Aa E,by go_num,ab,ar⟩
            case measure=>have:=Aa E;simp[intOf];omega
         ·by_cases au: 0≤grant
          ·skip;obtain ⟨⟨b7,b8⟩,_⟩:=Aa S grant (by simp[Ay,au]);obtain ⟨u,rfl⟩:∃ u:Nat,grant=(u:Int):=⟨grant.toNat,by omega⟩
           obtain ⟨G,M⟩:∃ G,Hid (BE (N.map Nd.kids) k (u:Int)=G):=⟨_,Ab rfl⟩
           have b9:G≤k+1:=by rw[← Aa M];exact Aa bm _
           by_cases ca: 64 < G
           ·skip;have bn:(64 :Int) < (G:Int):=by omega
            have l:=Ab (Aa P (u:Int) (by simp[Ay,au]) (by rw[Aa M];omega));clear P T S;go_wp2_with (go_at_call 48;refine (CK _ k c N w h1 (Aa ay) k u _ (by omega) (by omega) (by omega) f).mono ?_;rintro e bo ⟨rfl,aD⟩;rw[Aa M];have aE:=f.trans (aD.mono f.size))
            go_ret
            exact ⟨Aa l,aE⟩
           ·skip;have bn: ¬ ((64 :Int) < (G:Int)):=by omega
            have ar:=Ab (Aa T (by intro r J;simp[Ay,it,au] at J;rw[J,Aa M];omega));clear P T S;go_wp2_with (go_at_call 48;refine (CK _ k c N w h1 (Aa ay) k u _ (by omega) (by omega) (by omega) f).mono ?_;rintro e bo ⟨rfl,aD⟩;rw[Aa M];have aE:=f.trans (aD.mono f.size))
            go_roundw
            case rel=>exact ⟨p+1,Aa E,by go_num,aE,ar⟩
            case measure=>have:=Aa E;simp[intOf];omega
          ·skip;have ar:=Ab (Aa T (by intro r J;simp[Ay,it,au] at J));clear P T S;go_wp2_with fail
           go_roundw
           case rel=>exact ⟨p+1,Aa E,by go_num,f,ar⟩
           case measure=>have:=Aa E;simp[intOf];omega
        ·have ag:=Ab (show ∀ r∈L.flatMap Ay,BE (N.map Nd.kids) k r≤64 by
          have e:L.take p=L:=zq (by rw[Aa az];omega);have:=Aa ba;rw[e] at this;exact this)
         have l:=Ab (show EX k q N L (.returned (.bool true)) from ⟨true,rfl,⟨fun _=>⟨⟨U,bS,bR⟩,Aa bw,(Aa a8).2 ⟨Aa b1,Aa bJ,Aa bM,Aa ag⟩⟩,fun _=>rfl⟩⟩);have bb: ¬ ((p:Int) < (q:Int)):=by omega
         clear ba;go_wp2_with fail
         go_ret
         exact ⟨Aa l,I⟩
set_option maxHeartbeats 800000
theorem Wo (N:List Nd)(L:List St):Ey N L=true↔∃ S,CB (N.map Nd.kids) N.length [] 0=some S∧Aq S=L.flatMap Ak:=by
 rw[Ey];cases h:CB (N.map Nd.kids) N.length [] 0 with
 |none=>simp
 |some S=>simp
theorem Y0 (N:List Nd)(L:List St):Bo N L=true↔(N.length≤4000∧1≤L.length∧L.length≤600)∧N.all As=true∧JM N L:=by
 rw[← Wk,Abk,← Wo,Bo];simp only[zI,zG];constructor
 ·rintro ⟨⟨⟨h1,h2,h3⟩,h4⟩,h5⟩;exact ⟨⟨h1,h2⟩,h4,h3,h5⟩
 ·rintro ⟨⟨h1,h2⟩,h4,h3,h5⟩;exact ⟨⟨⟨h1,h2,h3⟩,h4⟩,h5⟩
theorem Wp {n m:Nat}{N:List Nd}{L:List St}{e:Ending}(h:EX n m N L e)(a:N.length=n)(c:L.length=m):e= .returned (.bool (Bo N L)):=by
 obtain ⟨b,rfl,d⟩:=h;have:b=Bo N L:=by
  rw[zP,d,Y0,a,c]
 rw[this]
theorem Ld (a b:Option Addr)(n c m d:Nat)(N:List Nd)(L:List St)(w:World)(h1:GQ w a n c N)(h2:KN w b m d L):
  Calls Tryz.prog 29 #[.agg #[.slice a n c,.slice b m d]] w fun e w'=>e= .returned (.bool (Bo N L))∧Below w.heap.size w w':=by
 have f:=(Below.refl w.heap.size w).alloc NLN (.cells #[.slice a n c,.slice b m d] 36);have g:=Ab h1.len;have h:=Ab h2.len;go_enter Tryz.func29,Tryz.ntmps29
 go_wp2_with (go_at_call 49;refine (UJ _ _ _ _ _ _ N L _ (h1.below f NLN) (h2.below f NLN)).mono ?_;rintro e w2 ⟨he,i⟩;have j:=Wp he (Aa g) (Aa h);subst j;clear he)
 go_ret
 exact ⟨rfl,f.trans (i.mono f.size)⟩
set_option maxHeartbeats 1600000
theorem QY (a h b i f j:Option Addr)(n c k m d l p g o:Nat)(N:List Nd)(L:List St)(T:List Int)(w:World)(h1:GQ w a n c N)(A:GQ w h n k N)(h2:KN w b m d L)(B:KN w i m l L)(h3:BT w f p g T)(C:BT w j p o T):
  Calls Tryz.prog 6 #[.agg #[.slice a n c,.slice b m d,.slice f p g],.agg #[.slice h n k,.slice i m l,.slice j p o]] w fun e w'=>e= .returned (.bool true)∧Below w.heap.size w w':=by
 have r:=((Below.refl w.heap.size w).alloc NLN (.cells #[.slice a n c,.slice b m d,.slice f p g] 26)).alloc (by simp) (.cells #[.slice h n k,.slice i m l,.slice j p o] 26);have x:=(Al.new w #[.slice a n c,.slice b m d,.slice f p g] 26).alloc (.cells #[.slice h n k,.slice i m l,.slice j p o] 26);have t:=Al.new (w.alloc (.cells #[.slice a n c,.slice b m d,.slice f p g] 26)) #[.slice h n k,.slice i m l,.slice j p o] 26;simp only[World.size_alloc] at t;go_enter Tryz.func6,Tryz.ntmps6
 go_wp2_with fail
 refine (Sj _ _ _ _ _ _ _ (h1.below r NLN) (A.below r NLN)).mono ?_;rintro e H ⟨rfl,q⟩;have u:=r.trans (q.mono (by simp;omega));have y:=x.after q NLN;have z:=t.after q NLN;obtain ⟨I,J,q2⟩:=IA y;obtain ⟨K,M,O⟩:=IA z;have E:=q.size;simp at E;clear x t r q
 try dsimp only
 go_wp2_with fail
 refine (Sk _ _ _ _ _ _ _ (h2.below u NLN) (B.below u NLN)).mono ?_;rintro e w2 ⟨rfl,s⟩;have v:=u.trans (s.mono (by omega));obtain ⟨P,Q,R⟩:=IA (y.after s NLN);obtain ⟨S,U,V⟩:=IA (z.after s NLN)
 try dsimp only
 go_wp2_with fail
 refine (Mo _ _ _ _ _ _ _ (h3.below v NLN) (C.below v NLN)).mono ?_;rintro e W ⟨rfl,F⟩;go_wp2_with fail
 go_ret
 exact ⟨rfl,v.trans (F.mono (by have:=s.size;omega))⟩
theorem Ex.cnt1:∀ (e:Ex),1≤e.cnt
 | .un .. =>by simp[Ex.cnt]
 | .bin .. =>by simp[Ex.cnt]
 | .ite .. =>by simp[Ex.cnt]
 | .int .. =>by simp[Ex.cnt]
 | .text .. =>by simp[Ex.cnt]
 | .bool .. =>by simp[Ex.cnt]
 | .set .. =>by simp[Ex.cnt]
 | .name .. =>by simp[Ex.cnt]
 | .attr .. =>by simp[Ex.cnt]
 | .lett .. =>by simp[Ex.cnt]
def Ii (N:List Nd) (b:Nat) (M:List Nd):Prop:=∀ j x,M[j]? =some x→N[b+j]? =some x
theorem Ii.left {N a B:List Nd}{b:Nat}(h:Ii N b (a ++B)):Ii N b a:=fun j x hx=>h j x (by
 have:=(ze.1 hx).1;rw[List.getElem?_append_left this];exact hx)
theorem Ii.right {N a B:List Nd}{b k:Nat}(h:Ii N b (a ++B))(hk:a.length=k):Ii N (b+k) B:=fun j x hx=>by
 have:=h (k+j) x (by rw[Z7 (by omega),← hk];rw[show a.length+j - a.length=j by omega];exact hx);rw[show b+k+j=b+(k+j) by omega];exact this
theorem Ii.one {N:List Nd}{b:Nat}{x:Nd}(h:Ii N b [x]):(N.map Nd.kids)[b]? =some x.kids:=by
 have:=h 0 x rfl;rw[zZ] at this;rw[zh,this];rfl
theorem mxN {a b:Int}(c: 0≤a)(d: 0≤b):(mx a b).toNat=max a.toNat b.toNat:=by unfold mx;split <;> omega
theorem EA:∀ (e:Ex) (N:List Nd) (b:Nat),Ii N b (BH e b)→Ax (N.map Nd.kids) b [(b+e.cnt - 1,(Cj e).toNat)] (b+e.cnt)
 | .un i op k,N,b,h=>by
  rw[BH] at h;have h1:=EA k N b h.left;have h2:=(h.right (Am k b)).one;have c1:=k.cnt1;have d1:=(Bf k).1;have:=Ax.cons h1 (show (N.map Nd.kids)[b+k.cnt]? =some (Aq [(b+k.cnt - 1,(Cj k).toNat)]) from h2) (.nil _);have e1:(Cj (.un i op k)).toNat=Ev [(b+k.cnt - 1,(Cj k).toNat)]+1:=by
   rw[Cj];have:=mxN (Int.le_refl 0) (show 0≤Cj k by omega);simp[Ev];have:=(F7 0 (Cj k));omega
  rw[e1,Ex.cnt];exact this
 | .bin i op l r,N,b,h=>by
  rw[BH] at h;have h1:=EA l N b h.left.left;have h2:=EA r N (b+l.cnt) (h.left.right (Am l b));have h3:=(h.right (k:=l.cnt+r.cnt) (by rw[zA,Am,Am])).one;have c1:=l.cnt1;have c2:=r.cnt1;have d1:=(Bf l).1;have d2:=(Bf r).1;rw[← Nat.add_assoc] at h3;have:=Ax.cons (h1.join h2) (show (N.map Nd.kids)[b+l.cnt+r.cnt]? =some (Aq [(b+l.cnt - 1,(Cj l).toNat),(b+l.cnt+r.cnt - 1,(Cj r).toNat)]) from h3) (.nil _);have e1:(Cj (.bin i op l r)).toNat=Ev [(b+l.cnt - 1,(Cj l).toNat),(b+l.cnt+r.cnt - 1,(Cj r).toNat)]+1:=by
   rw[Cj];have a1:=F7 0 (Cj l);have a2:=F7 (mx 0 (Cj l)) (Cj r);simp[Ev];omega
  rw[e1,Ex.cnt,show b+(l.cnt+r.cnt+1) - 1=b+l.cnt+r.cnt by omega,show b+(l.cnt+r.cnt+1)=b+l.cnt+r.cnt+1 by omega];exact this
 | .ite i c t e,N,b,h=>by
  rw[BH] at h;have h1:=EA c N b h.left.left.left;have h2:=EA t N (b+c.cnt) (h.left.left.right (Am c b));have h3:=EA e N (b+c.cnt+t.cnt) (by have:=h.left.right (k:=c.cnt+t.cnt) (by rw[zA,Am,Am]);rw[← Nat.add_assoc] at this;exact this);have h4:=(h.right (k:=c.cnt+t.cnt+e.cnt) (by rw[zA,zA,Am,Am,Am])).one;have c1:=c.cnt1;have c2:=t.cnt1;have c3:=e.cnt1;have d1:=(Bf c).1;have d2:=(Bf t).1;have d3:=(Bf e).1;rw[show b+(c.cnt+t.cnt+e.cnt)=b+c.cnt+t.cnt+e.cnt by omega] at h4;have:=Ax.cons ((h1.join h2).join h3) (show (N.map Nd.kids)[b+c.cnt+t.cnt+e.cnt]? =some (Aq [(b+c.cnt - 1,(Cj c).toNat),(b+c.cnt+t.cnt - 1,(Cj t).toNat),(b+c.cnt+t.cnt+e.cnt - 1,(Cj e).toNat)]) from h4) (.nil _);have e1:(Cj (.ite i c t e)).toNat=Ev [(b+c.cnt - 1,(Cj c).toNat),(b+c.cnt+t.cnt - 1,(Cj t).toNat),(b+c.cnt+t.cnt+e.cnt - 1,(Cj e).toNat)]+1:=by
   rw[Cj];have a1:=F7 0 (Cj c);have a2:=F7 (mx 0 (Cj c)) (Cj t);have a3:=F7 (mx (mx 0 (Cj c)) (Cj t)) (Cj e);simp[Ev];omega
  rw[e1,Ex.cnt,show b+(c.cnt+t.cnt+e.cnt+1) - 1=b+c.cnt+t.cnt+e.cnt by omega,show b+(c.cnt+t.cnt+e.cnt+1)=b+c.cnt+t.cnt+e.cnt+1 by omega];exact this
 | .int i n,N,b,h=>Ax.cons (.nil b) (show (N.map Nd.kids)[b]? =some (Aq []) from h.one) (.nil _)
 | .text i s,N,b,h=>Ax.cons (.nil b) (show (N.map Nd.kids)[b]? =some (Aq []) from h.one) (.nil _)
 | .bool i v,N,b,h=>Ax.cons (.nil b) (show (N.map Nd.kids)[b]? =some (Aq []) from h.one) (.nil _)
 | .set i a n c ss,N,b,h=>Ax.cons (.nil b) (show (N.map Nd.kids)[b]? =some (Aq []) from h.one) (.nil _)
 | .name i s,N,b,h=>Ax.cons (.nil b) (show (N.map Nd.kids)[b]? =some (Aq []) from h.one) (.nil _)
 | .attr i n,N,b,h=>Ax.cons (.nil b) (show (N.map Nd.kids)[b]? =some (Aq []) from h.one) (.nil _)
 | .lett i n,N,b,h=>Ax.cons (.nil b) (show (N.map Nd.kids)[b]? =some (Aq []) from h.one) (.nil _)
theorem NG (o:Option Ex)(N:List Nd)(b:Nat)(h:Ii N b (Gv o b))(hd:JZ o≤64):∃ a,Ax (N.map Nd.kids) b a (b+AH o)∧Aq a=(if o.isSome then [Gp o b] else [])∧∀ p∈a,p.2≤64:=by
 cases o with
 |none=>exact ⟨[],.nil _,rfl,fun p hp=>by cases hp⟩
 |some e=>
  refine ⟨_,EA e N b h, ?_,fun p hp=>?_⟩
  ·simp[Aq,Gp]
  ·rw[zL.1 hp];have:Cj e≤64:=hd;show (Cj e).toNat≤64;omega
theorem NH (N:List Nd):∀ (X:List Sx) (b:Nat),Ii N b (AK b X)→(∀ x∈X,JZ x.cond≤64∧JZ x.grant≤64∧(x.kind=3↔x.cond=none))→∃ a,Ax (N.map Nd.kids) b a (b+CI X)∧Aq a=(Cu b X).flatMap Ak∧∀ p∈a,p.2≤64
 | [],b,_,_=>⟨[],.nil _,rfl,fun p hp=>by cases hp⟩
 |x ::X,b,h,hx=>by
  rw[AK] at h;have d:(Gv x.cond b).length=AH x.cond:=by cases x.cond <;> simp[Gv,AH,Am]
  have i:(Gv x.grant (b+AH x.cond)).length=AH x.grant:=by cases x.grant <;> simp[Gv,AH,Am]
  obtain ⟨j,l,f⟩:=hx x (zT ..);obtain ⟨m,g1,n,d1⟩:=NG x.cond N b h.left.left j;obtain ⟨o,g2,q,d2⟩:=NG x.grant N (b+AH x.cond) (h.left.right d) l;obtain ⟨r,g3,s,d3⟩:=NH N X (b+AH x.cond+AH x.grant) (by have:=h.right (k:=AH x.cond+AH x.grant) (by rw[zA,d,i]);rw[← Nat.add_assoc] at this;exact this) (fun y hy=>hx y (zY _ hy));refine ⟨m ++o ++r, ?_, ?_,fun p hp=>?_⟩
  ·have:=(g1.join g2).join g3;rw[Bp,← Nat.add_assoc,← Nat.add_assoc];exact this
  ·rw[Cu,zn,← s];have g:∀ c B:List (Nat × Nat),Aq (c ++B)=Aq c ++Aq B:=fun c B=>by simp[Aq]
   rw[g,g,n,q]
   congr 1
   rw[Ak]
   congr 1
   ·cases hc:x.cond with
    |none=>simp[f.2 hc]
    |some e=>
     have h3:x.kind≠3:=fun h3=>by rw[f.1 h3] at hc;cases hc
     simp[h3]
   ·cases hc:x.grant with
    |none=>simp[Gp]
    |some e=>simp[Gp]
  ·rcases zK.1 hp with hp | hp
   ·rcases zK.1 hp with hp | hp
    ·exact d1 p hp
    ·exact d2 p hp
   ·exact d3 p hp
end Go.Proofs.YtchakjeegneeoaaGreatDoor
