/-
  LTC, LTD, LTE. Own work.
-/
import Derived.Test.YtoplnhndilmlcaaGreatDoorMXAK
import Derived.Test.YtoplnhndilmlcaaGreatDoorNUC
namespace Go.Proofs.YtoplnhndilmlcaaGreatDoor
set_option maxRecDepth 100000
set_option maxHeartbeats 6400000
open Go.RowKit
set_option linter.unusedVariables false
theorem LI {w:World}{B R i:Nat}{a:Option Addr}{n c:Nat}{zs:List Int}{p:Nat}{N:List Nd}{L:List (ByteArray × Int)}{nd lt:Value}{s t:List Value}{wild:Bool}(F:QF w B R i a n c zs p N L nd lt s t wild)(aB:N.length+1≤1000000)
  (x:Nd)(hx:Sl x)(b:Option Addr)(d:Nat)(f:Option Addr)(g:Nat)(hu:w.ownsRow B 9 1 (.slice b x.names.length d) x.names.length (x.names.map Value.string))(hk:w.ownsRow B 3 1 (.slice f x.kids.length g) x.kids.length (At x.kids))
  (S:∀ j,(aj:j < s.length)→∀ q,s[j].ownBlock=some q→(Value.slice b x.names.length d).ownBlock≠some q)(T:∀ j,(aj:j < t.length)→∀ q,t[j].ownBlock=some q→(Value.slice f x.kids.length g).ownBlock≠some q):
  Calls Tryz.prog 121 #[.pointer (some ⟨i,0,none⟩),.agg #[.int .i64 x.op,.int .i64 x.num,.string x.text,.slice b x.names.length d,.slice f x.kids.length g]] w fun r w'=>r= .returned (.int .i64 (N.length:Int))∧∃ U,QF w' B R i a n c zs p (N ++ [x]) L U lt (s ++ [.slice b x.names.length d]) (t ++ [.slice f x.kids.length g]) wild∧Gk B R i lt nd w U w':=by
 have ak:=F.row.lt;have V:B≤w.heap.size:=by have:=F.low.1.1;omega
 obtain ⟨al,ao,ap,aq,ar⟩:=info_parts LJ;have W:=Ab (And.intro S T);have au:=Ab hx;have v:=(Below.refl w.heap.size w).alloc NLN (.cells #[.int .i64 x.op,.int .i64 x.num,.string x.text,.slice b x.names.length d,.slice f x.kids.length g] 80);have C:=Aj.new w #[.int .i64 x.op,.int .i64 x.num,.string x.text,.slice b x.names.length d,.slice f x.kids.length g] 80;have l:=F.below v;have H:Gk B R i lt nd w nd (w.alloc (.cells #[.int .i64 x.op,.int .i64 x.num,.string x.text,.slice b x.names.length d,.slice f x.kids.length g] 80)):=Gk.of_below v V;have I:=Ac (w':=w.alloc (.cells #[.int .i64 x.op,.int .i64 x.num,.string x.text,.slice b x.names.length d,.slice f x.kids.length g] 80)) hu (fun q hq=>v.block q (hu.lt q hq).2);have J:=Ac (w':=w.alloc (.cells #[.int .i64 x.op,.int .i64 x.num,.string x.text,.slice b x.names.length d,.slice f x.kids.length g] 80)) hk (fun q hq=>v.block q (hk.lt q hq).2);have X:w.heap.size < (w.alloc (.cells #[.int .i64 x.op,.int .i64 x.num,.string x.text,.slice b x.names.length d,.slice f x.kids.length g] 80)).heap.size:=by simp
 clear S T hu hk v hx;go_enter Tryz.func121,Tryz.ntmps121
 go_wp2_with fail
 generalize w.alloc (.cells #[.int .i64 x.op,.int .i64 x.num,.string x.text,.slice b x.names.length d,.slice f x.kids.length g] 80)=h at l H I J C X ⊢;generalize w.heap.size=y at C X ak V ⊢;obtain ⟨z,A,m,-⟩:=Af l.nodes.own;have K:=Ab m;have m:=Aa K;obtain ⟨Y,e1,e2,e3,e4⟩:=LL C;have M:h.cell? ⟨i,1,none⟩=some (nd):=l.row.cell 1;rw[m] at M;have Z:=l.row.frozen 1;have aa:=World.news_of_block (heap_alloc_new h (.cells #[.int .i64 x.op,.int .i64 x.num,.string x.text,.slice b x.names.length d,.slice f x.kids.length g] 80));have av:h.drew.cell? ⟨i,1,none⟩=some (.slice z (N).length A)∧h.drew.frozen? ⟨i,1,none⟩=false:=⟨M,Z⟩
 have d1:h.drew.cell? ⟨y,0,none⟩=some (.int .i64 x.op):=Y;have d2:h.drew.cell? ⟨y,1,none⟩=some (.int .i64 x.num):=e1;have d3:h.drew.cell? ⟨y,2,none⟩=some (.string x.text):=e2;have d4:h.drew.cell? ⟨y,3,none⟩=some (.slice b x.names.length d):=e3;have d5:h.drew.cell? ⟨y,4,none⟩=some (.slice f x.kids.length g):=e4;have ab:(h.alloc (.cells #[.int .i64 x.op,.int .i64 x.num,.string x.text,.slice b x.names.length d,.slice f x.kids.length g] 80)).drew.ownsRow B 80 5 (.slice z (N).length A) (N).length (DA (N) (s) (t)):=by
  have:=l.nodes.own;rw[m] at this;exact (World.ownsRow.alloc this _).drew
 have E:Aj (h.alloc (.cells #[.int .i64 x.op,.int .i64 x.num,.string x.text,.slice b x.names.length d,.slice f x.kids.length g] 80)).drew i #[.pointer (some ⟨R,0,none⟩),nd,lt,.bool wild] 113:=⟨(l.row.alloc (.cells #[.int .i64 x.op,.int .i64 x.num,.string x.text,.slice b x.names.length d,.slice f x.kids.length g] 80)).out⟩
 have aw:(h.alloc (.cells #[.int .i64 x.op,.int .i64 x.num,.string x.text,.slice b x.names.length d,.slice f x.kids.length g] 80)).drew.cell? ⟨i,1,none⟩=some (.slice z (N).length A):=by
  have:=E.cell 1;rw[m] at this;exact this
 have ac:(Value.slice z (N).length A).ownBlock≠some i:=by rw[← m];exact Ad l.row l.nodes.own (by decide)
 have ax:B≤h.heap.size:=by have:=l.row.lt;have:=l.low.1.1;omega
 clear Y e1 e2 e3 e4 M Z m;go_region_law (refine step_append_lies _ rfl _ _ 23 rfl B 80 al (.agg #[.int .i64 0,.int .i64 0,.string ByteArray.empty,.slice none 0 0,.slice none 0 0]) 5 80 Tryz.underlying23 ao ap aq ar rfl (by decide) (.slice z (N).length A) (N).length (DA (N) (s) (t)) rfl ab ⟨h.heap.size,0,none⟩ 1 1 [.int .i64 x.op,.int .i64 x.num,.string x.text,.slice b x.names.length d,.slice f x.kids.length g] rfl rfl aa (by intro u hu;simp at hu;rcases hu with rfl | rfl | rfl | rfl | rfl <;> rfl) (by decide) (by unfold maxLen;omega) (by omega) (by simp;omega) _ rfl ?_;intro g7 c7 O ad o ae ay;have P:Aj O i #[.pointer (some ⟨R,0,none⟩),nd,lt,.bool wild] 113:=⟨(o.block i E.lt (fun e=>ac e.symm)).trans E.out⟩;have af:=P.cell 1;have az:=P.frozen 1)
 all_goals
  have ag:(h.alloc (.cells #[.int .i64 x.op,.int .i64 x.num,.string x.text,.slice b x.names.length d,.slice f x.kids.length g] 80)).grownBy O (nd).ownBlock:=by rw[Aa K];exact ⟨o.os,o.tape,o.output,o.size,o.block⟩
  obtain ⟨Q,ah⟩:=l.pushN (g7:=g7) (c7:=c7) (x:=x) (u:= .slice b x.names.length d) (k:= .slice f x.kids.length g) _ ax I J (Aa W).1 (Aa W).2 (Aa au) ag ad (by rw[Aa K];exact ae.imp id (fun e=>by rw[e];show (h.alloc _).heap.size=_;simp));have ai:=H.trans ah;clear ad o ae ay P E aw av d1 d2 d3 d4 d5 aa ab ag ah;clear af az;generalize O.setCell ⟨i,1,none⟩ (.slice (some ⟨g7,0,none⟩) ((N).length+1) c7)=aA at Q ai ⊢;clear ac C l H I J;have af:aA.cell? ⟨i,1,none⟩=some (.slice (some ⟨g7,0,none⟩) ((N).length+1) c7):=Q.row.cell 1;go_wp2_with fail
  go_ret
  exact ⟨by simp,_,Q,ai⟩
def FV (B R gb:Nat) (a:Option Addr) (n c:Nat) (zs:List Int) (wild:Bool) (p:Nat) (N:List Nd) (L:List (ByteArray × Int)) (nd lt:Value) (w:World):Prop:=
 ∃ nv kv,QF w B R gb a n c zs p N L nd lt nv kv wild
def Ev (B R gb:Nat) (a:Option Addr) (n c:Nat) (zs:List Int) (wild:Bool) (N:List Nd) (top:Nat) (X:Nat→List Nd→Prop) (L:List (ByteArray × Int)) (nd lt:Value) (w:World) (r:Ending) (w':World):Prop:=
 ∃ q N' nd',r= .returned (.int .i64 (Ay N'))∧Hid (X q N')∧N.length≤N'.length∧N'.length≤N.length+top∧FV B R gb a n c zs wild q N' L nd' lt w'∧Gk B R gb lt nd w nd' w'
theorem Ev.to {B R b:Nat}{a:Option Addr}{n c:Nat}{zs:List Int}{wild:Bool}{N:List Nd}{top d:Nat}{X Y:Nat→List Nd→Prop}{L:List (ByteArray × Int)}{nd lt:Value}{w f:World}{r:Ending}{w':World}(h:Ev B R b a n c zs wild N top X L nd lt f r w')(K:Gk B R b lt nd w nd f)(g:∀ q M,X q M→Y q M)(ht:top≤d):Ev B R b a n c zs wild N d Y L nd lt w r w':=by
 obtain ⟨q,M,i,h1,h2,h3,h4,h5,h6⟩:=h;exact ⟨q,M,i,h1,Ab (g q M (Aa h2)),h3,by omega,h5,K.trans h6⟩
theorem FV.below {B R b:Nat}{a:Option Addr}{n c:Nat}{zs:List Int}{wild:Bool}{p:Nat}{N:List Nd}{L:List (ByteArray × Int)}{nd lt:Value}{w:World}{w':World}(h:FV B R b a n c zs wild p N L nd lt w)(d:Below w.heap.size w w'):FV B R b a n c zs wild p N L nd lt w':=by
 obtain ⟨f,g,C⟩:=h;exact ⟨f,g,C.below d⟩
theorem FV.touch {B R b:Nat}{a:Option Addr}{n c:Nat}{zs:List Int}{wild:Bool}{p:Nat}{N:List Nd}{L:List (ByteArray × Int)}{nd lt:Value}{w:World}{w':World}{q:Nat}(h:FV B R b a n c zs wild p N L nd lt w)(t:Ai R (R+1) w w')(d:H6 w' R a n c zs q):FV B R b a n c zs wild q N L nd lt w':=by
 obtain ⟨f,g,C⟩:=h;exact ⟨f,g,C.touch t d⟩
theorem FV.lt {B R b:Nat}{a:Option Addr}{n c:Nat}{zs:List Int}{wild:Bool}{p:Nat}{N:List Nd}{L:List (ByteArray × Int)}{nd lt:Value}{w:World}(h:FV B R b a n c zs wild p N L nd lt w):(B≤w.heap.size∧b < w.heap.size∧R < w.heap.size)∧(B≤b∧B≤R)∧H6 w R a n c zs p:=by
 obtain ⟨d,f,C⟩:=h;have h1:=C.row.lt;have h2:=C.rd.lt;have h3:=C.low.1;exact ⟨⟨by omega,h1,h2⟩,h3,C.rd⟩
theorem FV.cells {B R b:Nat}{a:Option Addr}{n c:Nat}{zs:List Int}{wild:Bool}{p:Nat}{N:List Nd}{L:List (ByteArray × Int)}{nd lt:Value}{w:World}(h:FV B R b a n c zs wild p N L nd lt w):∃ d f g i,nd= .slice d N.length f∧lt= .slice g L.length i∧w.cell? ⟨b,0,none⟩=some (.pointer (some ⟨R,0,none⟩))∧w.cell? ⟨b,1,none⟩=some nd∧w.cell? ⟨b,2,none⟩=some lt∧w.cell? ⟨b,3,none⟩=some (.bool wild):=by
 obtain ⟨j,k,C⟩:=h;obtain ⟨d,f,h1,-⟩:=Af C.nodes.own;obtain ⟨g,i,h2,-⟩:=Af C.lets;exact ⟨d,f,g,i,h1,h2,C.row.cell 0,C.row.cell 1,C.row.cell 2,C.row.cell 3⟩
theorem LM (N:List Nd)(x:Nd):Ay (N ++ [x])=(N.length:Int):=by simp[Ay]
def Snc (p:Nat) (N:List Nd) (x:Nd) (q:Nat) (M:List Nd):Prop:=q=p∧M=N ++ [x]
theorem AX {B R d:Nat}{a:Option Addr}{n c:Nat}{zs:List Int}{wild:Bool}{p:Nat}{N:List Nd}{L:List (ByteArray × Int)}{nd lt:Value}{w:World}(h:FV B R d a n c zs wild p N L nd lt w)(hm:N.length+1≤1000000)(op num:Int)(b:ByteArray)(f:num≤9223372036854775807)(g:b.size≤1000000):
  Calls Tryz.prog 121 #[.pointer (some ⟨d,0,none⟩),.agg #[.int .i64 op,.int .i64 num,.string b,.slice none 0 0,.slice none 0 0]] w (Ev B R d a n c zs wild N 1 (Snc p N ⟨op,num,b, [], []⟩) L nd lt w):=by
 obtain ⟨o,t,C⟩:=h;refine (LI C (by omega) ⟨op,num,b, [], []⟩ ⟨⟨by simp,by simp,fun s hs=>by cases hs⟩,g,f,by simp,fun s hs=>(by cases hs),by simp⟩ none 0 none 0 (World.ownsRow_nil _ _ _ _) (World.ownsRow_nil _ _ _ _) (fun j i q hq e=>by cases e) (fun j i q hq e=>by cases e)).mono ?_;rintro r w' ⟨rfl,k,l,m⟩;exact ⟨p,_,k,by rw[LM],Ab ⟨rfl,rfl⟩,by simp,by simp,⟨_,_,l⟩,m⟩
theorem QG {B R g:Nat}{a:Option Addr}{n c:Nat}{zs:List Int}{wild:Bool}{p q:Nat}{N:List Nd}{L:List (ByteArray × Int)}{nd lt:Value}{b w:World}(h0:FV B R g a n c zs wild p N L nd lt b)(T:Ai R (R+1) b w)(k:H6 w R a n c zs q)(hm:N.length+1≤1000000)(K:List ByteArray)(x:Option Addr)(h:Nat)(d:AZ w b.heap.size x K h)(l:K.length≤64):
  Calls Tryz.prog 121 #[.pointer (some ⟨g,0,none⟩),.agg #[.int .i64 4,.int .i64 0,.string ⟨#[]⟩,.slice x K.length h,.slice none 0 0]] w (Ev B R g a n c zs wild N 1 (Snc q N ⟨4,0,⟨#[]⟩,K, []⟩) L nd lt w):=by
 obtain ⟨v,y,f⟩:=h0;have C:=f.touch T k;have m:B≤b.heap.size:=by have:=f.row.lt;have:=f.low.1.1;omega
 refine (LI C (by omega) ⟨4,0,⟨#[]⟩,K, []⟩ ⟨⟨by show K.length≤1048576;omega,by simp,fun s hs=>by have:=d.small s hs;unfold maxLen;omega⟩,by show (⟨#[]⟩:ByteArray).size≤1000000;decide,by show (0 :Int)≤9223372036854775807;decide,l,d.small,by simp⟩ x h none 0 (CA d.own m) (World.ownsRow_nil _ _ _ _) (fun j i q hq e=>?_) (fun j i q hq e=>by cases e)).mono ?_
 ·have h1:=(f.nodes.lts.2.1 j i q hq).2;have h2:=(d.own.lt q e).1;omega
 ·rintro r w' ⟨rfl,o,t,u⟩;exact ⟨q,_,o,by rw[LM],Ab ⟨rfl,rfl⟩,by simp,by simp,⟨_,_,t⟩,u⟩
theorem JF (w:World)(ks:List Int)(a:Array Value)(n:Nat)(b:a.toList=At ks)(h:a.size=n)(hm:n≤maxLen):(w.alloc (.cells a 3)).ownsRow w.heap.size 3 1 (.slice (some ⟨w.heap.size,0,none⟩) n n) n (At ks):=by
 refine ⟨by rw[← b];simp[h],.inr ⟨w.heap.size,n,a,rfl,NLN,heap_alloc_new w _,NLN,hm,by omega, ?_⟩⟩;rw[Nat.mul_one,List.take_of_length_le (by simp;omega),b]
theorem VA {B R i:Nat}{a:Option Addr}{n c:Nat}{zs:List Int}{wild:Bool}{p:Nat}{N:List Nd}{L:List (ByteArray × Int)}{nd lt:Value}{w:World}(h:FV B R i a n c zs wild p N L nd lt w)(hm:N.length+1≤1000000)(ks:List Int)(b:Array Value)(j:Nat)(k:b.toList=At ks)(d:b.size=j)(h3:j≤3)(op:Int)(f:World)(l:Below (w.alloc (.cells b 3)).heap.size (w.alloc (.cells b 3)) f):
  Calls Tryz.prog 121 #[.pointer (some ⟨i,0,none⟩),.agg #[.int .i64 op,.int .i64 0,.string ⟨#[]⟩,.slice none 0 0,.slice (some ⟨w.heap.size,0,none⟩) j j]] f (Ev B R i a n c zs wild N 1 (Snc p N (YV op ks)) L nd lt f):=by
 obtain ⟨z,A,g⟩:=h;have m:=(Below.refl w.heap.size w).alloc NLN (.cells b 3);have C:=(g.below m).below l;have o:B≤w.heap.size:=by have:=g.row.lt;have:=g.low.1.1;omega
 have t:ks.length=j:=by
  have:=congrArg List.length k;simp[At] at this;omega
 subst t;have ok:=JF w ks b ks.length k d (by unfold maxLen;omega);have u:=Ac (w':=f) ok (fun q hq=>l.block q (ok.lt q hq).2);refine (LI C (by omega) ⟨op,0,⟨#[]⟩, [],ks⟩ ⟨⟨by simp,by show ks.length≤1048576;omega,fun s hs=>by cases hs⟩,by show (⟨#[]⟩:ByteArray).size≤1000000;decide,by show (0 :Int)≤9223372036854775807;decide,by simp,fun s hs=>(by cases hs),by show ks.length≤3;omega⟩ none 0 (some ⟨w.heap.size,0,none⟩) ks.length (World.ownsRow_nil _ _ _ _) (CA u o) (fun j d q hq e=>by cases e) (fun j d q hq e=>?_)).mono ?_
 ·have h1:w.heap.size=q:=by simpa[Value.ownBlock] using e
  have:=(g.nodes.lts.2.2 j d q hq).2;omega
 ·rintro r w' ⟨rfl,v,x,y⟩;exact ⟨p,_,v,by rw[LM],Ab ⟨rfl,rfl⟩,by simp,by simp,⟨_,_,x⟩,y⟩
end Go.Proofs.YtoplnhndilmlcaaGreatDoor
namespace Go.Proofs.YtoplnhndilmlcaaGreatDoor
set_option maxRecDepth 100000
set_option maxHeartbeats 6400000
open Go.RowKit Go.ChangeShapes
set_option linter.unusedVariables false
def Ach (R:Nat) (a:Option Addr) (n c:Nat) (zs:List Int) (p:Nat) (w:World) (e:Ending) (w':World):Prop:=
 ∃ (r:Int) (q:Nat),e= .returned (.int .i64 r)∧Hid (Vx zs p=(r,q))∧(-9223372036854775808≤r∧r≤9223372036854775807)∧H6 w' R a n c zs q∧Ai R (R+1) w w'
theorem Ut (R:Nat)(a:Option Addr)(n c:Nat)(zs:List Int)(p:Nat)(w:World)(h:H6 w R a n c zs p):
  Calls Tryz.prog 124 #[.pointer (some ⟨R,0,none⟩)] w fun e w'=>Ach R a n c zs p w e w':=by
 go_enter Tryz.func124,Tryz.ntmps124
 go_wp2_with fail
 refine (Cd R a n c zs p w h).mono ?_;rintro e A ⟨x,d,rfl,B,M,N,h1,f⟩;clear h;have g:=Ab (show Vx zs p=M6 zs x d by rw[Vx,Aa B]);rcases (show x % 8=0∨x % 8=1∨x % 8=2∨x % 8=3∨x % 8=4∨x % 8=5∨x % 8=6∨x % 8=7 by omega) with e8 | e8 | e8 | e8 | e8 | e8 | e8 | e8
 ·have b:=Ab e8;have j:(x % 8== 0)=true:=beq_iff_eq.2 e8;clear e8;go_wp2_with fail
  go_ret
  exact ⟨_,d,rfl,Ab (by rw[Aa g,M6];simp only[Aa b];simp),⟨by omega,by omega⟩,h1,f⟩
 ·have b:=Ab e8;have j:(x % 8== 0)=false:=beq_eq_false_iff_ne.2 (by omega);have l:(x % 8== 1)=true:=beq_iff_eq.2 e8;clear e8;go_wp2_with fail
  go_ret
  exact ⟨_,d,rfl,Ab (by rw[Aa g,M6];simp only[Aa b];simp),⟨by omega,by omega⟩,h1,f⟩
 ·have b:=Ab e8;have j:(x % 8== 0)=false:=beq_eq_false_iff_ne.2 (by omega);have l:(x % 8== 1)=false:=beq_eq_false_iff_ne.2 (by omega);have q2:(x % 8== 2)=true:=beq_iff_eq.2 e8;clear e8;go_wp2_with fail
  go_ret
  exact ⟨_,d,rfl,Ab (by rw[Aa g,M6];simp only[Aa b];simp),⟨by omega,by omega⟩,h1,f⟩
 ·have b:=Ab e8;have j:(x % 8== 0)=false:=beq_eq_false_iff_ne.2 (by omega);have l:(x % 8== 1)=false:=beq_eq_false_iff_ne.2 (by omega);have q2:(x % 8== 2)=false:=beq_eq_false_iff_ne.2 (by omega);have q3:(x % 8== 3)=true:=beq_iff_eq.2 e8;clear e8;go_wp2_with fail
  go_ret
  exact ⟨_,d,rfl,Ab (by rw[Aa g,M6];simp only[Aa b];simp),⟨by omega,by omega⟩,h1,f⟩
 ·have b:=Ab e8;have j:(x % 8== 0)=false:=beq_eq_false_iff_ne.2 (by omega);have l:(x % 8== 1)=false:=beq_eq_false_iff_ne.2 (by omega);have q2:(x % 8== 2)=false:=beq_eq_false_iff_ne.2 (by omega);have q3:(x % 8== 3)=false:=beq_eq_false_iff_ne.2 (by omega);have q4:(x % 8== 4)=true:=beq_iff_eq.2 e8;clear e8;go_wp2_with fail
  refine (Cd R a n c zs d A h1).mono ?_;rintro e C ⟨y,o,rfl,E,F,H,h2,r⟩;go_wp2_with fail
  refine (Cd R a n c zs o C h2).mono ?_;rintro e I ⟨O,s,rfl,t,P,Q,h3,u⟩;go_wp2_with fail
  go_ret
  exact ⟨_,s,rfl,Ab (by rw[Aa g,M6];simp only[Aa E,Aa t,Aa b];simp),⟨by omega,by omega⟩,h3,(f.trans r).trans u⟩
 ·have b:=Ab e8;have j:(x % 8== 0)=false:=beq_eq_false_iff_ne.2 (by omega);have l:(x % 8== 1)=false:=beq_eq_false_iff_ne.2 (by omega);have q2:(x % 8== 2)=false:=beq_eq_false_iff_ne.2 (by omega);have q3:(x % 8== 3)=false:=beq_eq_false_iff_ne.2 (by omega);have q4:(x % 8== 4)=false:=beq_eq_false_iff_ne.2 (by omega);have q5:(x % 8== 5)=true:=beq_iff_eq.2 e8;clear e8;go_wp2_with fail
  go_loopw [5,6] (fun v i wr=>∃ (k:Nat) (m:Int) (q:Nat),k≤8∧i= .int .i64 k∧v= .int .i64 m∧Hid (Xs zs 8 d 0=Xs zs (8 - k) q m)∧(-9223372036854775808≤m∧m≤9223372036854775807)∧H6 wr R a n c zs q∧Ai R (R+1) w wr) (fun _ i _=>8 - (intOf i).toNat)
  case atStart=>exact ⟨0,0,d,by omega,rfl,rfl,Ab rfl,⟨by omega,by omega⟩,h1,f⟩
  case round=>
   obtain ⟨k,m,o,hk,rfl,rfl,z,hm,h2,r⟩:=hrel;by_cases S:k < 8
   ·have J:(k:Int) < 8:=by omega
    go_wp2_with (go_at_call 21;refine (Cd R a n c zs o _ h2).mono ?_;rintro e I ⟨y,s,rfl,t,F,H,h3,u⟩)
    go_roundw
    case rel=>exact ⟨k+1,_,s,by omega,by go_num,rfl,Ab (by rw[Aa z,show 8 - k=(8 - (k+1))+1 by omega,Xs,Aa t]),bounds_i64 (wf_bits _ _ _ _),h3,r.trans u⟩
    case measure=>simp[intOf];omega
   ·have J: ¬ (k:Int) < 8:=by omega
    have K:=Ab (show k=8 by omega);go_wp2_with fail
    go_ret
    exact ⟨_,o,rfl,Ab (by rw[Aa g,M6];simp only[Aa b];simp only[Aa z,Aa K];rfl),hm,h2,r⟩
 ·have b:=Ab e8;have j:(x % 8== 0)=false:=beq_eq_false_iff_ne.2 (by omega);have l:(x % 8== 1)=false:=beq_eq_false_iff_ne.2 (by omega);have q2:(x % 8== 2)=false:=beq_eq_false_iff_ne.2 (by omega);have q3:(x % 8== 3)=false:=beq_eq_false_iff_ne.2 (by omega);have q4:(x % 8== 4)=false:=beq_eq_false_iff_ne.2 (by omega);have q5:(x % 8== 5)=false:=beq_eq_false_iff_ne.2 (by omega);have L:(x % 8== 6)=true:=beq_iff_eq.2 e8;clear e8;go_wp2_with fail
  go_ret
  exact ⟨_,d,rfl,Ab (by rw[Aa g,M6];simp only[Aa b];simp),⟨by omega,by omega⟩,h1,f⟩
 ·have b:=Ab e8;have j:(x % 8== 0)=false:=beq_eq_false_iff_ne.2 (by omega);have l:(x % 8== 1)=false:=beq_eq_false_iff_ne.2 (by omega);have q2:(x % 8== 2)=false:=beq_eq_false_iff_ne.2 (by omega);have q3:(x % 8== 3)=false:=beq_eq_false_iff_ne.2 (by omega);have q4:(x % 8== 4)=false:=beq_eq_false_iff_ne.2 (by omega);have q5:(x % 8== 5)=false:=beq_eq_false_iff_ne.2 (by omega);have L:(x % 8== 6)=false:=beq_eq_false_iff_ne.2 (by omega);clear e8;go_wp2_with fail
  go_ret
  exact ⟨_,d,rfl,Ab (by rw[Aa g,M6];simp only[Aa b];simp),⟨by omega,by omega⟩,h1,f⟩
theorem LN (w:World)(k:Nat)(hk:k < 6):(Ib k).size≤10∧(w.alloc (.cells #[.string ⟨#[108,101,118,101,108]⟩,.string ⟨#[110,111,119]⟩,.string ⟨#[99,108,105,101,110,116]⟩,.string ⟨#[117,115,101,114]⟩,.string ⟨#[97,115,107,101,100]⟩,.string ⟨#[97,103,114,101,101,100]⟩] 9)).cell? ⟨w.heap.size,k,none⟩=some (.string (Ib k)):=by
 have h:=(Aj.new w #[.string ⟨#[108,101,118,101,108]⟩,.string ⟨#[110,111,119]⟩,.string ⟨#[99,108,105,101,110,116]⟩,.string ⟨#[117,115,101,114]⟩,.string ⟨#[97,115,107,101,100]⟩,.string ⟨#[97,103,114,101,101,100]⟩] 9).cell k
 match k,hk with
 | 0,_=>exact ⟨by decide,h⟩
 | 1,_=>exact ⟨by decide,h⟩
 | 2,_=>exact ⟨by decide,h⟩
 | 3,_=>exact ⟨by decide,h⟩
 | 4,_=>exact ⟨by decide,h⟩
 | 5,_=>exact ⟨by decide,h⟩
def LtI (L:List (ByteArray × Int)) (ty x:Int) (w1:World) (vi:Value) (wr:World):Prop:=
 ∃ i:Int,-1≤i∧i < (L.length:Int)∧vi= .int .i64 i∧Hid (Ej L ty x L.length=Ej L ty x (i+1).toNat)∧Below w1.heap.size w1 wr
theorem FV.let_at {B R f:Nat}{a:Option Addr}{n c:Nat}{zs:List Int}{wild:Bool}{p:Nat}{N:List Nd}{L:List (ByteArray × Int)}{nd:Value}{b:Option Addr}{i:Nat}{w:World}(h:FV B R f a n c zs wild p N L nd (.slice b L.length i) w)(j:Nat)(d:j < L.length):∃ g,b=some ⟨g,0,none⟩∧w.cell? ⟨g,j * 2,none⟩=some (.string L[j].1)∧w.cell? ⟨g,j * 2+1,none⟩=some (.int .i64 L[j].2)∧L[j].1.size≤1000:=by
 obtain ⟨k,l,C⟩:=h;obtain ⟨m,o,h1,h2⟩:=Af C.lets;simp only[Value.slice.injEq] at h1;obtain ⟨rfl,_,rfl⟩:=h1;obtain ⟨g,rfl,_,hc⟩:=h2 (by omega);obtain ⟨e1,e2⟩:=Us L j d;exact ⟨g,rfl,hc _ _ e1,hc _ _ e2,C.good.2 _ (List.getElem_mem d)⟩
theorem VB {L:List (ByteArray × Int)}{ty x:Int}{j:Nat}(a:j < L.length):Ej L ty x (j+1)=if L[j].2=ty∧((j:Int)+x) % 2=0 then some L[j].1 else Ej L ty x j:=by
 rw[Ej];simp[List.getD,a]
section
variable {zs : List Int} {L : List (ByteArray × Int)} {ty x : Int} {p p1 q0 : Nat} {N : List Nd} {y : Nd}
theorem Pg (X:Hid (nx zs p=(x,p1))){q:Nat}{M:List Nd}(hs:Snc q0 N y q M)(h:KB zs L ty x p1 y q0):Bh zs L ty p N q M:=by
 obtain ⟨rfl,rfl⟩:=hs;exact ⟨y,by rw[Aa X];exact h,rfl⟩
theorem Aa3 {s:ByteArray}(e:x % 3=2)(h:Ej L ty x L.length=some s):KB zs L ty x p ⟨5,0,s, [], []⟩ p:=by
 unfold KB;rw[if_pos ⟨e,by rw[h];rfl⟩];exact ⟨h.symm,rfl,rfl⟩
theorem Ph (e:x % 3=1)(ht:ty≠1):KB zs L ty x p ⟨5,0,Ib ((ty - 2) * 2+x / 3 % 2).toNat, [], []⟩ p:=by
 unfold KB;rw[if_neg (by omega),if_pos ⟨e,ht⟩];exact ⟨rfl,rfl⟩
theorem Pi (h0: ¬ (x % 3=2∧(Ej L 1 x L.length).isSome=true)):KB zs L 1 x p ⟨3,x / 3 % 2,⟨#[]⟩, [], []⟩ p:=by
 unfold KB;rw[if_neg h0,if_neg (by simp),if_pos rfl];exact ⟨rfl,rfl⟩
theorem AaH (h0: ¬ (x % 3=2∧(Ej L 3 x L.length).isSome=true))(h1: ¬ x % 3=1)(c: 250 < x):KB zs L 3 x p ⟨2,0,⟨#[]⟩, [], []⟩ p:=by
 unfold KB;rw[if_neg h0,if_neg (fun h=>h1 h.1),if_neg (by decide),if_pos rfl,if_pos c];exact ⟨rfl,rfl⟩
theorem AaI {s:ByteArray}{q:Nat}(h0: ¬ (x % 3=2∧(Ej L 3 x L.length).isSome=true))(h1: ¬ x % 3=1)(c: ¬ 250 < x)(h:Hid (Gf zs p=(s,q))):KB zs L 3 x p ⟨2,0,s, [], []⟩ q:=by
 unfold KB;rw[if_neg h0,if_neg (fun h=>h1 h.1),if_neg (by decide),if_pos rfl,if_neg c,Aa h];exact ⟨rfl,rfl⟩
theorem Xu {K:List ByteArray}{q:Nat}(h0: ¬ (x % 3=2∧(Ej L 4 x L.length).isSome=true))(h1: ¬ x % 3=1)(h:Hid (U4 zs p K q)):KB zs L 4 x p ⟨4,0,⟨#[]⟩,K, []⟩ q:=by
 unfold KB;rw[if_neg h0,if_neg (fun h=>h1 h.1),if_neg (by decide),if_neg (by decide),if_pos rfl];exact ⟨rfl,Aa h⟩
theorem Uu {r:Int}{q:Nat}(h0: ¬ (x % 3=2∧(Ej L 2 x L.length).isSome=true))(h1: ¬ x % 3=1)(c: 220 < x)(h:Hid (Vx zs p=(r,q))){v:Int}(a:Vy r=v):KB zs L 2 x p ⟨1,v,⟨#[]⟩, [], []⟩ q:=by
 unfold KB;rw[if_neg h0,if_neg (fun h=>h1 h.1),if_neg (by decide),if_neg (by decide),if_neg (by decide),if_pos c,Aa h,a];exact ⟨rfl,rfl⟩
theorem AaJ (h0: ¬ (x % 3=2∧(Ej L 2 x L.length).isSome=true))(h1: ¬ x % 3=1)(c: ¬ 220 < x):KB zs L 2 x p ⟨1,x / 3 % 6,⟨#[]⟩, [], []⟩ p:=by
 unfold KB;rw[if_neg h0,if_neg (fun h=>h1 h.1),if_neg (by decide),if_neg (by decide),if_neg (by decide),if_neg c];exact ⟨rfl,rfl⟩
end
theorem CT {B R ac:Nat}{a:Option Addr}{n c:Nat}{zs:List Int}{wild:Bool}{p:Nat}{N:List Nd}{L:List (ByteArray × Int)}{nd lt:Value}{w:World}(h:FV B R ac a n c zs wild p N L nd lt w)(hm:N.length+1≤1000000)(aQ:L.length≤100)(ty:Int)(ae:ty=1∨ty=2∨ty=3∨ty=4):
  Calls Tryz.prog 86 #[.pointer (some ⟨ac,0,none⟩),.int .i64 ty] w (Ev B R ac a n c zs wild N 1 (Bh zs L ty p N) L nd lt w):=by
 obtain ⟨aR,aS,aA,aB,aC,aD,ad,c1,c2,c3⟩:=h.cells;subst aD;go_enter Tryz.func86,Tryz.ntmps86
 go_wp2_with fail
 refine (Cd R a n c zs p w h.lt.2.2).mono ?_;rintro e l ⟨x,C,rfl,m,aT,aU,hr1,af⟩;have f:=h.touch af hr1;have J:Gk B R ac (.slice aA L.length aB) nd w nd l:=Gk.of_touch af h.lt.2.1.2 h.lt.1.2.2;clear ad c1 c2 c3 h af hr1;obtain ⟨aV,aW,aX,aY,aE,aF,ad,c1,c2,c3⟩:=f.cells;clear aC aE aF;dsimp only;rcases (show x % 3=2∨x % 3=1∨x % 3=0 by omega) with e3 | e3 | e3
 ·have q2:(x % 3== 2)=true:=beq_iff_eq.2 e3;have ao:(x % 3== 1)=false:=beq_eq_false_iff_ne.2 (by omega);have U:=Ab e3;have E:=Ab (show ¬ x % 3=1 by omega);clear e3;have ap:=Ab (show LtI L ty x l (.int .i64 ((L.length:Int) - 1)) l from ⟨(L.length:Int) - 1,by omega,by omega,rfl,Ab (by rw[show ((L.length:Int) - 1+1).toNat=L.length by omega]),BRN⟩);have aq:=Ab f;have aG:=Ab J;clear f J;go_wp2_with fail
  go_loopw [6] (fun ag wr=>LtI L ty x l ag wr) (fun ag _=>(intOf ag+1).toNat)
  case atStart=>exact Aa ap
  case round=>
   clear ap ad c1 c2 c3;obtain ⟨i,aZ,a0,rfl,ar,ah⟩:=hrel;have k:=(Aa aq).below ah;have F:=(Aa aG).trans (Gk.of_below (nd:=nd) ah (Aa aq).lt.1.1);obtain ⟨a1,a2,a3,a4,aH,aI,ad,c1,c2,c3⟩:=k.cells;clear aH aI;by_cases hi: 0≤i
   ·obtain ⟨j,rfl⟩:=Int.eq_ofNat_of_zero_le hi;have au:j < L.length:=by omega
    obtain ⟨g,rfl,aJ,d1,aK⟩:=k.let_at j au;have V:=Ab (show Ej L ty x L.length=if L[j].2=ty∧((j:Int)+x) % 2=0 then some L[j].1 else Ej L ty x j by rw[Aa ar,show ((j:Int)+1).toNat=j+1 by omega,VB au]);have av:=Ab (show (intOf (.int .i64 ((j:Int) - 1))+1).toNat < (intOf (.int .i64 (j:Int))+1).toNat by simp[intOf]);have aw:=Ab (show Ej L ty x L.length=Ej L ty x j→LtI L ty x l (.int .i64 ((j:Int) - 1)) wr from fun aL=>⟨(j:Int) - 1,by omega,by omega,rfl,Ab (by rw[aL,show ((j:Int) - 1+1).toNat=j by omega]),ah⟩);generalize L[j].1=ax at aJ aK V;generalize L[j].2=aM at d1 V;cases ay:(aM== ty)
    ·have W:=Ab (Aa aw (by rw[Aa V,if_neg (fun h=>beq_eq_false_iff_ne.1 ay h.1)]));go_wp2_with fail
     exact ⟨Aa W,Aa av⟩
    ·cases az:(((j:Int)+x) % 2== 0)
     ·have W:=Ab (Aa aw (by rw[Aa V,if_neg (fun h=>beq_eq_false_iff_ne.1 az h.2)]));go_wp2_with fail
      exact ⟨Aa W,Aa av⟩
     ·have W:=Ab (show Ej L ty x L.length=some ax by rw[Aa V,if_pos ⟨beq_iff_eq.1 ay,beq_iff_eq.1 az⟩]);go_wp2_with fail
      refine (AX k hm 5 0 ax (by omega) (by omega)).mono ?_;intro r o b;have d:=Ab (b.to F (Y:=Bh zs L ty p N) (fun q M hs=>Pg m hs (Aa3 (Aa U) (Aa W))) NLN);obtain ⟨t,u,v,rfl,-⟩:=b;dsimp only;go_wp2_with fail
      go_ret
      exact Aa d
   ·have a5: ¬ ((0 :Int)≤i):=hi;have z:=Ab (show ¬ (x % 3=2∧(Ej L ty x L.length).isSome=true) by rw[Aa ar,show (i+1).toNat=0 by omega];simp[Ej]);clear hi;rcases ae with rfl | rfl | rfl | rfl
    ·go_wp2_with fail
     refine (AX k hm 3 (x / 3 % 2) ⟨#[]⟩ (by omega) (by decide)).mono ?_;intro r o b;have d:=Ab (b.to F (Y:=Bh zs L 1 p N) (fun q M hs=>Pg m hs (Pi (Aa z))) NLN);obtain ⟨t,u,v,rfl,-⟩:=b;dsimp only;go_wp2_with fail
     go_ret
     exact Aa d
    ·by_cases X: 220 < x
     ·have O:=Ab X;go_wp2_with fail
      refine (Ut R a n c zs C _ k.lt.2.2).mono ?_;rintro r Z ⟨y,aa,rfl,H,⟨aN,aO⟩,K,A⟩;have P:=k.touch A K;have I:=F.trans (Gk.of_touch A k.lt.2.1.2 k.lt.1.2.2);dsimp only;by_cases hy:y < 0
      ·have S:=Ab hy;go_wp2_with fail
       refine (AX P hm 1 (-(y+1)) ⟨#[]⟩ (by omega) (by decide)).mono ?_;intro r o b;have d:=Ab (b.to I (Y:=Bh zs L 2 p N) (fun q M hs=>Pg m hs (Uu (Aa z) (Aa E) (by have:=Aa O;omega) H (by rw[Vy,if_pos (by have:=Aa S;omega)]))) NLN);obtain ⟨t,u,v,rfl,-⟩:=b;dsimp only;go_wp2_with fail
       go_ret
       exact Aa d
      ·have S:=Ab hy;go_wp2_with fail
       refine (AX P hm 1 y ⟨#[]⟩ (by omega) (by decide)).mono ?_;intro r o b;have d:=Ab (b.to I (Y:=Bh zs L 2 p N) (fun q M hs=>Pg m hs (Uu (Aa z) (Aa E) (by have:=Aa O;omega) H (by rw[Vy,if_neg (by have:=Aa S;omega)]))) NLN);obtain ⟨t,u,v,rfl,-⟩:=b;dsimp only;go_wp2_with fail
       go_ret
       exact Aa d
     ·have O:=Ab X;go_wp2_with fail
      refine (AX k hm 1 (x / 3 % 6) ⟨#[]⟩ (by omega) (by decide)).mono ?_;intro r o b;have d:=Ab (b.to F (Y:=Bh zs L 2 p N) (fun q M hs=>Pg m hs (AaJ (Aa z) (Aa E) (by have:=Aa O;omega))) NLN);obtain ⟨t,u,v,rfl,-⟩:=b;dsimp only;go_wp2_with fail
      go_ret
      exact Aa d
    ·by_cases ab: 250 < x
     ·have T:=Ab ab;go_wp2_with fail
      refine (AX k hm 2 0 ⟨#[]⟩ (by omega) (by decide)).mono ?_;intro r o b;have d:=Ab (b.to F (Y:=Bh zs L 3 p N) (fun q M hs=>Pg m hs (AaH (Aa z) (Aa E) (by have:=Aa T;omega))) NLN);obtain ⟨t,u,v,rfl,-⟩:=b;dsimp only;go_wp2_with fail
      go_ret
      exact Aa d
     ·have T:=Ab ab;go_wp2_with fail
      refine (Lj R a n c zs C _ k.lt.2.2).mono ?_;rintro r Z ⟨s,aa,rfl,H,aP,K,A⟩;have P:=k.touch A K;have I:=F.trans (Gk.of_touch A k.lt.2.1.2 k.lt.1.2.2);dsimp only;go_wp2_with fail
      refine (AX P hm 2 0 s (by omega) (by omega)).mono ?_;intro r o b;have d:=Ab (b.to I (Y:=Bh zs L 3 p N) (fun q M hs=>Pg m hs (AaI (Aa z) (Aa E) (by have:=Aa T;omega) H)) NLN);obtain ⟨t,u,v,rfl,-⟩:=b;dsimp only;go_wp2_with fail
      go_ret
      exact Aa d
    ·go_wp2_with fail
     refine (Uc R a n c zs C _ k.lt.2.2).mono ?_;rintro r Z ⟨ai,c5,aj,aa,rfl,H,ak,al,K,A⟩;have I:=F.trans (Gk.of_touch A k.lt.2.1.2 k.lt.1.2.2);dsimp only;go_wp2_with fail
     refine (QG k A K hm aj ai c5 al ak).mono ?_;intro r o b;have d:=Ab (b.to I (Y:=Bh zs L 4 p N) (fun q M hs=>Pg m hs (Xu (Aa z) (Aa E) H)) NLN);obtain ⟨t,u,v,rfl,-⟩:=b;dsimp only;go_wp2_with fail
     go_ret
     exact Aa d
 ·have q2:(x % 3== 2)=false:=beq_eq_false_iff_ne.2 (by omega);have ao:(x % 3== 1)=true:=beq_iff_eq.2 e3;have U:=Ab e3;have z:=Ab (show ¬ (x % 3=2∧(Ej L ty x L.length).isSome=true) from fun h=>by omega);clear e3;rcases ae with rfl | rfl | rfl | rfl
  ·go_wp2_with fail
   refine (AX f hm 3 (x / 3 % 2) ⟨#[]⟩ (by omega) (by decide)).mono ?_;intro r o b;have d:=Ab (b.to J (Y:=Bh zs L 1 p N) (fun q M hs=>Pg m hs (Pi (Aa z))) NLN);obtain ⟨t,u,v,rfl,-⟩:=b;dsimp only;go_wp2_with fail
   go_ret
   exact Aa d
  ·obtain ⟨hs,hc⟩:=LN l (x / 3 % 2).toNat (by omega);have Q:=Ab (show KB zs L 2 x C ⟨5,0,Ib (x / 3 % 2).toNat, [], []⟩ C by
    have:=Ph (zs:=zs) (L:=L) (p:=C) (ty:=2) (Aa U) (by decide);rw[show ((2 :Int) - 2) * 2+x / 3 % 2=(x / 3 % 2) by omega] at this;exact this)
   generalize Ib (x / 3 % 2).toNat=s at hs hc Q;have k:=f.below ((Below.refl l.heap.size l).alloc NLN (.cells #[.string ⟨#[108,101,118,101,108]⟩,.string ⟨#[110,111,119]⟩,.string ⟨#[99,108,105,101,110,116]⟩,.string ⟨#[117,115,101,114]⟩,.string ⟨#[97,115,107,101,100]⟩,.string ⟨#[97,103,114,101,101,100]⟩] 9));have F:=J.trans (Gk.of_below (nd:=nd) ((Below.refl l.heap.size l).alloc NLN (.cells #[.string ⟨#[108,101,118,101,108]⟩,.string ⟨#[110,111,119]⟩,.string ⟨#[99,108,105,101,110,116]⟩,.string ⟨#[117,115,101,114]⟩,.string ⟨#[97,115,107,101,100]⟩,.string ⟨#[97,103,114,101,101,100]⟩] 9)) f.lt.1.1);go_wp2_with fail
   refine (AX k hm 5 0 s (by omega) (by omega)).mono ?_;intro r o b;have d:=Ab (b.to F (Y:=Bh zs L 2 p N) (fun q M hs=>Pg m hs (Aa Q)) NLN);obtain ⟨t,u,v,rfl,-⟩:=b;dsimp only;go_wp2_with fail
   go_ret
   exact Aa d
  ·obtain ⟨hs,hc⟩:=LN l (2+x / 3 % 2).toNat (by omega);have Q:=Ab (show KB zs L 3 x C ⟨5,0,Ib (2+x / 3 % 2).toNat, [], []⟩ C by
    have:=Ph (zs:=zs) (L:=L) (p:=C) (ty:=3) (Aa U) (by decide);rw[show ((3 :Int) - 2) * 2+x / 3 % 2=(2+x / 3 % 2) by omega] at this;exact this)
   generalize Ib (2+x / 3 % 2).toNat=s at hs hc Q;have k:=f.below ((Below.refl l.heap.size l).alloc NLN (.cells #[.string ⟨#[108,101,118,101,108]⟩,.string ⟨#[110,111,119]⟩,.string ⟨#[99,108,105,101,110,116]⟩,.string ⟨#[117,115,101,114]⟩,.string ⟨#[97,115,107,101,100]⟩,.string ⟨#[97,103,114,101,101,100]⟩] 9));have F:=J.trans (Gk.of_below (nd:=nd) ((Below.refl l.heap.size l).alloc NLN (.cells #[.string ⟨#[108,101,118,101,108]⟩,.string ⟨#[110,111,119]⟩,.string ⟨#[99,108,105,101,110,116]⟩,.string ⟨#[117,115,101,114]⟩,.string ⟨#[97,115,107,101,100]⟩,.string ⟨#[97,103,114,101,101,100]⟩] 9)) f.lt.1.1);go_wp2_with fail
   refine (AX k hm 5 0 s (by omega) (by omega)).mono ?_;intro r o b;have d:=Ab (b.to F (Y:=Bh zs L 3 p N) (fun q M hs=>Pg m hs (Aa Q)) NLN);obtain ⟨t,u,v,rfl,-⟩:=b;dsimp only;go_wp2_with fail
   go_ret
   exact Aa d
  ·obtain ⟨hs,hc⟩:=LN l (4+x / 3 % 2).toNat (by omega);have Q:=Ab (show KB zs L 4 x C ⟨5,0,Ib (4+x / 3 % 2).toNat, [], []⟩ C by
    have:=Ph (zs:=zs) (L:=L) (p:=C) (ty:=4) (Aa U) (by decide);rw[show ((4 :Int) - 2) * 2+x / 3 % 2=(4+x / 3 % 2) by omega] at this;exact this)
   generalize Ib (4+x / 3 % 2).toNat=s at hs hc Q;have k:=f.below ((Below.refl l.heap.size l).alloc NLN (.cells #[.string ⟨#[108,101,118,101,108]⟩,.string ⟨#[110,111,119]⟩,.string ⟨#[99,108,105,101,110,116]⟩,.string ⟨#[117,115,101,114]⟩,.string ⟨#[97,115,107,101,100]⟩,.string ⟨#[97,103,114,101,101,100]⟩] 9));have F:=J.trans (Gk.of_below (nd:=nd) ((Below.refl l.heap.size l).alloc NLN (.cells #[.string ⟨#[108,101,118,101,108]⟩,.string ⟨#[110,111,119]⟩,.string ⟨#[99,108,105,101,110,116]⟩,.string ⟨#[117,115,101,114]⟩,.string ⟨#[97,115,107,101,100]⟩,.string ⟨#[97,103,114,101,101,100]⟩] 9)) f.lt.1.1);go_wp2_with fail
   refine (AX k hm 5 0 s (by omega) (by omega)).mono ?_;intro r o b;have d:=Ab (b.to F (Y:=Bh zs L 4 p N) (fun q M hs=>Pg m hs (Aa Q)) NLN);obtain ⟨t,u,v,rfl,-⟩:=b;dsimp only;go_wp2_with fail
   go_ret
   exact Aa d
 ·have q2:(x % 3== 2)=false:=beq_eq_false_iff_ne.2 (by omega);have ao:(x % 3== 1)=false:=beq_eq_false_iff_ne.2 (by omega);have E:=Ab (show ¬ x % 3=1 by omega);have z:=Ab (show ¬ (x % 3=2∧(Ej L ty x L.length).isSome=true) from fun h=>by omega);clear e3;rcases ae with rfl | rfl | rfl | rfl
  ·go_wp2_with fail
   refine (AX f hm 3 (x / 3 % 2) ⟨#[]⟩ (by omega) (by decide)).mono ?_;intro r o b;have d:=Ab (b.to J (Y:=Bh zs L 1 p N) (fun q M hs=>Pg m hs (Pi (Aa z))) NLN);obtain ⟨t,u,v,rfl,-⟩:=b;dsimp only;go_wp2_with fail
   go_ret
   exact Aa d
  ·by_cases X: 220 < x
   ·have O:=Ab X;go_wp2_with fail
    refine (Ut R a n c zs C _ f.lt.2.2).mono ?_;rintro r Z ⟨y,aa,rfl,H,⟨aN,aO⟩,K,A⟩;have P:=f.touch A K;have I:=J.trans (Gk.of_touch A f.lt.2.1.2 f.lt.1.2.2);dsimp only;by_cases hy:y < 0
    ·have S:=Ab hy;go_wp2_with fail
     refine (AX P hm 1 (-(y+1)) ⟨#[]⟩ (by omega) (by decide)).mono ?_;intro r o b;have d:=Ab (b.to I (Y:=Bh zs L 2 p N) (fun q M hs=>Pg m hs (Uu (Aa z) (Aa E) (by have:=Aa O;omega) H (by rw[Vy,if_pos (by have:=Aa S;omega)]))) NLN);obtain ⟨t,u,v,rfl,-⟩:=b;dsimp only;go_wp2_with fail
     go_ret
     exact Aa d
    ·have S:=Ab hy;go_wp2_with fail
     refine (AX P hm 1 y ⟨#[]⟩ (by omega) (by decide)).mono ?_;intro r o b;have d:=Ab (b.to I (Y:=Bh zs L 2 p N) (fun q M hs=>Pg m hs (Uu (Aa z) (Aa E) (by have:=Aa O;omega) H (by rw[Vy,if_neg (by have:=Aa S;omega)]))) NLN);obtain ⟨t,u,v,rfl,-⟩:=b;dsimp only;go_wp2_with fail
     go_ret
     exact Aa d
   ·have O:=Ab X;go_wp2_with fail
    refine (AX f hm 1 (x / 3 % 6) ⟨#[]⟩ (by omega) (by decide)).mono ?_;intro r o b;have d:=Ab (b.to J (Y:=Bh zs L 2 p N) (fun q M hs=>Pg m hs (AaJ (Aa z) (Aa E) (by have:=Aa O;omega))) NLN);obtain ⟨t,u,v,rfl,-⟩:=b;dsimp only;go_wp2_with fail
    go_ret
    exact Aa d
  ·by_cases ab: 250 < x
   ·have T:=Ab ab;go_wp2_with fail
    refine (AX f hm 2 0 ⟨#[]⟩ (by omega) (by decide)).mono ?_;intro r o b;have d:=Ab (b.to J (Y:=Bh zs L 3 p N) (fun q M hs=>Pg m hs (AaH (Aa z) (Aa E) (by have:=Aa T;omega))) NLN);obtain ⟨t,u,v,rfl,-⟩:=b;dsimp only;go_wp2_with fail
    go_ret
    exact Aa d
   ·have T:=Ab ab;go_wp2_with fail
    refine (Lj R a n c zs C _ f.lt.2.2).mono ?_;rintro r Z ⟨s,aa,rfl,H,aP,K,A⟩;have P:=f.touch A K;have I:=J.trans (Gk.of_touch A f.lt.2.1.2 f.lt.1.2.2);dsimp only;go_wp2_with fail
    refine (AX P hm 2 0 s (by omega) (by omega)).mono ?_;intro r o b;have d:=Ab (b.to I (Y:=Bh zs L 3 p N) (fun q M hs=>Pg m hs (AaI (Aa z) (Aa E) (by have:=Aa T;omega) H)) NLN);obtain ⟨t,u,v,rfl,-⟩:=b;dsimp only;go_wp2_with fail
    go_ret
    exact Aa d
  ·go_wp2_with fail
   refine (Uc R a n c zs C _ f.lt.2.2).mono ?_;rintro r Z ⟨ai,c5,aj,aa,rfl,H,ak,al,K,A⟩;have I:=J.trans (Gk.of_touch A f.lt.2.1.2 f.lt.1.2.2);dsimp only;go_wp2_with fail
   refine (QG f A K hm aj ai c5 al ak).mono ?_;intro r o b;have d:=Ab (b.to I (Y:=Bh zs L 4 p N) (fun q M hs=>Pg m hs (Xu (Aa z) (Aa E) H)) NLN);obtain ⟨t,u,v,rfl,-⟩:=b;dsimp only;go_wp2_with fail
   go_ret
   exact Aa d
end Go.Proofs.YtoplnhndilmlcaaGreatDoor
namespace Go.Proofs.YtoplnhndilmlcaaGreatDoor
set_option maxHeartbeats 3200000
open Go.RowKit
set_option linter.unusedVariables false
theorem Xv (R:Nat)(a:Option Addr)(n c:Nat)(zs:List Int)(p:Nat)(w:World)(h:H6 w R a n c zs p):
  Calls Tryz.prog 49 #[.pointer (some ⟨R,0,none⟩)] w fun e w'=>∃ r:Int,e= .returned (.int .i64 r)∧Hid (r=(zs.length:Int) - p)∧0≤r∧r≤1048576∧Below w.heap.size w w':=by
 have d:=h.row.cell 0;have c1:=h.row.cell 1;have h1:=h.le;have h2:=h.small;have b:=Ab h.len;go_enter Tryz.func49,Tryz.ntmps49
 go_wp2_with fail
 go_quiet (fail)
 go_wp2_with fail
 go_ret
 exact ⟨_,rfl,Ab (by rw[Aa b]),by omega,by omega,⟨rfl,rfl,rfl,NLN,fun _ _=>rfl⟩⟩
theorem DQ {B R d:Nat}{a:Option Addr}{n c:Nat}{zs:List Int}{wild:Bool}{p:Nat}{N:List Nd}{L:List (ByteArray × Int)}{nd lt:Value}{w:World}(h:FV B R d a n c zs wild p N L nd lt w)(hm:N.length+1≤1000000)(ks:List Int)(b:Array Value)(j:Nat)(g:b.toList=At ks)(i:b.size=j)(h3:j≤3)(op:Int):
  Calls Tryz.prog 87 #[.pointer (some ⟨d,0,none⟩),.int .i64 op,.slice (some ⟨w.heap.size,0,none⟩) j j] (w.alloc (.cells b 3)) (Ev B R d a n c zs wild N 1 (Snc p N (YV op ks)) L nd lt w):=by
 have k:=(Below.refl w.heap.size w).alloc NLN (.cells b 3);have l:Gk B R d lt nd w nd (w.alloc (.cells b 3)):=Gk.of_below k h.lt.1.1;go_enter Tryz.func87,Tryz.ntmps87
 go_wp2_with fail
 refine (VA h hm ks b j g i h3 op _ BRN).mono ?_;intro r o f;have m:=Ab (f.to l (fun _ _ h=>h) NLN);obtain ⟨q,s,t,rfl,-⟩:=f;dsimp only;go_wp2_with fail
 go_ret
 exact Aa m
def YW:Nat→Nat
 | 0=>1
 | d+1=>3 * YW d+1
def ExD (B R gb:Nat) (a:Option Addr) (n c:Nat) (zs:List Int) (wild:Bool) (L:List (ByteArray × Int)) (lt:Value) (d:Nat):Prop:=
 ∀ (ty:Int) (p:Nat) (N:List Nd) (nd:Value) (w:World),(ty=1∨ty=2∨ty=3∨ty=4)→N.length+YW d≤1000000→FV B R gb a n c zs wild p N L nd lt w→Calls Tryz.prog 50 #[.pointer (some ⟨gb,0,none⟩),.int .i64 ty,.int .i64 (d:Int)] w (Ev B R gb a n c zs wild N (YW d) (Dj zs L wild d ty p N) L nd lt w)
def TwX (E:Drw) (op t1 t2:Int) (p:Nat) (N:List Nd) (q:Nat) (M:List Nd):Prop:=∃ q1 N1 N2,E t1 p N q1 N1∧E t2 q1 N1 q N2∧M=N2 ++ [YV op [Ay N1,Ay N2]]
theorem BE {B R g:Nat}{a:Option Addr}{n c d:Nat}{zs:List Int}{wild:Bool}{p:Nat}{N:List Nd}{L:List (ByteArray × Int)}{nd lt:Value}{w:World}(k:ExD B R g a n c zs wild L lt d)(h:FV B R g a n c zs wild p N L nd lt w)(hm:N.length+2 * YW d+1≤1000000)(op b f:Int)(h1:b=1∨b=2∨b=3∨b=4)(h2:f=1∨f=2∨f=3∨f=4):
  Calls Tryz.prog 88 #[.pointer (some ⟨g,0,none⟩),.int .i64 op,.int .i64 b,.int .i64 f,.int .i64 (d:Int)] w (Ev B R g a n c zs wild N (2 * YW d+1) (TwX (Dj zs L wild d) op b f p N) L nd lt w):=by
 have i:=Ab k;unfold ExD at i;generalize YW d=s at hm i ⊢;generalize Dj zs L wild d=t at i ⊢;clear k;go_enter Tryz.func88,Tryz.ntmps88
 go_wp2_with fail
 refine (Aa i b p N nd w h1 (by omega) h).mono ?_;rintro r u ⟨l,j,v,rfl,x,a1,a2,y,z⟩;dsimp only;go_wp2_with fail
 refine (Aa i f l j v u h2 (by omega) y).mono ?_;rintro r O ⟨q2,m,P,rfl,A,a3,a4,C,E⟩;have F:=z.trans E;dsimp only;go_wp2_with fail
 refine (DQ C (by omega) [Ay j,Ay m] _ 2 rfl rfl (by omega) op).mono ?_;rintro r H ⟨q3,o,I,rfl,q,a5,a6,J,K⟩;have M:=Ab (show Ev B R g a n c zs wild N (2 * s+1) (TwX t op b f p N) L nd lt w (.returned (.int .i64 (Ay o))) H from ⟨q3,o,I,rfl,Ab ⟨l,j,m,Aa x,by rw[(Aa q).1];exact Aa A,(Aa q).2⟩,by omega,by omega,J,F.trans K⟩);dsimp only;go_wp2_with fail
 go_ret
 exact Aa M
section
variable {zs : List Int} {L : List (ByteArray × Int)} {wild : Bool} {d : Nat} {ty ty' x : Int} {p p1 q : Nat} {N M : List Nd} {Lf E : Drw}
theorem QH (h:zs.length≤p∨300 < N.length)(a:Bh zs L ty p N q M):Dj zs L wild (d+1) ty p N q M:=by
 unfold Dj;rw[if_pos h];exact a
theorem Xw (h: ¬ (zs.length≤p∨300 < N.length))(X:Hid (nx zs p=(x,p1)))(ht:(if wild=true∧x=201 then 1+ty % 4 else ty)=ty')(hy:NO (Bh zs L) (Dj zs L wild d) ty' x p1 N q M):Dj zs L wild (d+1) ty p N q M:=by
 unfold Dj;rw[if_neg h,Aa X];dsimp only;rw[ht];exact hy
theorem IZ (h:x % 8 < 2)(a:Lf ty p N q M):NO Lf E ty x p N q M:=by
 unfold NO;rw[if_neg (by omega),if_pos h];exact a
theorem QI (h7: ¬ x % 8=7)(h2: ¬ x % 8 < 2)(hs:DI ty x=none)(a:Lf ty p N q M):NO Lf E ty x p N q M:=by
 unfold NO;rw[if_neg h7,if_neg h2,hs];exact a
theorem BH {op a b:Int}(h7: ¬ x % 8=7)(h2: ¬ x % 8 < 2)(hs:DI ty x=some (op,a,some b))(c:TwX E op a b p N q M):NO Lf E ty x p N q M:=by
 unfold NO;rw[if_neg h7,if_neg h2,hs];exact c
theorem GY {op b:Int}{c:Nat}{a:List Nd}(h7: ¬ x % 8=7)(h2: ¬ x % 8 < 2)(hs:DI ty x=some (op,b,none))(h1:E b p N c a)(d:Snc c a (YV op [Ay a]) q M):NO Lf E ty x p N q M:=by
 unfold NO;rw[if_neg h7,if_neg h2,hs];obtain ⟨rfl,rfl⟩:=d;exact ⟨a,h1,rfl⟩
theorem Xx {d q2 q3:Nat}{a b c:List Nd}(h7:x % 8=7)(h1:E 1 p N d a)(h2:E ty d a q2 b)(h3:E ty q2 b q3 c)(f:Snc q3 c (YV 27 [Ay a,Ay b,Ay c]) q M):NO Lf E ty x p N q M:=by
 unfold NO;rw[if_pos h7];obtain ⟨rfl,rfl⟩:=f;exact ⟨d,a,q2,b,c,h1,h2,h3,rfl⟩
end
end Go.Proofs.YtoplnhndilmlcaaGreatDoor
