/-
  Drawn policies: a node is added (written by mkktc.py). Own work.
-/
import Derived.Test.YtcpdodmoheebaaaGreatDoorKTB
import Derived.Test.YtcpdodmoheebaaaGreatDoorNUC
namespace Go.Proofs.YtcpdodmoheebaaaGreatDoor
set_option maxRecDepth 100000
set_option maxHeartbeats 6400000
open Go.RowKit
set_option linter.unusedVariables false
theorem EZ {w:World}{B q i:Nat}{a:Option Addr}{n c:Nat}{N:List Nd}{L:List (ByteArray × Int)}{nd lt:Value}{s t:List Value}{C:Bool}(F:IC w B q i a n c N L nd lt s t C)(aB:N.length+1≤1000000)
  (x:Nd)(hx:My x)(b:Option Addr)(d:Nat)(f:Option Addr)(g:Nat)(hu:w.ownsRow B 9 1 (.slice b x.names.length d) x.names.length (x.names.map Value.string))(G:w.ownsRow B 3 1 (.slice f x.kids.length g) x.kids.length (Bk x.kids))
  (S:∀ j,(aj:j < s.length)→∀ m,s[j].ownBlock=some m→(Value.slice b x.names.length d).ownBlock≠some m)(T:∀ j,(aj:j < t.length)→∀ m,t[j].ownBlock=some m→(Value.slice f x.kids.length g).ownBlock≠some m):
  Calls Tryz.prog 65 #[.pointer (some ⟨i,0,none⟩),.agg #[.int .i64 x.op,.int .i64 x.num,.string x.text,.slice b x.names.length d,.slice f x.kids.length g]] w fun r w'=>r= .returned (.int .i64 (N.length:Int))∧∃ U,IC w' B q i a n c (N ++ [x]) L U lt (s ++ [.slice b x.names.length d]) (t ++ [.slice f x.kids.length g]) C∧Gk B q i lt nd w U w':=by
 have ak:=F.row.lt
 have V:B≤w.heap.size:=by have:=F.low.1.1;omega
 obtain ⟨al,ao,ap,aq,ar⟩:=info_parts L6
 have W:=Ab (And.intro S T)
 have au:=Ab hx
 have v:=(Below.refl w.heap.size w).alloc (Nat.le_refl _) (.cells #[.int .i64 x.op,.int .i64 x.num,.string x.text,.slice b x.names.length d,.slice f x.kids.length g] 99)
 have D:=Ao.new w #[.int .i64 x.op,.int .i64 x.num,.string x.text,.slice b x.names.length d,.slice f x.kids.length g] 99
 have l:=F.below v
 have H:Gk B q i lt nd w nd (w.alloc (.cells #[.int .i64 x.op,.int .i64 x.num,.string x.text,.slice b x.names.length d,.slice f x.kids.length g] 99)):=Gk.of_below v V
 have I:=Ai (w':=w.alloc (.cells #[.int .i64 x.op,.int .i64 x.num,.string x.text,.slice b x.names.length d,.slice f x.kids.length g] 99)) hu (fun m J=>v.block m (hu.lt m J).2)
 have K:=Ai (w':=w.alloc (.cells #[.int .i64 x.op,.int .i64 x.num,.string x.text,.slice b x.names.length d,.slice f x.kids.length g] 99)) G (fun m J=>v.block m (G.lt m J).2)
 have X:w.heap.size < (w.alloc (.cells #[.int .i64 x.op,.int .i64 x.num,.string x.text,.slice b x.names.length d,.slice f x.kids.length g] 99)).heap.size:=by simp
 clear S T hu G v hx
 go_enter Tryz.func65,Tryz.ntmps65
 go_wp2_with fail
 generalize w.alloc (.cells #[.int .i64 x.op,.int .i64 x.num,.string x.text,.slice b x.names.length d,.slice f x.kids.length g] 99)=h at l H I K D X ⊢
 generalize w.heap.size=y at D X ak V ⊢
 obtain ⟨z,A,o,-⟩:=Av l.nodes.own
 have M:=Ab o
 have o:=Aa M
 obtain ⟨Y,e1,e2,e3,e4⟩:=Mq D
 have O:h.cell? ⟨i,1,none⟩=some (nd):=l.row.cell 1
 rw [o] at O
 have Z:=l.row.frozen 1
 have aa:=World.news_of_block (heap_alloc_new h (.cells #[.int .i64 x.op,.int .i64 x.num,.string x.text,.slice b x.names.length d,.slice f x.kids.length g] 99))
 have av:h.drew.cell? ⟨i,1,none⟩=some (.slice z (N).length A)∧h.drew.frozen? ⟨i,1,none⟩=false:=⟨O,Z⟩
 have d1:h.drew.cell? ⟨y,0,none⟩=some (.int .i64 x.op):=Y
 have d2:h.drew.cell? ⟨y,1,none⟩=some (.int .i64 x.num):=e1
 have d3:h.drew.cell? ⟨y,2,none⟩=some (.string x.text):=e2
 have d4:h.drew.cell? ⟨y,3,none⟩=some (.slice b x.names.length d):=e3
 have d5:h.drew.cell? ⟨y,4,none⟩=some (.slice f x.kids.length g):=e4
 have ab:(h.alloc (.cells #[.int .i64 x.op,.int .i64 x.num,.string x.text,.slice b x.names.length d,.slice f x.kids.length g] 99)).drew.ownsRow B 99 5 (.slice z (N).length A) (N).length (GT (N) (s) (t)):=by
  have:=l.nodes.own
  rw [o] at this
  exact (World.ownsRow.alloc this _).drew
 have E:Ao (h.alloc (.cells #[.int .i64 x.op,.int .i64 x.num,.string x.text,.slice b x.names.length d,.slice f x.kids.length g] 99)).drew i #[.pointer (some ⟨q,0,none⟩),nd,lt,.bool C] 69:=⟨(l.row.alloc (.cells #[.int .i64 x.op,.int .i64 x.num,.string x.text,.slice b x.names.length d,.slice f x.kids.length g] 99)).out⟩
 have aw:(h.alloc (.cells #[.int .i64 x.op,.int .i64 x.num,.string x.text,.slice b x.names.length d,.slice f x.kids.length g] 99)).drew.cell? ⟨i,1,none⟩=some (.slice z (N).length A):=by
  have:=E.cell 1
  rw [o] at this
  exact this
 have ac:(Value.slice z (N).length A).ownBlock≠some i:=by rw [← o];exact Af l.row l.nodes.own (by decide)
 have ax:B≤h.heap.size:=by have:=l.row.lt;have:=l.low.1.1;omega
 clear Y e1 e2 e3 e4 O Z o
 go_region_law (refine step_append_lies _ rfl _ _ 46 rfl B 99 al (.agg #[.int .i64 0,.int .i64 0,.string ByteArray.empty,.slice none 0 0,.slice none 0 0]) 5 80 Tryz.underlying46 ao ap aq ar rfl (by decide) (.slice z (N).length A) (N).length (GT (N) (s) (t)) rfl ab ⟨h.heap.size,0,none⟩ 1 1 [.int .i64 x.op,.int .i64 x.num,.string x.text,.slice b x.names.length d,.slice f x.kids.length g] rfl rfl aa (by intro u hu;simp at hu;rcases hu with rfl | rfl | rfl | rfl | rfl <;> rfl) (by decide) (by unfold maxLen;omega) (by omega) (by simp;omega) _ rfl ?_;intro g7 c7 P ad p ae ay;have Q:Ao P i #[.pointer (some ⟨q,0,none⟩),nd,lt,.bool C] 69:=⟨(p.block i E.lt (fun e=>ac e.symm)).trans E.out⟩;have af:=Q.cell 1;have az:=Q.frozen 1)
 all_goals
  have ag:(h.alloc (.cells #[.int .i64 x.op,.int .i64 x.num,.string x.text,.slice b x.names.length d,.slice f x.kids.length g] 99)).grownBy P (nd).ownBlock:=by rw [Aa M];exact ⟨p.os,p.tape,p.output,p.size,p.block⟩
  obtain ⟨R,ah⟩:=l.pushN (g7:=g7) (c7:=c7) (x:=x) (u:= .slice b x.names.length d) (k:= .slice f x.kids.length g) _ ax I K (Aa W).1 (Aa W).2 (Aa au) ag ad (by rw [Aa M];exact ae.imp id (fun e=>by rw [e];show (h.alloc _).heap.size=_;simp))
  have ai:=H.trans ah
  clear ad p ae ay Q E aw av d1 d2 d3 d4 d5 aa ab ag ah
  clear af az
  generalize P.setCell ⟨i,1,none⟩ (.slice (some ⟨g7,0,none⟩) ((N).length+1) c7)=aA at R ai ⊢
  clear ac D l H I K
  have af:aA.cell? ⟨i,1,none⟩=some (.slice (some ⟨g7,0,none⟩) ((N).length+1) c7):=R.row.cell 1
  go_wp2_with fail
  go_ret
  exact ⟨by simp,_,R,ai⟩
def Db (B R gb:Nat) (a:Option Addr) (n c m:Nat) (L:List (ByteArray × Int)) (nd lt:Value) (w:World):Prop:=
 ∃ N nv kv wild,IC w B R gb a n c N L nd lt nv kv wild∧N.length=m
def BY (B R gb:Nat) (a:Option Addr) (n c m top:Nat) (L:List (ByteArray × Int)) (nd lt:Value) (w:World) (r:Ending) (w':World):Prop:=
 (∃ k:Int,r= .returned (.int .i64 k))∧∃ m' nd',m≤m'∧m'≤m+top∧Db B R gb a n c m' L nd' lt w'∧Gk B R gb lt nd w nd' w'
theorem Db.below {B b d:Nat}{a:Option Addr}{n c m:Nat}{L:List (ByteArray × Int)}{nd lt:Value}{w w':World}(h:Db B b d a n c m L nd lt w)(f:Below w.heap.size w w'):Db B b d a n c m L nd lt w':=by
 obtain ⟨N,g,i,j,C,e⟩:=h
 exact ⟨N,g,i,j,C.below f,e⟩
theorem Db.touch {B b d:Nat}{a:Option Addr}{n c m:Nat}{L:List (ByteArray × Int)}{nd lt:Value}{w w':World}(h:Db B b d a n c m L nd lt w)(t:As b (b+1) w w')(f:Ba w' b a n c):Db B b d a n c m L nd lt w':=by
 obtain ⟨N,g,i,j,C,e⟩:=h
 exact ⟨N,g,i,j,C.touch t f,e⟩
theorem Db.lt {B b d:Nat}{a:Option Addr}{n c m:Nat}{L:List (ByteArray × Int)}{nd lt:Value}{w:World}(h:Db B b d a n c m L nd lt w):(B≤w.heap.size∧d < w.heap.size∧b < w.heap.size)∧(B≤d∧B≤b)∧Ba w b a n c:=by
 obtain ⟨N,f,g,i,C,e⟩:=h
 have h1:=C.row.lt
 have h2:=C.rd.lt
 have h3:=C.low.1
 exact ⟨⟨by omega,h1,h2⟩,h3,C.rd⟩
theorem Db.cells {B k b:Nat}{a:Option Addr}{n c m:Nat}{L:List (ByteArray × Int)}{nd lt:Value}{w:World}(h:Db B k b a n c m L nd lt w):∃ d f g i j,nd= .slice d m f∧lt= .slice g L.length i∧w.cell? ⟨b,0,none⟩=some (.pointer (some ⟨k,0,none⟩))∧w.cell? ⟨b,1,none⟩=some nd∧w.cell? ⟨b,2,none⟩=some lt∧w.cell? ⟨b,3,none⟩=some (.bool j):=by
 obtain ⟨N,l,o,j,C,e⟩:=h
 obtain ⟨d,f,h1,-⟩:=Av C.nodes.own
 obtain ⟨g,i,h2,-⟩:=Av C.lets
 exact ⟨d,f,g,i,j,by rw [h1,e],h2,C.row.cell 0,C.row.cell 1,C.row.cell 2,C.row.cell 3⟩
theorem AB {B f b:Nat}{a:Option Addr}{n c m:Nat}{L:List (ByteArray × Int)}{nd lt:Value}{w:World}(h:Db B f b a n c m L nd lt w)(hm:m+1≤1000000)(op num:Int)(d:ByteArray)(g:num≤9223372036854775807)(i:d.size≤1048576):
  Calls Tryz.prog 65 #[.pointer (some ⟨b,0,none⟩),.agg #[.int .i64 op,.int .i64 num,.string d,.slice none 0 0,.slice none 0 0]] w (BY B f b a n c m 1 L nd lt w):=by
 obtain ⟨N,u,v,x,C,e⟩:=h
 refine (EZ C (by omega) ⟨op,num,d, [], []⟩ ⟨⟨by simp,by simp,fun s hs=>by cases hs⟩,i,g⟩ none 0 none 0 (World.ownsRow_nil _ _ _ _) (World.ownsRow_nil _ _ _ _) (fun j k l o e=>by cases e) (fun j k l o e=>by cases e)).mono ?_
 rintro r w' ⟨rfl,p,q,t⟩
 exact ⟨⟨_,rfl⟩,m+1,p,by omega,by omega,⟨_,_,_,_,q,by simp [e]⟩,t⟩
theorem GU {B b g:Nat}{a:Option Addr}{n c m:Nat}{L:List (ByteArray × Int)}{nd lt:Value}{d w:World}(h0:Db B b g a n c m L nd lt d)(p:As b (b+1) d w)(q:Ba w b a n c)(hm:m+1≤1000000)(K:List ByteArray)(x:Option Addr)(h:Nat)(i:Bj w d.heap.size x K h)(hl:K.length≤64):
  Calls Tryz.prog 65 #[.pointer (some ⟨g,0,none⟩),.agg #[.int .i64 4,.int .i64 0,.string ⟨#[]⟩,.slice x K.length h,.slice none 0 0]] w (BY B b g a n c m 1 L nd lt w):=by
 obtain ⟨N,z,A,D,f,e⟩:=h0
 have C:=f.touch p q
 have t:B≤d.heap.size:=by have:=f.row.lt;have:=f.low.1.1;omega
 refine (EZ C (by omega) ⟨4,0,⟨#[]⟩,K, []⟩ ⟨⟨by show K.length≤1048576;omega,by simp,fun s hs=>by have:=i.small s hs;unfold maxLen;omega⟩,by show (⟨#[]⟩:ByteArray).size≤1048576;decide,by show (0 :Int)≤9223372036854775807;decide⟩ x h none 0 (GQ i.own t) (World.ownsRow_nil _ _ _ _) (fun j l k o e=>?_) (fun j l k o e=>by cases e)).mono ?_
 ·have h1:=(f.nodes.lts.2.1 j l k o).2
  have h2:=(i.own.lt k e).1
  omega
 ·rintro r w' ⟨rfl,u,v,y⟩
  exact ⟨⟨_,rfl⟩,m+1,u,by omega,by omega,⟨_,_,_,_,v,by simp [e]⟩,y⟩
theorem JL (w:World)(b:List Int)(a:Array Value)(n:Nat)(c:a.toList=Bk b)(h:a.size=n)(hm:n≤maxLen):(w.alloc (.cells a 3)).ownsRow w.heap.size 3 1 (.slice (some ⟨w.heap.size,0,none⟩) n n) n (Bk b):=by
 refine ⟨by rw [← c];simp [h],.inr ⟨w.heap.size,n,a,rfl,Nat.le_refl _,heap_alloc_new w _,Nat.le_refl _,hm,by omega,?_⟩⟩
 rw [Nat.mul_one,List.take_of_length_le (by simp;omega),c]
theorem JM {B p o:Nat}{a:Option Addr}{n c m:Nat}{L:List (ByteArray × Int)}{nd lt:Value}{w:World}(h:Db B p o a n c m L nd lt w)(hm:m+1≤1000000)(b:List Int)(d:Array Value)(j:Nat)(q:d.toList=Bk b)(g:d.size=j)(h3:j≤3)(op:Int)(i:World)(t:Below (w.alloc (.cells d 3)).heap.size (w.alloc (.cells d 3)) i):
  Calls Tryz.prog 65 #[.pointer (some ⟨o,0,none⟩),.agg #[.int .i64 op,.int .i64 0,.string ⟨#[]⟩,.slice none 0 0,.slice (some ⟨w.heap.size,0,none⟩) j j]] i (BY B p o a n c m 1 L nd lt i):=by
 obtain ⟨N,F,G,H,k,e⟩:=h
 have v:=(Below.refl w.heap.size w).alloc (Nat.le_refl _) (.cells d 3)
 have C:=(k.below v).below t
 have x:B≤w.heap.size:=by have:=k.row.lt;have:=k.low.1.1;omega
 have y:b.length=j:=by
  have:=congrArg List.length q
  simp [Bk] at this
  omega
 subst y
 have u:=JL w b d b.length q g (by unfold maxLen;omega)
 have z:=Ai (w':=i) u (fun f l=>t.block f (u.lt f l).2)
 refine (EZ C (by omega) ⟨op,0,⟨#[]⟩, [],b⟩ ⟨⟨by simp,by show b.length≤1048576;omega,fun s hs=>by cases hs⟩,by show (⟨#[]⟩:ByteArray).size≤1048576;decide,by show (0 :Int)≤9223372036854775807;decide⟩ none 0 (some ⟨w.heap.size,0,none⟩) b.length (World.ownsRow_nil _ _ _ _) (GQ z x) (fun j g f l e=>by cases e) (fun j g f l e=>?_)).mono ?_
 ·have h1:w.heap.size=f:=by simpa [Value.ownBlock] using e
  have:=(k.nodes.lts.2.2 j g f l).2
  omega
 ·rintro r w' ⟨rfl,A,D,E⟩
  exact ⟨⟨_,rfl⟩,m+1,A,by omega,by omega,⟨_,_,_,_,D,by simp [e]⟩,E⟩
end Go.Proofs.YtcpdodmoheebaaaGreatDoor
