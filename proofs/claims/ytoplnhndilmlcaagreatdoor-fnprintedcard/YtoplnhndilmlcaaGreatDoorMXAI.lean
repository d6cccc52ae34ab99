/-
  NUA, NUB, NUD. Own work.
-/
import Derived.Test.YtoplnhndilmlcaaGreatDoorMXAD
import Derived.Test.YtoplnhndilmlcaaGreatDoorMXAG
import Derived.Test.YtoplnhndilmlcaaGreatDoorMXAB
import Derived.Deep.AppendLies
import Derived.Deep.RegionLaw
namespace Go.Proofs.YtoplnhndilmlcaaGreatDoor
set_option maxRecDepth 100000
set_option maxHeartbeats 1600000
open Go.RowKit
set_option linter.unusedVariables false
def VI:Ex→Nd
 | .int _ n=>⟨1,n,⟨#[]⟩, [], []⟩
 | .text _ s=>⟨2,0,s, [], []⟩
 | .bool _ b=>⟨3,if b then 1 else 0,⟨#[]⟩, [], []⟩
 | .set _ _ _ _ ss=>⟨4,0,⟨#[]⟩,ss, []⟩
 | .name _ s=>⟨5,0,s, [], []⟩
 | .attr _ n=>⟨6,n,⟨#[]⟩, [], []⟩
 | .lett _ n=>⟨7,n,⟨#[]⟩, [], []⟩
 | .un _ op _=>⟨op,0,⟨#[]⟩, [], []⟩
 | .bin _ op _ _=>⟨op,0,⟨#[]⟩, [], []⟩
 | .ite .. =>⟨27,0,⟨#[]⟩, [], []⟩
def QS (x:Nd) (w:World) (r:Ending) (w':World):Prop:=(∃ u cu,r= .returned (.agg #[.int .i64 x.op,.int .i64 x.num,.string x.text,.slice u x.names.length cu,.slice none 0 0])∧w'.ownsRow w.heap.size 9 1 (.slice u x.names.length cu) x.names.length (x.names.map Value.string))∧Below w.heap.size w w'
theorem LL {w:World}{b:Nat}{v0 v1 a c d:Value}{t:TypeId}(R:Aj w b #[v0,v1,a,c,d] t):w.cell? ⟨b,0,none⟩=some v0∧w.cell? ⟨b,1,none⟩=some v1∧w.cell? ⟨b,2,none⟩=some a∧w.cell? ⟨b,3,none⟩=some c∧w.cell? ⟨b,4,none⟩=some d:=⟨R.cell 0,R.cell 1,R.cell 2,R.cell 3,R.cell 4⟩
theorem XI (i n:Int)(w:World):Calls Tryz.prog 116 #[.iface 130 (.agg #[.int .i64 i,.int .i64 n])] w (QS (VI (.int i n)) w):=by
 have a:=BU (T:=130) Tryz.underlying130 45;go_enter Tryz.func116,Tryz.ntmps116
 go_wp2_with fail
 refine bodyPost_ret (v:= .agg #[.int .i64 1,.int .i64 n,.string ⟨#[]⟩,.slice none 0 0,.slice none 0 0]) (by simp[results,Tryz.results116,go_sem]) rfl ⟨⟨none,0,rfl,World.ownsRow_nil _ _ _ _⟩, ?_⟩
 exact ((Below.refl w.heap.size w).alloc NLN _).alloc (by simp) _
theorem VJ (i:Int)(s:ByteArray)(w:World):Calls Tryz.prog 116 #[.iface 133 (.agg #[.int .i64 i,.string s])] w (QS (VI (.text i s)) w):=by
 have a:=Ah (S:=133) (T:=130) Tryz.underlying130 Tryz.zeroValue130 (by decide) 45;have b:=BU (T:=133) Tryz.underlying133 45;go_enter Tryz.func116,Tryz.ntmps116
 go_wp2_with fail
 refine bodyPost_ret (v:= .agg #[.int .i64 2,.int .i64 0,.string s,.slice none 0 0,.slice none 0 0]) (by simp[results,Tryz.results116,go_sem]) rfl ⟨⟨none,0,rfl,World.ownsRow_nil _ _ _ _⟩, ?_⟩
 exact ((Below.refl w.heap.size w).alloc NLN _).alloc (by simp) _
theorem VK (i:Int)(s:ByteArray)(w:World):Calls Tryz.prog 116 #[.iface 141 (.agg #[.int .i64 i,.string s])] w (QS (VI (.name i s)) w):=by
 have a:=Ah (S:=141) (T:=130) Tryz.underlying130 Tryz.zeroValue130 (by decide) 45;have a1:=Ah (S:=141) (T:=133) Tryz.underlying133 Tryz.zeroValue133 (by decide) 45;have a2:=Ah (S:=141) (T:=135) Tryz.underlying135 Tryz.zeroValue135 (by decide) 45;have a3:=Ah (S:=141) (T:=138) Tryz.underlying138 Tryz.zeroValue138 (by decide) 45;have b:=BU (T:=141) Tryz.underlying141 45;go_enter Tryz.func116,Tryz.ntmps116
 go_wp2_with fail
 refine bodyPost_ret (v:= .agg #[.int .i64 5,.int .i64 0,.string s,.slice none 0 0,.slice none 0 0]) (by simp[results,Tryz.results116,go_sem]) rfl ⟨⟨none,0,rfl,World.ownsRow_nil _ _ _ _⟩, ?_⟩
 exact ((Below.refl w.heap.size w).alloc NLN _).alloc (by simp) _
theorem VL (i n:Int)(w:World):Calls Tryz.prog 116 #[.iface 184 (.agg #[.int .i64 i,.int .i64 n])] w (QS (VI (.attr i n)) w):=by
 have a:=Ah (S:=184) (T:=130) Tryz.underlying130 Tryz.zeroValue130 (by decide) 45;have a1:=Ah (S:=184) (T:=133) Tryz.underlying133 Tryz.zeroValue133 (by decide) 45;have a2:=Ah (S:=184) (T:=135) Tryz.underlying135 Tryz.zeroValue135 (by decide) 45;have a3:=Ah (S:=184) (T:=138) Tryz.underlying138 Tryz.zeroValue138 (by decide) 45;have a4:=Ah (S:=184) (T:=141) Tryz.underlying141 Tryz.zeroValue141 (by decide) 45;have b:=BU (T:=184) Tryz.underlying184 45;go_enter Tryz.func116,Tryz.ntmps116
 go_wp2_with fail
 refine bodyPost_ret (v:= .agg #[.int .i64 6,.int .i64 n,.string ⟨#[]⟩,.slice none 0 0,.slice none 0 0]) (by simp[results,Tryz.results116,go_sem]) rfl ⟨⟨none,0,rfl,World.ownsRow_nil _ _ _ _⟩, ?_⟩
 exact ((Below.refl w.heap.size w).alloc NLN _).alloc (by simp) _
theorem VM (i n:Int)(w:World):Calls Tryz.prog 116 #[.iface 185 (.agg #[.int .i64 i,.int .i64 n])] w (QS (VI (.lett i n)) w):=by
 have a:=Ah (S:=185) (T:=130) Tryz.underlying130 Tryz.zeroValue130 (by decide) 45;have a1:=Ah (S:=185) (T:=133) Tryz.underlying133 Tryz.zeroValue133 (by decide) 45;have a2:=Ah (S:=185) (T:=135) Tryz.underlying135 Tryz.zeroValue135 (by decide) 45;have a3:=Ah (S:=185) (T:=138) Tryz.underlying138 Tryz.zeroValue138 (by decide) 45;have a4:=Ah (S:=185) (T:=141) Tryz.underlying141 Tryz.zeroValue141 (by decide) 45;have a5:=Ah (S:=185) (T:=184) Tryz.underlying184 Tryz.zeroValue184 (by decide) 45;have b:=BU (T:=185) Tryz.underlying185 45;go_enter Tryz.func116,Tryz.ntmps116
 go_wp2_with fail
 refine bodyPost_ret (v:= .agg #[.int .i64 7,.int .i64 n,.string ⟨#[]⟩,.slice none 0 0,.slice none 0 0]) (by simp[results,Tryz.results116,go_sem]) rfl ⟨⟨none,0,rfl,World.ownsRow_nil _ _ _ _⟩, ?_⟩
 exact ((Below.refl w.heap.size w).alloc NLN _).alloc (by simp) _
theorem VN (i:Int)(b:Bool)(w:World):Calls Tryz.prog 116 #[.iface 135 (.agg #[.int .i64 i,.bool b])] w (QS (VI (.bool i b)) w):=by
 have a:=Ah (S:=135) (T:=130) Tryz.underlying130 Tryz.zeroValue130 (by decide) 45;have a1:=Ah (S:=135) (T:=133) Tryz.underlying133 Tryz.zeroValue133 (by decide) 45;have c:=BU (T:=135) Tryz.underlying135 45;cases b
 ·go_enter Tryz.func116,Tryz.ntmps116
  go_wp2_with fail
  refine bodyPost_ret (v:= .agg #[.int .i64 3,.int .i64 0,.string ⟨#[]⟩,.slice none 0 0,.slice none 0 0]) (by simp[results,Tryz.results116,go_sem]) rfl ⟨⟨none,0,rfl,World.ownsRow_nil _ _ _ _⟩, ?_⟩
  exact ((Below.refl w.heap.size w).alloc NLN _).alloc (by simp) _
 ·go_enter Tryz.func116,Tryz.ntmps116
  go_wp2_with fail
  refine bodyPost_ret (v:= .agg #[.int .i64 3,.int .i64 1,.string ⟨#[]⟩,.slice none 0 0,.slice none 0 0]) (by simp[results,Tryz.results116,go_sem]) rfl ⟨⟨none,0,rfl,World.ownsRow_nil _ _ _ _⟩, ?_⟩
  exact ((Below.refl w.heap.size w).alloc NLN _).alloc (by simp) _
theorem Zy (i op:Int)(a:TypeId)(b:Value)(k:Ex)(w:World):Calls Tryz.prog 116 #[.iface 143 (.agg #[.int .i64 i,.int .i64 op,.iface a b])] w (QS (VI (.un i op k)) w):=by
 have c:=Ah (S:=143) (T:=130) Tryz.underlying130 Tryz.zeroValue130 (by decide) 45;have a1:=Ah (S:=143) (T:=133) Tryz.underlying133 Tryz.zeroValue133 (by decide) 45;have a2:=Ah (S:=143) (T:=135) Tryz.underlying135 Tryz.zeroValue135 (by decide) 45;have a3:=Ah (S:=143) (T:=138) Tryz.underlying138 Tryz.zeroValue138 (by decide) 45;have a4:=Ah (S:=143) (T:=141) Tryz.underlying141 Tryz.zeroValue141 (by decide) 45;have a5:=Ah (S:=143) (T:=184) Tryz.underlying184 Tryz.zeroValue184 (by decide) 45;have a6:=Ah (S:=143) (T:=185) Tryz.underlying185 Tryz.zeroValue185 (by decide) 45;have d:=BU (T:=143) Tryz.underlying143 45;go_enter Tryz.func116,Tryz.ntmps116
 go_wp2_with fail
 refine bodyPost_ret (v:= .agg #[.int .i64 op,.int .i64 0,.string ⟨#[]⟩,.slice none 0 0,.slice none 0 0]) (by simp[results,Tryz.results116,go_sem]) rfl ⟨⟨none,0,rfl,World.ownsRow_nil _ _ _ _⟩, ?_⟩
 exact ((Below.refl w.heap.size w).alloc NLN _).alloc (by simp) _
theorem XJ (i op:Int)(a:TypeId)(b:Value)(c:TypeId)(d:Value)(k l:Ex)(w:World):Calls Tryz.prog 116 #[.iface 146 (.agg #[.int .i64 i,.int .i64 op,.iface a b,.iface c d])] w (QS (VI (.bin i op k l)) w):=by
 have f:=Ah (S:=146) (T:=130) Tryz.underlying130 Tryz.zeroValue130 (by decide) 45;have a1:=Ah (S:=146) (T:=133) Tryz.underlying133 Tryz.zeroValue133 (by decide) 45;have a2:=Ah (S:=146) (T:=135) Tryz.underlying135 Tryz.zeroValue135 (by decide) 45;have a3:=Ah (S:=146) (T:=138) Tryz.underlying138 Tryz.zeroValue138 (by decide) 45;have a4:=Ah (S:=146) (T:=141) Tryz.underlying141 Tryz.zeroValue141 (by decide) 45;have a5:=Ah (S:=146) (T:=184) Tryz.underlying184 Tryz.zeroValue184 (by decide) 45;have a6:=Ah (S:=146) (T:=185) Tryz.underlying185 Tryz.zeroValue185 (by decide) 45;have g:=Ah (S:=146) (T:=143) Tryz.underlying143 Tryz.zeroValue143 (by decide) 45;have h:=BU (T:=146) Tryz.underlying146 45;go_enter Tryz.func116,Tryz.ntmps116
 go_wp2_with fail
 refine bodyPost_ret (v:= .agg #[.int .i64 op,.int .i64 0,.string ⟨#[]⟩,.slice none 0 0,.slice none 0 0]) (by simp[results,Tryz.results116,go_sem]) rfl ⟨⟨none,0,rfl,World.ownsRow_nil _ _ _ _⟩, ?_⟩
 exact ((Below.refl w.heap.size w).alloc NLN _).alloc (by simp) _
theorem XK (i:Int)(a:TypeId)(b:Value)(c:TypeId)(d:Value)(f:TypeId)(g:Value)(k l m:Ex)(w:World):Calls Tryz.prog 116 #[.iface 149 (.agg #[.int .i64 i,.iface a b,.iface c d,.iface f g])] w (QS (VI (.ite i k l m)) w):=by
 have h:=Ah (S:=149) (T:=130) Tryz.underlying130 Tryz.zeroValue130 (by decide) 45;have a1:=Ah (S:=149) (T:=133) Tryz.underlying133 Tryz.zeroValue133 (by decide) 45;have a2:=Ah (S:=149) (T:=135) Tryz.underlying135 Tryz.zeroValue135 (by decide) 45;have a3:=Ah (S:=149) (T:=138) Tryz.underlying138 Tryz.zeroValue138 (by decide) 45;have a4:=Ah (S:=149) (T:=141) Tryz.underlying141 Tryz.zeroValue141 (by decide) 45;have a5:=Ah (S:=149) (T:=184) Tryz.underlying184 Tryz.zeroValue184 (by decide) 45;have a6:=Ah (S:=149) (T:=185) Tryz.underlying185 Tryz.zeroValue185 (by decide) 45;have j:=Ah (S:=149) (T:=143) Tryz.underlying143 Tryz.zeroValue143 (by decide) 45;have n:=Ah (S:=149) (T:=146) Tryz.underlying146 Tryz.zeroValue146 (by decide) 45;have o:=BU (T:=149) Tryz.underlying149 45;go_enter Tryz.func116,Tryz.ntmps116
 go_wp2_with fail
 refine bodyPost_ret (v:= .agg #[.int .i64 27,.int .i64 0,.string ⟨#[]⟩,.slice none 0 0,.slice none 0 0]) (by simp[results,Tryz.results116,go_sem]) rfl ⟨⟨none,0,rfl,World.ownsRow_nil _ _ _ _⟩, ?_⟩
 exact ((Below.refl w.heap.size w).alloc NLN _).alloc (by simp) _
theorem XL (i:Int)(a:Option Addr)(n c:Nat)(b:List ByteArray)(w:World)(o:Bb w a n c b)(y:b.length≤1048576):Calls Tryz.prog 116 #[.iface 138 (.agg #[.int .i64 i,.slice a n c])] w (QS (VI (.set i a n c b)) w):=by
 have I:=Ah (S:=138) (T:=130) Tryz.underlying130 Tryz.zeroValue130 (by decide) 45;have a1:=Ah (S:=138) (T:=133) Tryz.underlying133 Tryz.zeroValue133 (by decide) 45;have a2:=Ah (S:=138) (T:=135) Tryz.underlying135 Tryz.zeroValue135 (by decide) 45;have J:=BU (T:=138) Tryz.underlying138 45;have k:=((Below.refl w.heap.size w).alloc NLN (.cells #[.int .i64 0,.int .i64 0,.string ⟨#[]⟩,.slice none 0 0,.slice none 0 0] 80)).alloc (by simp) (.cells #[.int .i64 i,.slice a n c] 138);have s:=(Aj.new w #[.int .i64 0,.int .i64 0,.string ⟨#[]⟩,.slice none 0 0,.slice none 0 0] 80).alloc (.cells #[.int .i64 i,.slice a n c] 138);have t:=Ab (Sq a n c b _ (o.below k NLN) y);clear o;go_enter Tryz.func116,Tryz.ntmps116
 go_wp2_with fail
 refine (Aa t).mono ?_;rintro r K ⟨⟨x,d,rfl,l⟩,m⟩;have g:=s.after m NLN;obtain ⟨L,M,N,O,P⟩:=LL g;have Q:=fun j=>g.frozen j;obtain ⟨z,A,B,C,E⟩:=LL ((((((g).set 0 (.int .i64 4)).set 1 (.int .i64 0)).set 2 (.string ⟨#[]⟩)).set 3 (.slice x b.length d)).set 4 (.slice none 0 0));have u:=k.trans (m.mono (by simp;omega));have f:∀ q,(Value.slice x b.length d).ownBlock=some q→q≠w.heap.size:=fun q hq h=>by have:=(l.lt q hq).1;simp at this;omega
 have F:=Ab ((((((u).setCell (p:=⟨w.heap.size,0,none⟩) NLN (.int .i64 4)).setCell (p:=⟨w.heap.size,1,none⟩) NLN (.int .i64 0)).setCell (p:=⟨w.heap.size,2,none⟩) NLN (.string ⟨#[]⟩)).setCell (p:=⟨w.heap.size,3,none⟩) NLN (.slice x b.length d)).setCell (p:=⟨w.heap.size,4,none⟩) NLN (.slice none 0 0));have H:=Ab ((GE (GE (GE (GE (GE (CA (base':=w.heap.size) l (by simp;omega)) ⟨w.heap.size,0,none⟩ (.int .i64 4) f) ⟨w.heap.size,1,none⟩ (.int .i64 0) f) ⟨w.heap.size,2,none⟩ (.string ⟨#[]⟩) f) ⟨w.heap.size,3,none⟩ (.slice x b.length d) f) ⟨w.heap.size,4,none⟩ (.slice none 0 0) f));clear s g k u m t l f;dsimp only;go_wp2_with fail
 refine bodyPost_ret (v:= .agg #[.int .i64 4,.int .i64 0,.string ⟨#[]⟩,.slice x b.length d,.slice none 0 0]) (by simp[results,Tryz.results116,go_sem,z,A,B,C,E]) rfl ?_
 exact ⟨⟨x,d,rfl,Aa H⟩,Aa F⟩
theorem A6.snoc {l m:World}{lo:Nat}{v t u k:Value}{N:List Nd}{a b:List Value}{x:Nd}(h:A6 l lo v N a b)
  (hu:l.ownsRow lo 9 1 u x.names.length (x.names.map Value.string))(hk:l.ownsRow lo 3 1 k x.kids.length (At x.kids))(B:∀ j,(d:j < a.length)→∀ q,a[j].ownBlock=some q→u.ownBlock≠some q)(C:∀ j,(d:j < b.length)→∀ q,b[j].ownBlock=some q→k.ownBlock≠some q)
  (E:m.ownsRow lo 80 5 t (N.length+1) (DA N a b ++Gi x u k))(w:l.grownBy m v.ownBlock):A6 m lo t (N ++ [x]) (a ++ [u]) (b ++ [k]):=by
 have r:=h.len;have s:=h.lenk;have z:∀ {n:Nat} {y:Value} {o:List Value},l.ownsRow lo 9 1 y n o→m.ownsRow lo 9 1 y n o:=fun f=>Ac f (fun q hq=>w.block q (f.lt q hq).2 (fun e=>Ak f h.own (by decide) q hq e.symm));have A:∀ {n:Nat} {y:Value} {o:List Value},l.ownsRow lo 3 1 y n o→m.ownsRow lo 3 1 y n o:=fun f=>Ac f (fun q hq=>w.block q (f.lt q hq).2 (fun e=>Ak f h.own (by decide) q hq e.symm));refine ⟨by simp[r],by simp[s],by rw[List.length_append,List.length_singleton,Jb _ _ _ _ _ _ r s];exact E,fun j d p=>?_,fun j d p=>?_,fun i j g d q hq=>?_,fun i j g d q hq=>?_⟩
 ·by_cases c:j < a.length
  ·have a1:(a ++ [u])[j]=a[j]:=List.getElem_append_left c;have a2:(N ++ [x])[j]=N[j]'(by omega):=List.getElem_append_left (by omega);rw[a1,a2];exact z (h.names j (by omega) c)
  ·have e:j=a.length:=by simp at p;omega
   subst e;have a1:(a ++ [u])[a.length]'p=u:=by simp
   have a2:(N ++ [x])[a.length]'d=x:=by simp[r]
   rw[a1,a2];exact z hu
 ·by_cases c:j < b.length
  ·have a1:(b ++ [k])[j]=b[j]:=List.getElem_append_left c;have a2:(N ++ [x])[j]=N[j]'(by omega):=List.getElem_append_left (by omega);rw[a1,a2];exact A (h.kids j (by omega) c)
  ·have e:j=b.length:=by simp at p;omega
   subst e;have a1:(b ++ [k])[b.length]'p=k:=by simp
   have a2:(N ++ [x])[b.length]'d=x:=by simp[s]
   rw[a1,a2];exact A hk
 ·by_cases c:j < a.length
  ·rw[List.getElem_append_left c];rw[List.getElem_append_left (by omega)] at hq;exact h.apart i j g c q hq
  ·have e:j=a.length:=by simp at d;omega
   subst e;rw[List.getElem_append_left g] at hq;simp;exact B i g q hq
 ·by_cases c:j < b.length
  ·rw[List.getElem_append_left c];rw[List.getElem_append_left (by omega)] at hq;exact h.apartk i j g c q hq
  ·have e:j=b.length:=by simp at d;omega
   subst e;rw[List.getElem_append_left g] at hq;simp;exact C i g q hq
structure KH (w:World) (B nb:Nat) (N:List Nd) (P:List Int) (nd pl:Value) (nv kv:List Value):Prop where
 row:Aj w nb #[nd,pl] 161
 nodes:A6 w B nd N nv kv
 places:w.ownsRow B 3 1 pl P.length (At P)
 apart:∀ q,pl.ownBlock=some q→∀ j,(hj:j < kv.length)→kv[j].ownBlock≠some q
 low:B≤nb
structure Nk (B nb:Nat) (nd pl:Value) (w:World) (nd' pl':Value) (w':World):Prop where
 low:Below B w w'
 block:∀ k,k < w.heap.size→k≠nb→nd.ownBlock≠some k→pl.ownBlock≠some k→w'.heap[k]? =w.heap[k]?
 newN:∀ q,nd'.ownBlock=some q→nd.ownBlock=some q∨w.heap.size≤q
 newP:∀ q,pl'.ownBlock=some q→pl.ownBlock=some q∨w.heap.size≤q
theorem Nk.refl (B b:Nat)(nd a:Value)(w:World):Nk B b nd a w nd a w:=⟨BRN,fun _ _ _ _ _=>rfl,fun q h=> .inl h,fun q h=> .inl h⟩
theorem Nk.trans {B a:Nat}{nd b c d f g:Value}{w i j:World}(h:Nk B a nd b w c d i)(k:Nk B a c d i f g j):Nk B a nd b w f g j:=by
 have l:=h.low.size;refine ⟨h.low.trans k.low,fun q h1 h2 h3 h4=>?_,fun q hq=>?_,fun q hq=>?_⟩
 ·refine (k.block q (Nat.lt_of_lt_of_le h1 l) h2 (fun e=>?_) (fun e=>?_)).trans (h.block q h1 h2 h3 h4)
  ·rcases h.newN q e with e | e
   ·exact h3 e
   ·omega
  ·rcases h.newP q e with e | e
   ·exact h4 e
   ·omega
 ·rcases k.newN q hq with e | e
  ·exact h.newN q e
  ·exact .inr (by omega)
 ·rcases k.newP q hq with e | e
  ·exact h.newP q e
  ·exact .inr (by omega)
theorem Nk.of_all {B b:Nat}{nd a:Value}{w w':World}(h:Below w.heap.size w w')(c:B≤w.heap.size):Nk B b nd a w nd a w':=
 ⟨h.mono c,fun k h1 _ _ _=>h.block k h1,fun q hq=> .inl hq,fun q hq=> .inl hq⟩
theorem KH.below {w w':World}{B b:Nat}{N:List Nd}{P:List Int}{nd c:Value}{d f:List Value}(h:KH w B b N P nd c d f)(a:Below w.heap.size w w'):KH w' B b N P nd c d f:=
 ⟨h.row.after a NLN,h.nodes.blocks (fun k _ hk=>a.block k hk),Ac h.places (fun q hq=>a.block q (h.places.lt q hq).2),h.apart,h.low⟩
theorem Nk.row {B b:Nat}{nd c f i:Value}{w w':World}{N:List Nd}{P:List Int}{j k:List Value}(h:Nk B b nd c w f i w')(C:KH w B b N P nd c j k){g:Nat}{cs:Array Value}{t:TypeId}(R:Aj w g cs t)(h1:t≠161)(h2:t≠80)(h3:t≠3):Aj w' g cs t:=
 ⟨(h.block g R.lt (fun e=>by
  have d:=R.out;have a:=C.row.out;rw[e] at d;rw[d] at a;injection a with a;injection a with _ a;exact h1 a) (Ad R C.nodes.own h2) (Ad R C.places h3)).trans R.out⟩
structure Kn (B nb g:Nat) (w:World) (nd pl:Value) (N:List Nd) (P:List Int) (nd1 pl1:Value) (nv kv:List Value) (kw:Value) (ks:List Int) (vs:Array Value) (w2:World):Prop where
 C:KH w2 B nb N P nd1 pl1 nv kv
 K:Nk B nb nd pl w nd1 pl1 w2
 R:Aj w2 g vs 45
 O:w2.ownsRow w.heap.size 3 1 kw ks.length (At ks)
 ap:∀ q,kw.ownBlock=some q→pl1.ownBlock≠some q∧∀ j,(hj:j < kv.length)→kv[j].ownBlock≠some q
theorem Kn.call {B a g:Nat}{w i b:World}{nd o p r k l m:Value}{N M:List Nd}{P s:List Int}{n c t d:List Value}{ks:List Int}{u:Array Value}(h:Kn B a g w nd o N P p r n c m ks u i)(y:KH b B a (N ++M) (P ++s) k l (n ++t) (c ++d))(f:Nk B a p r i k l b)(z:∀ j,(v:j < d.length)→∀ q,d[j].ownBlock=some q→i.heap.size≤q):
  Kn B a g w nd o (N ++M) (P ++s) k l (n ++t) (c ++d) m ks u b:=by
 have E:=h.K.low.size;have A:b.ownsRow w.heap.size 3 1 m ks.length (At ks):=Ac h.O (fun q hq=>f.block q (h.O.lt q hq).2 (fun e=>Ad h.C.row h.O (by decide) (by rw[hq,e])) (fun e=>Ak h.O h.C.nodes.own (by decide) q hq e) (h.ap q hq).1);refine ⟨y,h.K.trans f,f.row h.C h.R (by decide) (by decide) (by decide),A,fun q hq=>⟨fun e=>?_,fun j v e=>?_⟩⟩
 ·rcases f.newP q e with e | e
  ·exact (h.ap q hq).1 e
  ·have:=(h.O.lt q hq).2;omega
 ·by_cases x:j < c.length
  ·rw[List.getElem_append_left x] at e;exact (h.ap q hq).2 j x e
  ·rw[List.getElem_append_right (by omega)] at e;have:=z _ (by simp at v;omega) q e;have:=(h.O.lt q hq).2;omega
theorem Kn.app {B i g:Nat}{w b k:World}{nd l m n d:Value}{N:List Nd}{P:List Int}{o p:List Value}{ks:List Int}{r:Array Value}{f:Obj}{a:Int}{gk cap:Nat}(h:Kn B i g w nd l N P m n o p d ks r b)(v:B≤w.heap.size)
  (x:k.ownsRow w.heap.size 3 1 (.slice (some ⟨gk,0,none⟩) (ks.length+1) cap) (ks.length+1) (At ks ++ [.int .i64 a]))(s:(b.alloc f).grownBy k d.ownBlock)(y:d.ownBlock=some gk∨gk=b.heap.size+1):
  Kn B i g w nd l N P m n o p (.slice (some ⟨gk,0,none⟩) (ks.length+1) cap) (ks ++ [a]) r k:=by
 have t:=h.K.low.size;have E:=(Below.refl b.heap.size b).alloc NLN f;have u:(b.alloc f).heap.size=b.heap.size+1:=by simp
 have hk:∀ q,q < b.heap.size→d.ownBlock≠some q→k.heap[q]? =b.heap[q]? :=fun q h1 h2=>(s.block q (by rw[u];omega) (fun e=>h2 e.symm)).trans (Below.heap_alloc b f q h1);have C:=h.C;have z:d.ownBlock≠some i:=Ad C.row h.O (by decide);refine ⟨⟨⟨(hk i C.row.lt z).trans C.row.out⟩, ?_, ?_,C.apart,C.low⟩,⟨?_,fun q h1 h2 h3 h4=>?_,h.K.newN,h.K.newP⟩,⟨(hk g h.R.lt (Ad h.R h.O (by decide))).trans h.R.out⟩,by rw[List.length_append];simpa[At] using x,fun q hq=>?_⟩
 ·exact C.nodes.upto (fun q hq=>hk q (C.nodes.lts.1 q hq).2 (fun e=>Ak h.O C.nodes.own (by decide) q e hq)) (fun j c q hq=>hk q (C.nodes.lts.2.1 j c q hq).2 (fun e=>Ak h.O (C.nodes.names j (by rw[← C.nodes.len];exact c) c) (by decide) q e hq)) (fun j c q hq=>hk q (C.nodes.lts.2.2 j c q hq).2 (fun e=>(h.ap q e).2 j c hq))
 ·exact Ac C.places (fun q hq=>hk q (C.places.lt q hq).2 (fun e=>(h.ap q e).1 hq))
 ·exact (h.K.low.alloc (Nat.le_trans v t) f).grown s (by rw[u];omega) (fun q hq=>by have:=(h.O.lt q hq).1;omega)
 ·have A:=Nat.lt_of_lt_of_le h1 t;refine (hk q A (fun e=>by have:=(h.O.lt q e).1;omega)).trans (h.K.block q h1 h2 h3 h4)
 ·have e:gk=q:=by simpa[Value.ownBlock] using hq
  subst e;rcases y with e | e
  ·exact h.ap gk e
  ·refine ⟨fun e'=>?_,fun j c e'=>?_⟩
   ·have:=(C.places.lt gk e').2;omega
   ·have:=(C.nodes.lts.2.2 j c gk e').2;omega
theorem Kn.below {B c g:Nat}{w a d:World}{nd f i j k:Value}{N:List Nd}{P:List Int}{l m:List Value}{ks:List Int}{n:Array Value}(h:Kn B c g w nd f N P i j l m k ks n a)(b:Below a.heap.size a d)(o:B≤a.heap.size):Kn B c g w nd f N P i j l m k ks n d:=
 ⟨h.C.below b,h.K.trans (Nk.of_all b o),h.R.after b NLN,Ac h.O (fun q hq=>b.block q (h.O.lt q hq).2),h.ap⟩
theorem Ao {a b:World}{c:Obj}{row:Option Nat}(d:(a.alloc c).grownBy b row):∀ q,q < a.heap.size→row≠some q→b.heap[q]? =a.heap[q]? :=fun q h1 h2=>(d.block q (by simp;omega) (fun e=>h2 e.symm)).trans (Below.heap_alloc a c q h1)
theorem KH.pushN {b c:World}{B a g7 c7:Nat}{N:List Nd}{P:List Int}{nd f u k:Value}{i g:List Value}{x:Nd}(C:KH b B a N P nd f i g)(o:Obj)(v:B≤b.heap.size)(hu:b.ownsRow B 9 1 u x.names.length (x.names.map Value.string))(hk:b.ownsRow B 3 1 k x.kids.length (At x.kids))
  (w:∀ j,(d:j < i.length)→∀ q,i[j].ownBlock=some q→u.ownBlock≠some q)(y:∀ j,(d:j < g.length)→∀ q,g[j].ownBlock=some q→k.ownBlock≠some q)(z:∀ q,k.ownBlock=some q→f.ownBlock≠some q)
  (l:(b.alloc o).grownBy c nd.ownBlock)(A:c.ownsRow B 80 5 (.slice (some ⟨g7,0,none⟩) (N.length+1) c7) (N.length+1) (DA N i g ++Gi x u k))(E:nd.ownBlock=some g7∨g7=b.heap.size+1):
  KH (c.setCell ⟨a,0,none⟩ (.slice (some ⟨g7,0,none⟩) (N.length+1) c7)) B a (N ++ [x]) P (.slice (some ⟨g7,0,none⟩) (N.length+1) c7) f (i ++ [u]) (g ++ [k])∧Nk B a nd f b (.slice (some ⟨g7,0,none⟩) (N.length+1) c7) f (c.setCell ⟨a,0,none⟩ (.slice (some ⟨g7,0,none⟩) (N.length+1) c7)):=by
 have r:=(Below.refl b.heap.size b).alloc NLN o;have F:=C.below r;have H:=Ac (w':=b.alloc o) hu (fun q hq=>r.block q (hu.lt q hq).2);have I:=Ac (w':=b.alloc o) hk (fun q hq=>r.block q (hk.lt q hq).2);have J:nd.ownBlock≠some a:=Ad C.row C.nodes.own (by decide);have m:Aj c a #[nd,f] 161:=⟨(Ao l a C.row.lt J).trans C.row.out⟩
 have h:=F.nodes.snoc H I w y A l;have s:c.ownsRow B 3 1 f P.length (At P):=Ac C.places (fun q hq=>Ao l q (C.places.lt q hq).2 (fun e=>Ak C.places C.nodes.own (by decide) q hq e));have n:∀ q,q≠a→(c.setCell ⟨a,0,none⟩ (.slice (some ⟨g7,0,none⟩) (N.length+1) c7)).heap[q]? =c.heap[q]? :=fun q hq=>heap_setCell_other c ⟨a,0,none⟩ q _ hq;refine ⟨⟨m.set 0 _,h.upto (fun q hq=>n q (fun e=>Ad m h.own (by decide) (by rw[hq,e]))) (fun j d q hq=>n q (fun e=>Ad m (h.names j (by rw[← h.len];exact d) d) (by decide) (by rw[hq,e]))) (fun j d q hq=>n q (fun e=>Ad m (h.kids j (by rw[← h.lenk];exact d) d) (by decide) (by rw[hq,e]))),Ac s (fun q hq=>n q (fun e=>Ad m s (by decide) (by rw[hq,e]))),fun q hq j d e=>?_,C.low⟩,⟨?_,fun q h1 h2 h3 h4=>(n q h2).trans (Ao l q h1 h3),fun q hq=>?_,fun q hq=> .inl hq⟩⟩
 ·by_cases t:j < g.length
  ·rw[List.getElem_append_left t] at e;exact C.apart q hq j t e
  ·have K:j=g.length:=by simp at d;omega
   subst K;simp at e;exact z q e hq
 ·exact ((r.mono v).grown l (by simp;omega) (fun q hq=>(C.nodes.lts.1 q hq).1)).setCell (p:=⟨a,0,none⟩) C.low _
 ·have e:g7=q:=by simpa[Value.ownBlock] using hq
  subst e;exact E.imp id (fun e=>by omega)
theorem KH.pushP {f d:World}{B c g7 c7:Nat}{N:List Nd}{P:List Int}{nd g:Value}{m n:List Value}(C:KH f B c N P nd g m n)(o:Obj)(a:Int)(t:B≤f.heap.size)
  (h:(f.alloc o).grownBy d g.ownBlock)(r:d.ownsRow B 3 1 (.slice (some ⟨g7,0,none⟩) (P.length+1) c7) (P.length+1) (At P ++ [.int .i64 a]))(s:g.ownBlock=some g7∨g7=f.heap.size+1):
  KH (d.setCell ⟨c,1,none⟩ (.slice (some ⟨g7,0,none⟩) (P.length+1) c7)) B c N (P ++ [a]) nd (.slice (some ⟨g7,0,none⟩) (P.length+1) c7) m n∧Nk B c nd g f nd (.slice (some ⟨g7,0,none⟩) (P.length+1) c7) (d.setCell ⟨c,1,none⟩ (.slice (some ⟨g7,0,none⟩) (P.length+1) c7)):=by
 have u:=(Below.refl f.heap.size f).alloc NLN o;have v:g.ownBlock≠some c:=Ad C.row C.places (by decide);have k:Aj d c #[nd,g] 161:=⟨(Ao h c C.row.lt v).trans C.row.out⟩
 have l:∀ q,q≠c→(d.setCell ⟨c,1,none⟩ (.slice (some ⟨g7,0,none⟩) (P.length+1) c7)).heap[q]? =d.heap[q]? :=fun q hq=>heap_setCell_other d ⟨c,1,none⟩ q _ hq;have i:A6 d B nd N m n:=C.nodes.upto (fun q hq=>Ao h q (C.nodes.lts.1 q hq).2 (fun e=>Ak C.places C.nodes.own (by decide) q e hq)) (fun j b q hq=>Ao h q (C.nodes.lts.2.1 j b q hq).2 (fun e=>Ak C.places (C.nodes.names j (by rw[← C.nodes.len];exact b) b) (by decide) q e hq)) (fun j b q hq=>Ao h q (C.nodes.lts.2.2 j b q hq).2 (fun e=>C.apart q e j b hq));refine ⟨⟨k.set 1 _,i.upto (fun q hq=>l q (fun e=>Ad k i.own (by decide) (by rw[hq,e]))) (fun j b q hq=>l q (fun e=>Ad k (i.names j (by rw[← i.len];exact b) b) (by decide) (by rw[hq,e]))) (fun j b q hq=>l q (fun e=>Ad k (i.kids j (by rw[← i.lenk];exact b) b) (by decide) (by rw[hq,e]))), ?_,fun q hq j b e=>?_,C.low⟩,⟨?_,fun q h1 h2 h3 h4=>(l q h2).trans (Ao h q h1 h4),fun q hq=> .inl hq,fun q hq=>?_⟩⟩
 ·have:=Ac (w':=d.setCell ⟨c,1,none⟩ (.slice (some ⟨g7,0,none⟩) (P.length+1) c7)) r (fun q hq=>l q (fun e=>Ad k r (by decide) (by rw[hq,e])));simpa[At] using this
 ·have w:g7=q:=by simpa[Value.ownBlock] using hq
  subst w;rcases s with h1 | h1
  ·exact C.apart g7 h1 j b e
  ·have:=(C.nodes.lts.2.2 j b g7 e).2;omega
 ·exact ((u.mono t).grown h (by simp;omega) (fun q hq=>(C.places.lt q hq).1)).setCell (p:=⟨c,1,none⟩) C.low _
 ·have e:g7=q:=by simpa[Value.ownBlock] using hq
  subst e;exact s.imp id (fun e=>by omega)
end Go.Proofs.YtoplnhndilmlcaaGreatDoor
