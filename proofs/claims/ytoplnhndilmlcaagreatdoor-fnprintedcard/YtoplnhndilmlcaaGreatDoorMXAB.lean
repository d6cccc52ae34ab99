/-
  Sets, Laws0, CMem, Mem, PickP, Byte1, MarkT, Own0, TK, TN, OWX, Tab0. Own work.
-/
import Derived.Test.YtoplnhndilmlcaaGreatDoorMXAA
import Derived.WalkKit
import Derived.RegionTactic
import Derived.ChangeAlike
import Derived.Deep.QuietTactic
import Derived.BigQuiet
import Derived.WalkSpells
import Derived.WalkLawsBesides
import Derived.Test.YtoplnhndilmlcaaGreatDoorRows
import Derived.Laws.BytesString
import Derived.Deep.RegionHeld3
import Derived.Laws.AppendOwn
namespace Go.Proofs.YtoplnhndilmlcaaGreatDoor
open Go.RowKit
def DL (ss:List ByteArray) (k:Nat):ByteArray:=ss.getD k ByteArray.empty
theorem Cz (a:List ByteArray)(k:Nat)(h:k < a.length):DL a k=a[k]:=by
 simp[DL,List.getD,h]
structure Bb (w:World) (a:Option Addr) (n c:Nat) (ss:List ByteArray):Prop where
 len:n=ss.length
 cap:n≤c
 small:c≤maxLen
 sizes:∀ j,j < n→(DL ss j).size≤maxLen
 cells:∀ j,j < n→∃ b off,a=some ⟨b,off,none⟩∧b < w.heap.size∧w.cell? ⟨b,off+j,none⟩=some (.string (DL ss j))
theorem Bb.below {w w':World}{B:Nat}{a:Option Addr}{n c:Nat}{d:List ByteArray}(h:Bb w a n c d)(f:Below B w w')(k:w.heap.size≤B):Bb w' a n c d:=
 ⟨h.len,h.cap,h.small,h.sizes,fun j l=>by
  obtain ⟨b,g,m,i,hc⟩:=h.cells j l;exact ⟨b,g,m,Nat.lt_of_lt_of_le i f.size,by rw[← hc];exact f.cell (p:=⟨b,g+j,none⟩) (Nat.lt_of_lt_of_le i k)⟩⟩
theorem Bb.at {w:World}{a:Option Addr}{n c:Nat}{g:List ByteArray}(h:Bb w a n c g)(k: 0 < n):
  ∃ b d,a=some ⟨b,d,none⟩∧b < w.heap.size∧∀ j,j < n→w.cell? ⟨b,d+j,none⟩=some (.string (DL g j)):=by
 obtain ⟨b,d,i,l,_⟩:=h.cells 0 k;refine ⟨b,d,i,l,fun j m=>?_⟩;obtain ⟨p,q,f,_,o⟩:=h.cells j m;rw[i] at f;simp only[Option.some.injEq,Addr.mk.injEq,and_true] at f;obtain ⟨rfl,rfl⟩:=f;exact o
def sl (a b:ByteArray):Bool:=Op.bytesLess a.toList b.toList
theorem Jh:∀ (x y:List UInt8),Op.bytesLess x y=decide (x < y)
 | [], []=>by simp[Op.bytesLess]
 | _ ::_, []=>by simp[Op.bytesLess]
 | [],_ ::_=>by simp[Op.bytesLess]
 | a ::x,b ::y=>by
  rw[Op.bytesLess,Jh x y];simp only[List.cons_lt_cons_iff];by_cases h1:a < b <;> by_cases h2:a=b <;> by_cases h3:x < y <;> simp[h1,h2,h3]
theorem OC (a b:ByteArray):sl a b=true↔a.data.toList < b.data.toList:=by
 rw[sl,Jh,ByteArray.toList_eq,ByteArray.toList_eq];simp
theorem Gp {a b c:ByteArray}(h:sl a b=true)(k:sl b c=true):sl a c=true:=by
 rw[OC] at *;exact List.lt_trans h k
theorem Dh (a:ByteArray):sl a a=false:=by
 rw[Bool.eq_false_iff];intro h;rw[OC] at h;exact List.lt_irrefl _ h
theorem GR {a b:ByteArray}(h:a.data.toList=b.data.toList):a=b:=by
 cases a with | mk x=>cases b with | mk y=>cases x;cases y;simp at h;subst h;rfl
theorem Sr (a b:ByteArray)(h1:sl a b=false)(h2:sl b a=false):a=b:=by
 apply GR;rw[Bool.eq_false_iff] at h1 h2;rw[Ne,OC] at h1 h2;exact List.le_antisymm (List.not_lt.1 h2) (List.not_lt.1 h1)
theorem Lg {a b:ByteArray}(h:sl a b=true):sl b a=false:=by
 rw[Bool.eq_false_iff];intro k;have:=Gp h k;rw[Dh] at this;cases this
def EZ (ss:List ByteArray):Bool:=decide (ss.Pairwise fun a b=>sl a b=true)
def Mh (ss:List ByteArray):Bool:=ss.all vnB
def EN (ss:List ByteArray):Bool:=decide (ss.length≤64) && (Mh ss && EZ ss)
theorem RB (a:List ByteArray):Mh a=true↔∀ j,j < a.length→vnB (DL a j)=true:=by
 rw[Mh,List.all_eq_true];constructor
 ·intro h j b;rw[Cz a j b];exact h _ (List.getElem_mem b)
 ·intro h x hx;obtain ⟨j,b,rfl⟩:=List.getElem_of_mem hx;rw[← Cz a j b];exact h j b
theorem UR (a:List ByteArray)(h:∀ j,j < a.length→vnB (DL a j)=true):Mh a=true:=(RB a).2 h
theorem RC (a:List ByteArray)(j:Nat)(b:j < a.length)(h:vnB (DL a j)=false):Mh a=false:=by
 rw[Bool.eq_false_iff];intro k;rw[(RB a).1 k j b] at h;cases h
theorem Mz (a:List ByteArray):EZ a=true↔∀ i j,i < j→j < a.length→sl (DL a i) (DL a j)=true:=by
 rw[EZ,decide_eq_true_eq,List.pairwise_iff_getElem];constructor
 ·intro h i j c b;rw[Cz a i (by omega),Cz a j b];exact h i j (by omega) b c
 ·intro h i j hi b c;rw[← Cz a i hi,← Cz a j b];exact h i j c b
theorem RD (a:List ByteArray)(i j:Nat)(b:i < j)(c:j < a.length)(h:sl (DL a i) (DL a j)=false):EZ a=false:=by
 rw[Bool.eq_false_iff];intro k;rw[(Mz a).1 k i j b c] at h;cases h
theorem YE (a:List ByteArray)(n:Nat)(h:∀ i,0 < i→i < n→sl (DL a (i - 1)) (DL a i)=true):∀ d i,i+d+1 < n→sl (DL a i) (DL a (i+d+1))=true:=by
 intro d
 induction d with
 | zero=>intro i hi;have:=h (i+1) (by omega) hi;simpa using this
 | succ d b=>
  intro i hi;have h1:=b i (by omega);have h2:=h (i+(d+1)+1) (by omega) hi;rw[show i+(d+1)+1 - 1=i+d+1 from by omega] at h2;exact Gp h1 h2
theorem PI (a:List ByteArray)(h:∀ i,0 < i→i < a.length→sl (DL a (i - 1)) (DL a i)=true):EZ a=true:=by
 rw[Mz];intro i j b c;have:=YE a a.length h (j - i - 1) i (by omega);rw[show i+(j - i - 1)+1=j from by omega] at this;exact this
theorem On (a:List ByteArray)(h: 64 < a.length):EN a=false:=by
 have: ¬ a.length≤64:=by omega
 simp[EN,this]
theorem MA (a:List ByteArray)(h:a.length≤64):EN a=(Mh a && EZ a):=by
 simp[EN,h]
def tot (ss:List ByteArray):Nat:=(ss.map ByteArray.size).sum
theorem Ek {k:IntKind}{a b:Int}(h:a=b):Ending.returned (.int k a)= .returned (.int k b):=by rw[h]
theorem Bb.of_owns {w:World}{k e:Nat}{a:Option Addr}{n c:Nat}{b:List ByteArray}(h:w.ownsRow k e 1 (.slice a n c) n (b.map Value.string))(hs:∀ j,j < n→(DL b j).size≤maxLen):
  Bb w a n c b:=by
 have f:b.length=n:=by simpa using h.1
 have l:=h;rcases h.2 with ⟨d,h0⟩ | ⟨g,cap,q,d,r,m,o,p,s,t⟩
 ·simp only[Value.slice.injEq] at d;obtain ⟨rfl,rfl,rfl⟩:=d;exact ⟨f.symm,NLN,Nat.zero_le _,hs,fun j i=>by omega⟩
 ·simp only[Value.slice.injEq,true_and] at d;obtain ⟨rfl,rfl⟩:=d;refine ⟨f.symm,o,p,hs,fun j i=>⟨g,0,rfl, ?_, ?_⟩⟩
  ·exact (Array.getElem?_eq_some_iff.1 m).1
  ·have:=l.cellAt j (by omega);rw[Nat.zero_add,this,Cz b j (by omega)];simp[f,i]
theorem La:(Tryz.prog.info? 9).map (fun i=>(i.zero,i.size,i.bytes))=some (some (.string ByteArray.empty),1,16):=by kernel_rfl
structure Aj (w:World) (b:Nat) (cs:Array Value) (t:TypeId):Prop where
 out:w.heap[b]? =some (.cells cs t (0,0))
theorem Aj.lt {w:World}{b:Nat}{cs:Array Value}{t:TypeId}(h:Aj w b cs t):b < w.heap.size:=(Array.getElem?_eq_some_iff.1 h.out).1
theorem Aj.below {w w':World}{B b:Nat}{cs:Array Value}{t:TypeId}(h:Aj w b cs t)(a:Below B w w')(c:b < B):Aj w' b cs t:=⟨(a.block b c).trans h.out⟩
theorem Aj.after {w w':World}{B b:Nat}{cs:Array Value}{t:TypeId}(h:Aj w b cs t)(a:Below B w w')(c:w.heap.size≤B):Aj w' b cs t:=h.below a (Nat.lt_of_lt_of_le h.lt c)
theorem Aj.alloc {w:World}{b:Nat}{cs:Array Value}{t:TypeId}(h:Aj w b cs t)(a:Obj):Aj (w.alloc a) b cs t:=⟨(Below.heap_alloc w a b h.lt).trans h.out⟩
theorem Aj.new (w:World)(cs:Array Value)(t:TypeId):Aj (w.alloc (.cells cs t)) w.heap.size cs t:=⟨heap_alloc_new w _⟩
theorem Aj.set {w:World}{b:Nat}{cs:Array Value}{t:TypeId}(h:Aj w b cs t)(j:Nat)(u:Value):Aj (w.setCell ⟨b,j,none⟩ u) b (cs.setIfInBounds j u) t:=⟨heap_setCell_same w b j cs t u h.out⟩
theorem Aj.setFar {w:World}{b:Nat}{cs:Array Value}{t:TypeId}(h:Aj w b cs t){p:Addr}(a:b≠p.block)(u:Value):Aj (w.setCell p u) b cs t:=⟨(heap_setCell_other w p b u a).trans h.out⟩
theorem Aj.cell {w:World}{b:Nat}{cs:Array Value}{t:TypeId}(h:Aj w b cs t)(j:Nat):w.cell? ⟨b,j,none⟩=cs[j]? :=by
 have:=cell_of_row w b j cs t (0,0) h.out;simpa using this
theorem Aj.frozen {w:World}{b:Nat}{cs:Array Value}{t:TypeId}(h:Aj w b cs t)(j:Nat):w.frozen? ⟨b,j,none⟩=false:=frozen_of_row w b j cs t h.out
def EY (W:World) (b:Nat) (v0 v1 v2 v3:Value):World:=(((W.setCell ⟨b,0,none⟩ v0).setCell ⟨b,1,none⟩ v1).setCell ⟨b,2,none⟩ v2).setCell ⟨b,3,none⟩ v3
theorem Le (a:World)(b k:Nat)(v0 v1 c d:Value)(h:k≠b):(EY a b v0 v1 c d).heap[k]? =a.heap[k]? :=by
 unfold EY;rw[heap_setCell_other _ _ _ _ h,heap_setCell_other _ _ _ _ h,heap_setCell_other _ _ _ _ h,heap_setCell_other _ _ _ _ h]
theorem Bj {d:World}{b:Nat}{f g i j:Value}{t:TypeId}(h:Aj d b #[f,g,i,j] t)(v0 v1 a c:Value):Aj (EY d b v0 v1 a c) b #[v0,v1,a,c] t:=by
 have e:((((#[f,g,i,j].setIfInBounds 0 v0).setIfInBounds 1 v1).setIfInBounds 2 a).setIfInBounds 3 c)= #[v0,v1,a,c]:=rfl;have:=(((h.set 0 v0).set 1 v1).set 2 a).set 3 c;rw[e] at this;exact this
theorem Au {B:Nat}{w c:World}{b:Nat}(h:Below B w c)(a:B≤b)(v0 v1 d f:Value):Below B w (EY c b v0 v1 d f):=
 (((h.setCell (p:=⟨b,0,none⟩) a v0).setCell (p:=⟨b,1,none⟩) a v1).setCell (p:=⟨b,2,none⟩) a d).setCell (p:=⟨b,3,none⟩) a f
theorem Bb.setFar {w:World}{a:Option Addr}{n c:Nat}{d:List ByteArray}(h:Bb w a n c d){p:Addr}(g:∀ x,a=some x→p.block≠x.block)(u:Value):Bb (w.setCell p u) a n c d:=
 ⟨h.len,h.cap,h.small,h.sizes,fun j i=>by
  obtain ⟨b,k,f,l,hc⟩:=h.cells j i;refine ⟨b,k,f,by simpa using l, ?_⟩;rw[← hc];exact World.cell?_of_block (heap_setCell_other w p b u (fun e=>g _ f e.symm))⟩
theorem Bb.drewN {w:World}{a:Option Addr}{n c:Nat}{b:List ByteArray}(h:Bb w a n c b)(k:Nat):Bb (w.drewN k) a n c b:=
 h.below (below_drewN (Below.refl w.heap.size w) k) NLN
def eqS (a b:ByteArray):Bool:=a.toList== b.toList
theorem KR (a b:ByteArray):eqS a b=true↔a=b:=by
 rw[eqS,beq_iff_eq,ByteArray.toList_eq,ByteArray.toList_eq];exact ⟨GR,fun h=>by rw[h]⟩
theorem Nh (a:List ByteArray)(k:Nat)(h:k < a.length):a.take (k+1)=a.take k ++ [DL a k]:=by
 rw[Cz a k h,List.take_succ_eq_append_getElem h]
theorem AK {w:World}{a e n:Nat}{v:Value}{b:List Value}(h:w.ownsRow a e 1 v n b):∃ x c,v= .slice x n c:=by
 rcases h.2 with ⟨rfl,rfl⟩ | ⟨g,cap,d,rfl,_⟩
 ·exact ⟨_,_,rfl⟩
 ·exact ⟨_,_,rfl⟩
def Lc (x:Int):ByteArray:=ByteArray.empty.push (UInt8.ofNat x.toNat)
theorem Ld (x:Int):(Lc x).size=1:=rfl
theorem AaA (a:World)(x:Int):(convert 22 9 (.slice (some ⟨a.heap.size,0,none⟩) 1 1)).run Tryz.prog (a.alloc (.cells #[.int .u8 x] 5))= .ok (.string (Lc x)) (a.alloc (.cells #[.int .u8 x] 5)):=by
 rw[run_convert_bytes_string _ _ _ _ _ _ _ Tryz.underlying22 Tryz.underlying5 Tryz.underlying9];rw[run_bytesToString _ _ _ _ [x]]
 ·rfl
 ·have h:(a.alloc (.cells #[.int .u8 x] 5)).cell? ⟨a.heap.size,0,none⟩=some (.int .u8 x):=by simp
  simp[loadCells,h,go_sem]
theorem EB (a b:ByteArray):(a ++b).size=a.size+b.size:=ByteArray.size_append
def AbQ:Nat→Nat→ByteArray→ByteArray
 | 0,_,l=>l
 | f+1,k,l=>if k=0 then l else AbQ f (k / 10) (Lc (48+(k:Int) % 10) ++l)
def AaL (k:Nat):ByteArray:=if k=0 then ⟨#[109,48]⟩ else ⟨#[109]⟩ ++AbQ (k+1) k ⟨#[]⟩
structure Ai (lo hi:Nat) (w w':World):Prop where
 os:w'.os=w.os
 tape:w'.tape=w.tape
 output:w'.output=w.output
 size:w.heap.size≤w'.heap.size
 block:∀ k,k < w.heap.size→(k < lo∨hi≤k)→w'.heap[k]? =w.heap[k]?
theorem Ai.refl (lo hi:Nat)(w:World):Ai lo hi w w:=⟨rfl,rfl,rfl,NLN,fun _ _ _=>rfl⟩
theorem Ai.trans {lo hi:Nat}{a b c:World}(h:Ai lo hi a b)(k:Ai lo hi b c):Ai lo hi a c:=
 ⟨k.os.trans h.os,k.tape.trans h.tape,k.output.trans h.output,Nat.le_trans h.size k.size,fun i hi d=>(k.block i (Nat.lt_of_lt_of_le hi h.size) d).trans (h.block i hi d)⟩
theorem Ai.of_below {lo hi B:Nat}{w w':World}(h:Below B w w')(a:w.heap.size≤B):Ai lo hi w w':=
 ⟨h.os,h.tape,h.output,h.size,fun k hk _=>h.block k (by omega)⟩
theorem Ai.setCell {lo hi:Nat}(w:World)(p:Addr)(u:Value)(h1:lo≤p.block)(h2:p.block < hi):Ai lo hi w (w.setCell p u):=
 ⟨rfl,rfl,rfl,by simp,fun k _ hk=>heap_setCell_other w p k u (by omega)⟩
theorem Fd {B lo hi:Nat}{w a b:World}(h:Below B w a)(t:Ai lo hi a b)(c:B≤lo)(hs:B≤a.heap.size):Below B w b:=
 h.trans ⟨t.os,t.tape,t.output,t.size,fun k hk=>t.block k (by omega) (.inl (by omega))⟩
structure Nf (w:World) (lo hi:Nat) (a:Option Addr) (n c:Nat) (ss:List ByteArray):Prop where
 own:w.ownsRow lo 9 1 (.slice a n c) n (ss.map Value.string)
 lt:∀ x,a=some x→x.block < hi
 sizes:∀ j,j < n→(DL ss j).size≤maxLen
 top:hi≤w.heap.size
theorem Nf.strs {w:World}{lo hi n c:Nat}{a:Option Addr}{b:List ByteArray}(h:Nf w lo hi a n c b):Bb w a n c b:=Bb.of_owns h.own h.sizes
theorem Nf.of {w:World}{lo n c:Nat}{a:Option Addr}{b:List ByteArray}(h:w.ownsRow lo 9 1 (.slice a n c) n (b.map Value.string))(hs:∀ j,j < n→(DL b j).size≤maxLen):Nf w lo w.heap.size a n c b:=
 ⟨h,fun x hx=>by subst hx;exact (h.lt _ rfl).2,hs,NLN⟩
theorem DM {w w':World}{lo n c:Nat}{a:Option Addr}{d:List Value}(h:w.ownsRow lo 9 1 (.slice a n c) n d)(f:∀ x,a=some x→w'.heap[x.block]? =w.heap[x.block]?):w'.ownsRow lo 9 1 (.slice a n c) n d:=by
 refine ⟨h.1, ?_⟩;rcases h.2 with h2 | ⟨g,cap,i,b,h3,j,h4⟩
 ·exact .inl h2
 ·refine .inr ⟨g,cap,i,b,h3, ?_,h4⟩;simp only[Value.slice.injEq] at b;rw[← j];exact f ⟨g,0,none⟩ b.1
theorem Nf.below {w w':World}{lo hi n c B:Nat}{a:Option Addr}{b:List ByteArray}(h:Nf w lo hi a n c b)(d:Below B w w')(f:hi≤B):Nf w' lo hi a n c b:=
 ⟨DM h.own (fun x hx=>d.block _ (by have:=h.lt x hx;omega)),h.lt,h.sizes,Nat.le_trans h.top d.size⟩
theorem Nf.touch {w w':World}{lo hi n c b d:Nat}{a:Option Addr}{f:List ByteArray}(h:Nf w lo hi a n c f)(t:Ai b d w w')(g:hi≤b∨d≤lo):Nf w' lo hi a n c f:=
 ⟨DM h.own (fun x hx=>t.block _ (by have:=h.lt x hx;have:=h.top;omega) (by
  have h1:=h.lt x hx;have h2:lo≤x.block:=by subst hx;exact (h.own.lt _ rfl).1
  omega)),h.lt,h.sizes,Nat.le_trans h.top t.size⟩
theorem Bb.touch {w w':World}{lo hi n c B:Nat}{a:Option Addr}{d:List ByteArray}(h:Bb w a n c d)(t:Ai lo hi w w')(i:∀ x,a=some x→x.block < B)(m:B≤lo):Bb w' a n c d:=
 ⟨h.len,h.cap,h.small,h.sizes,fun j k=>by
  obtain ⟨b,l,f,g,hc⟩:=h.cells j k;refine ⟨b,l,f,Nat.lt_of_lt_of_le g t.size, ?_⟩;rw[← hc];exact World.cell?_of_block (t.block b g (.inl (by have:=i _ f;simp at this;omega)))⟩
theorem Jy {w:World}{a base' e n:Nat}{v:Value}{b:List Value}(h:w.ownsRow a e 1 v n b)(c:base'≤a):w.ownsRow base' e 1 v n b:=by
 refine ⟨h.1, ?_⟩;rcases h.2 with h2 | ⟨g,cap,d,f,h3,h4⟩
 ·exact .inl h2
 ·exact .inr ⟨g,cap,d,f,Nat.le_trans c h3,h4⟩
def KW (c:Int):Bool:=decide (97≤c∧c≤122)
def NY (c:UInt8):Bool:=KW (c.toNat:Int)
def VU (c:Int):Bool:=KW c || dgI c || decide (c=95)
def DJ (c:UInt8):Bool:=VU (c.toNat:Int)
def Oc (c:UInt8):Bool:=WA (c.toNat:Int)
def Gc (p:UInt8→Bool) (s:ByteArray) (j:Nat):Nat:=j+(((Al s).drop j).takeWhile p).length
theorem BY (s:ByteArray)(j:Nat)(h:j < s.size):(Al s).drop j=s[j] ::(Al s).drop (j+1):=by
 have a:j < (Al s).length:=by rw[Av];exact h
 rw[List.drop_eq_getElem_cons a];rfl
theorem H4 {p:UInt8→Bool}{s:ByteArray}{j:Nat}(h:j < s.size)(a:p s[j]=true):Gc p s j=Gc p s (j+1):=by
 rw[Gc,Gc,BY s j h,List.takeWhile_cons,if_pos a];simp;omega
theorem Hz {p:UInt8→Bool}{s:ByteArray}{j:Nat}(h:j < s.size)(a:p s[j]=false):Gc p s j=j:=by
 rw[Gc,BY s j h,List.takeWhile_cons,if_neg (by simp[a])];rfl
theorem Jl {p:UInt8→Bool}{s:ByteArray}{j:Nat}(h:s.size≤j):Gc p s j=j:=by
 rw[Gc,List.drop_of_length_le (by rw[Av];exact h)];rfl
def AN (p:UInt8→Bool) (r:List UInt8):Nat:=(r.takeWhile p).length
theorem Jm (p:UInt8→Bool)(r:List UInt8):AN p r≤r.length:=(List.takeWhile_prefix p).length_le
theorem Wj (p:UInt8→Bool)(s:ByteArray)(j:Nat):Gc p s j=j+AN p ((Al s).drop j):=rfl
theorem CF (s:ByteArray)(i j:Nat):Al (s.extract i j)=((Al s).drop i).take (j - i):=by
 simp[Al,ByteArray.data_extract]
theorem RL (s:ByteArray)(i:Nat):Al (s.extract i s.size)=(Al s).drop i:=by
 rw[CF,List.take_of_length_le (by rw[List.length_drop,Av];exact NLN)]
theorem Hu (p:UInt8→Bool)(s:ByteArray):Gc p s 0=AN p (Al s):=by simp[Wj]
def EC:List (List UInt8):= [[108,101,116], [119,104,101,110], [101,108,115,101], [100,101,110,121], [103,114,97,110,116], [105,102], [116,104,101,110], [110,111,116], [97,110,100], [111,114], [105,110], [119,105,116,104,105,110], [115,105,122,101], [116,114,117,101], [102,97,108,115,101]]
def FF (l:List UInt8):Bool:=EC.contains l
def CM:List (List UInt8):= [[61,62], [61,61], [33,61], [60,61]]
def Ih:List UInt8:= [60,43,45,42,47,37,124,38,92,40,41,123,125,44,59,61]
inductive SU where
 | bad (code:Int)
 | tok (kind num:Int) (text:List UInt8) (w:Nat)
def Ci (r:List UInt8) (w:Nat):Bool:=match r[w]? with
 | some x=>NY x || decide (x=95)
 | none=>false
def CJ (r:List UInt8):SU:=
 if 32 < AN DJ r then .bad 3 else .tok (if FF (r.take (AN DJ r)) then 4 else 3) 0 (r.take (AN DJ r)) (AN DJ r)
def EG (r:List UInt8):SU:=
 if 19 < AN FA r∨Ci r (AN FA r)=true∨9223372036854775807 < Ie (r.take (AN FA r)) then .bad 3 else .tok 1 (Ie (r.take (AN FA r))) [] (AN FA r)
def Du (r:List UInt8):SU:=
 if 32 < AN Oc r∨r[AN Oc r]? ≠some 34 then .bad 3 else .tok 2 0 (r.take (AN Oc r)) (AN Oc r+2)
def BM (c:UInt8) (r:List UInt8):SU:=
 if CM.contains (r.take 2) then .tok 5 0 (r.take 2) 2 else if Ih.contains c then .tok 5 0 [c] 1 else .bad 2
def Dy:List UInt8→SU
 | []=> .bad 0
 | c ::r=>if NY c then CJ (c ::r) else if FA c then EG (c ::r) else if c=34 then Du r else BM c (c ::r)
structure Ae where
 kind:Int
 num:Int
 text:ByteArray
 at_:Nat
def Fg:Bool→List UInt8→List UInt8
 | _, []=> []
 | false,c ::r=>if c=32∨c=10∨c=9 then Fg false r else if c=35 then Fg true r else c ::r
 | true,c ::r=>if c=10 then Fg false r else Fg true r
theorem Ik:∀ (a:Bool) (l:List UInt8),(Fg a l).length≤l.length
 | _, []=>by simp[Fg]
 | false,c ::r=>by
  rw[Fg];split
  ·have:=Ik false r;simp;omega
  ·split
   ·have:=Ik true r;simp;omega
   ·exact NLN
 | true,c ::r=>by
  rw[Fg];split
  ·have:=Ik false r;simp;omega
  ·have:=Ik true r;simp;omega
theorem GK:∀ (a:Bool) (l:List UInt8),Fg false (Fg a l)=Fg a l
 | _, []=>by simp[Fg]
 | false,c ::r=>by
  rw[Fg];split
  ·exact GK false r
  ·split
   ·exact GK true r
   ·rw[Fg,if_neg (by assumption),if_neg (by assumption)]
 | true,c ::r=>by
  rw[Fg];split
  ·exact GK false r
  ·exact GK true r
structure Res where
 toks:List Ae
 code:Int
 at_:Nat
def AG (n:Nat):Nat→List UInt8→List Ae→Res
 | 0,_,out=>⟨out,0,0⟩
 | f+1,l,out=>match Fg false l with
  | []=>⟨out,0,0⟩
  | c ::r=>match Dy (c ::r) with
   | .bad code=>⟨[],code,n - (r.length+1)⟩
   | .tok k m s w=>AG n f ((c ::r).drop w) (out ++ [⟨k,m,Bg s,n - (r.length+1)⟩])
theorem Oo (n f:Nat)(l:List UInt8)(out:List Ae):AG n f (Fg false l) out=AG n f l out:=by
 cases f with
 | zero=>rfl
 | succ f=>rw[AG,AG,GK]
theorem Df (n f:Nat){l a:List UInt8}(h:Fg false l=Fg false a)(out:List Ae):AG n f l out=AG n f a out:=by
 rw[← Oo,h,Oo]
def AW (t:ByteArray):Res:=if 4000 < t.size then ⟨[],1,0⟩ else AG t.size (t.size+1) (Al t) []
def SU.okW:SU→List UInt8→Prop
 | .bad _,_=>True
 | .tok _ _ s w,r=>1≤w∧w≤r.length∧s.length≤w
theorem MJ {p:UInt8→Bool}{c:UInt8}{r:List UInt8}(h:p c=true): 1≤AN p (c ::r):=by
 rw[AN,List.takeWhile_cons,if_pos h];simp
theorem Pb (r:List UInt8):(Dy r).okW r:=by
 cases r with
 | nil=>simp[Dy,SU.okW]
 | cons c r=>
  rw[Dy];split
  case isTrue h=>
   rw[CJ];split
   ·exact trivial
   ·have h1:=MJ (p:=DJ) (c:=c) (r:=r) (by rw[DJ,VU];rw[NY] at h;simp[h]);have h2:=Jm DJ (c ::r);exact ⟨h1,h2,by rw[List.length_take];omega⟩
  case isFalse h=>
   split
   case isTrue h=>
    rw[EG];split
    ·exact trivial
    ·exact ⟨MJ h,Jm _ _,Nat.zero_le _⟩
   case isFalse h=>
    split
    case isTrue h=>
     rw[Du];split
     ·exact trivial
     ·rename_i h1;rw[not_or,Decidable.not_not] at h1;have h2:=(List.getElem?_eq_some_iff.1 h1.2).1;exact ⟨by omega,by simp;omega,by rw[List.length_take];omega⟩
    case isFalse h=>
     rw[BM];split
     case isTrue h=>
      have h2: 2≤(c ::r).length:=by
       cases r with
       | nil=>exfalso;revert h;simp[CM]
       | cons d r=>simp
      exact ⟨by omega,h2,by rw[List.length_take];omega⟩
     case isFalse h=>
      split
      ·exact ⟨by omega,by simp,by simp⟩
      ·exact trivial
theorem Ez {n f:Nat}{c:UInt8}{r:List UInt8}{out:List Ae}{k m:Int}{s:List UInt8}{w:Nat}(a:Fg false (c ::r)=c ::r)(h:Dy (c ::r)= .tok k m s w):
  AG n (f+1) (c ::r) out=AG n f ((c ::r).drop w) (out ++ [⟨k,m,Bg s,n - (r.length+1)⟩]):=by
 rw[AG,a];simp only[h]
theorem Wk {n f:Nat}{c:UInt8}{r:List UInt8}{out:List Ae}{code:Int}(a:Fg false (c ::r)=c ::r)(h:Dy (c ::r)= .bad code):
  AG n (f+1) (c ::r) out=⟨[],code,n - (r.length+1)⟩:=by
 rw[AG,a];simp only[h]
theorem JO {n f:Nat}{out:List Ae} :AG n f [] out=⟨out,0,0⟩:=by
 cases f <;> simp[AG,Fg]
theorem MK:∀ (l:List UInt8) (n:Int),l.foldl (fun n x=>n * 10+((x.toNat:Int) - 48)) n=n * 10 ^ l.length+Ie l
 | [],n=>by simp[Ie]
 | x ::xs,n=>by
  have e:Ie (x ::xs)=(0 * 10+((x.toNat:Int) - 48)) * 10 ^ xs.length+Ie xs:=MK xs _;rw[List.foldl_cons,MK xs,e,List.length_cons,Int.pow_succ];rw[Int.add_mul,Int.add_mul];have:n * 10 * 10 ^ xs.length=n * (10 ^ xs.length * 10):=by rw[Int.mul_assoc,Int.mul_comm 10]
  omega
theorem YK (x:UInt8)(l:List UInt8):Ie (x ::l)=((x.toNat:Int) - 48) * 10 ^ l.length+Ie l:=by
 rw[Ie,List.foldl_cons,MK];simp
theorem RR (p:UInt8→Bool)(r:List UInt8):(r.take (AN p r)).all p=true:=by
 have:r.take (AN p r)=r.takeWhile p:=by
  obtain ⟨t,ht⟩:=List.takeWhile_prefix p (l:=r);rw[AN];have e:(r.takeWhile p ++t).take (r.takeWhile p).length=r.takeWhile p:=by simp
  rw[ht] at e;exact e
 rw[this,List.all_takeWhile]
set_option linter.unusedVariables false
theorem Nc {w:World}{b:Nat}{e:TypeId}{size:Nat}{x:Option Addr}{n m c:Nat}{d:List Value}(h:w.ownsRow b e size (.slice x n c) n d)(hm:m≤n):w.ownsRow b e size (.slice x m c) m (d.take (m * size)):=by
 have i:m * size≤n * size:=Nat.mul_le_mul_right _ hm;refine ⟨by rw[List.length_take,h.1];omega, ?_⟩;rcases h.2 with ⟨a,j⟩ | ⟨g,cap,f,a,h1,h2,h3,h4,h5,h6⟩
 ·cases a;exact .inl ⟨by rw[show m=0 by omega],by omega⟩
 ·cases a;refine .inr ⟨g,c,f,rfl,h1,h2,by omega,h4,h5, ?_⟩;rw[← h6,List.take_take]
  congr 1
  omega
theorem DT {w w':World}{a:Nat}{e:TypeId}{size:Nat}{v:Value}{n B:Nat}{b:List Value}(h:w.ownsRow a e size v n b)(c:Below B w w')(d:w.heap.size≤B):w'.ownsRow a e size v n b:=by
 refine ⟨h.1, ?_⟩;rcases h.2 with f | ⟨g,cap,i,j,h1,h2,h3⟩
 ·exact .inl f
 ·exact .inr ⟨g,cap,i,j,h1,(c.block g (Nat.lt_of_lt_of_le (Array.getElem?_eq_some_iff.1 h2).1 d)).trans h2,h3⟩
theorem Af {w:World}{a e size n:Nat}{v:Value}{b:List Value}(h:w.ownsRow a e size v n b):∃ x c,v= .slice x n c∧(0 < n→∃ g,x=some ⟨g,0,none⟩∧a≤g∧∀ j u,b[j]? =some u→w.cell? ⟨g,j,none⟩=some u):=by
 rcases h.2 with ⟨rfl,rfl⟩ | ⟨g,cap,i,rfl,d,_⟩
 ·exact ⟨_,_,rfl,fun h=>absurd h (by omega)⟩
 ·refine ⟨_,_,rfl,fun _=>⟨g,rfl,d,fun j u hu=>?_⟩⟩;have:=h.cells (g:=g) rfl j u hu;have f:(⟨g,0,none⟩:Addr).add j=⟨g,j,none⟩:=by unfold Addr.add;split <;> simp_all
  rwa[f] at this
theorem FZ {w w':World}{a:Nat}{e:TypeId}{size n:Nat}{v:Value}{b:List Value}(h:w.ownsRow a e size v n b)(d:∀ q,v.ownBlock=some q→w'.heap[q]? =w.heap[q]?):w'.ownsRow a e size v n b:=by
 refine ⟨h.1, ?_⟩;rcases h.2 with h2 | ⟨g,cap,f,c,h3,i,h4⟩
 ·exact .inl h2
 ·exact .inr ⟨g,cap,f,c,h3,(d g (by rw[c];rfl)).trans i,h4⟩
theorem GE {w:World}{a:Nat}{e:TypeId}{size n:Nat}{v:Value}{b:List Value}(h:w.ownsRow a e size v n b)(p:Addr)(u:Value)(c:∀ q,v.ownBlock=some q→q≠p.block):(w.setCell p u).ownsRow a e size v n b:=
 FZ h (fun q hq=>heap_setCell_other w p q u (c q hq))
theorem Ad {w:World}{B a n size:Nat}{e T:TypeId}{v:Value}{c:List Value}{cs:Array Value}(R:Aj w a cs T)(h:w.ownsRow B e size v n c)(d:T≠e):v.ownBlock≠some a:=fun hq=>by
 rcases h.2 with ⟨b,_⟩ | ⟨g,cap,i,b,_,f,_⟩
 ·rw[b] at hq;cases hq
 ·rw[b] at hq;obtain rfl:g=a:=by simpa[Value.ownBlock] using hq
  have:=R.out.symm.trans f;simp at this;exact d this.2
theorem Ds {P:Program}{c:Array Oper}{f:List Oper}{b:Oper}{a:Act}{w:World}{k:Exit→Act→World→Prop}(m:b.guard=none)(ty:TypeId)(x:Operand)(n:b.op= .load ty x)
  (g:Nat)(hx:a.eval x= .pointer (some ⟨g,0,none⟩))(cs:Array Value)(d:TypeDesc)(hc:∀ j,w.cell? ⟨g,j,none⟩=cs[j]?)
  (hu:P.underlying ty=some d)(t:(match d with | .struct _ | .array _ _=>true | _=>false)=true)(hi:(P.info? ty).map (·.size)=some cs.size)
  (h:wpList P c k f (a.put b.dst (.agg cs)) w):wpList P c k (b ::f) a w:=
 wpList_plain m fun _ o=>by
  have l:(loadCells ⟨g,0,none⟩ cs.toList.length).run P w= .ok cs.toList.toArray w:=
   run_loadCells_list (P:=P) w ⟨g,0,none⟩ cs.toList (fun j v p=>by
    have q:(⟨g,0,none⟩:Addr).add j=⟨g,j,none⟩:=by unfold Addr.add;split <;> simp_all
    rw[q,hc j];simpa using p)
  have r:(loadVar ty ⟨g,0,none⟩).run P w= .ok (.agg cs) w:=by
   cases hq:P.info? ty with
   | none=>simp[hq] at hi
   | some i=>
    have hs:i.size=cs.size:=by simpa[hq] using hi
    have s:(isAgg ty).run P w= .ok true w:=by
     unfold isAgg;rw[Sem.run_bind,run_underlying hu w];cases d <;> simp_all
    simp only[Array.length_toList,Array.toArray_toList] at l;simp[loadVar,Sem.run_bind,s,sizeOf,typeInfo,hq,hs,l]
  unfold Oper.wp execOp;simp only[n,hx,Instr.loadAt,Instr.sureAddr,Sem.run_bind,Sem.run_pure,Result.andThen_ok,r];exact o _ _ h
theorem Be {P:Program}{f:Array Oper}{g:List Oper}{c:Oper}{a:Act}{w:World}{j:Exit→Act→World→Prop}(l:c.guard=none)(ty:TypeId)(x y:Operand)(m:c.op= .index ty x y)
  (cs:Array Value)(hx:a.eval x= .agg cs)(k:Nat)(hy:a.eval y= .int .i64 k)(n:Nat)(e:TypeId)(hu:P.underlying ty=some (.array n e))(hk:k < n)(d:TypeDesc)(o:P.underlying e=some d)
  (u:(match d with | .struct _ | .array _ _=>true | _=>false)=true)(b:Nat)(hi:(P.info? e).map (·.size)=some b)(r:Array Value)(p:cs.extract (k * b) (k * b+b)=r)
  (h:wpList P f j g (a.put c.dst (.agg r)) w):wpList P f j (c ::g) a w:=
 wpList_plain l fun _ q=>by
  have hq:(Instr.index ty (.agg cs) (.int .i64 k)).run P w= .ok (.agg r) w:=by
   cases hq:P.info? e with
   | none=>simp[hq] at hi
   | some i=>
    have hs:i.size=b:=by simpa[hq] using hi
    have s:(isAgg e).run P w= .ok true w:=by
     unfold isAgg;rw[Sem.run_bind,run_underlying o w];cases d <;> simp_all
    have t:(0 :Int)≤(k:Int)∧(k:Int) < (n:Int):=⟨by omega,by omega⟩
    simp[Instr.index,run_underlying hu,asIntOf,t,hk,part,Sem.run_bind,s,sizeOf,typeInfo,hq,hs,p]
  unfold Oper.wp execOp;simp only[m,hx,hy,Sem.run_bind,hq,Sem.run_pure,Result.andThen_ok];exact q _ _ h
end Go.Proofs.YtoplnhndilmlcaaGreatDoor
