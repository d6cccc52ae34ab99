/-
  Sets, Laws0, CMem, VPP, VPQ, TK, TN. Own work.
-/
import Derived.Test.YtcpdodmoheebaaaGreatDoorMXAA
import Derived.WalkKit
import Derived.RegionTactic
import Derived.ChangeAlike
import Derived.Deep.QuietTactic
import Derived.BigQuiet
import Derived.WalkSpells
import Derived.WalkLawsBesides
import Derived.Test.YtcpdodmoheebaaaGreatDoorRows
namespace Go.Proofs.YtcpdodmoheebaaaGreatDoor
open Go.RowKit
def CK (ss:List ByteArray) (k:Nat):ByteArray:=ss.getD k ByteArray.empty
theorem BE (a:List ByteArray)(k:Nat)(h:k < a.length):CK a k=a[k]:=by
 simp [CK,List.getD,h]
structure Bd (w:World) (a:Option Addr) (n c:Nat) (ss:List ByteArray):Prop where
 len:n=ss.length
 cap:n≤c
 small:c≤maxLen
 sizes:∀ j,j < n→(CK ss j).size≤maxLen
 cells:∀ j,j < n→∃ b off,a=some ⟨b,off,none⟩∧b < w.heap.size∧w.cell? ⟨b,off+j,none⟩=some (.string (CK ss j))
theorem Bd.below {w w':World}{B:Nat}{a:Option Addr}{n c:Nat}{d:List ByteArray}(h:Bd w a n c d)(f:Below B w w')(k:w.heap.size≤B):Bd w' a n c d:=
 ⟨h.len,h.cap,h.small,h.sizes,fun j l=>by
  obtain ⟨b,g,m,i,hc⟩:=h.cells j l
  exact ⟨b,g,m,Nat.lt_of_lt_of_le i f.size,by rw [← hc];exact f.cell (p:=⟨b,g+j,none⟩) (Nat.lt_of_lt_of_le i k)⟩⟩
theorem Bd.at {w:World}{a:Option Addr}{n c:Nat}{g:List ByteArray}(h:Bd w a n c g)(k: 0 < n):
  ∃ b d,a=some ⟨b,d,none⟩∧b < w.heap.size∧∀ j,j < n→w.cell? ⟨b,d+j,none⟩=some (.string (CK g j)):=by
 obtain ⟨b,d,i,l,_⟩:=h.cells 0 k
 refine ⟨b,d,i,l,fun j m=>?_⟩
 obtain ⟨p,q,f,_,o⟩:=h.cells j m
 rw [i] at f
 simp only [Option.some.injEq,Addr.mk.injEq,and_true] at f
 obtain ⟨rfl,rfl⟩:=f
 exact o
def sl (a b:ByteArray):Bool:=Op.bytesLess a.toList b.toList
theorem DM:∀ (x y:List UInt8),Op.bytesLess x y=decide (x < y)
 | [], []=>by simp [Op.bytesLess]
 | _ ::_, []=>by simp [Op.bytesLess]
 | [],_ ::_=>by simp [Op.bytesLess]
 | a ::x,b ::y=>by
  rw [Op.bytesLess,DM x y]
  simp only [List.cons_lt_cons_iff]
  by_cases h1:a < b <;> by_cases h2:a=b <;> by_cases h3:x < y <;> simp [h1,h2,h3]
theorem GD (a b:ByteArray):sl a b=true↔a.data.toList < b.data.toList:=by
 rw [sl,DM,ByteArray.toList_eq,ByteArray.toList_eq];simp
theorem Fi {a b c:ByteArray}(h:sl a b=true)(k:sl b c=true):sl a c=true:=by
 rw [GD] at *;exact List.lt_trans h k
theorem BK (a:ByteArray):sl a a=false:=by
 rw [Bool.eq_false_iff];intro h;rw [GD] at h;exact List.lt_irrefl _ h
theorem CV {a b:ByteArray}(h:a.data.toList=b.data.toList):a=b:=by
 cases a with | mk x=>cases b with | mk y=>cases x;cases y;simp at h;subst h;rfl
theorem KI (a b:ByteArray)(h1:sl a b=false)(h2:sl b a=false):a=b:=by
 apply CV
 rw [Bool.eq_false_iff] at h1 h2
 rw [Ne,GD] at h1 h2
 exact List.le_antisymm (List.not_lt.1 h2) (List.not_lt.1 h1)
theorem H9 {a b:ByteArray}(h:sl a b=true):sl b a=false:=by
 rw [Bool.eq_false_iff];intro k;have:=Fi h k;rw [BK] at this;cases this
def CM (ss:List ByteArray):Bool:=decide (ss.Pairwise fun a b=>sl a b=true)
def IX (ss:List ByteArray):Bool:=ss.all vnB
def Ff (ss:List ByteArray):Bool:=decide (ss.length≤64) && (IX ss && CM ss)
theorem Ia (a:List ByteArray):IX a=true↔∀ j,j < a.length→vnB (CK a j)=true:=by
 rw [IX,List.all_eq_true]
 constructor
 ·intro h j b;rw [BE a j b];exact h _ (List.getElem_mem b)
 ·intro h x hx
  obtain ⟨j,b,rfl⟩:=List.getElem_of_mem hx
  rw [← BE a j b];exact h j b
theorem LE (a:List ByteArray)(h:∀ j,j < a.length→vnB (CK a j)=true):IX a=true:=(Ia a).2 h
theorem KJ (a:List ByteArray)(j:Nat)(b:j < a.length)(h:vnB (CK a j)=false):IX a=false:=by
 rw [Bool.eq_false_iff];intro k;rw [(Ia a).1 k j b] at h;cases h
theorem Ib (a:List ByteArray):CM a=true↔∀ b j,b < j→j < a.length→sl (CK a b) (CK a j)=true:=by
 rw [CM,decide_eq_true_eq,List.pairwise_iff_getElem]
 constructor
 ·intro h b j d c;rw [BE a b (by omega),BE a j c];exact h b j (by omega) c d
 ·intro h b j f c d;rw [← BE a b f,← BE a j c];exact h b j d c
theorem KK (a:List ByteArray)(b j:Nat)(c:b < j)(d:j < a.length)(h:sl (CK a b) (CK a j)=false):CM a=false:=by
 rw [Bool.eq_false_iff];intro k;rw [(Ib a).1 k b j c d] at h;cases h
theorem JY (a:List ByteArray)(h: 64 < a.length):Ff a=false:=by
 have: ¬ a.length≤64:=by omega
 simp [Ff,this]
theorem IY (a:List ByteArray)(h:a.length≤64):Ff a=(IX a && CM a):=by
 simp [Ff,h]
def MS (ss:List ByteArray):Nat:=(ss.map ByteArray.size).sum
theorem BW {k:IntKind}{a b:Int}(h:a=b):Ending.returned (.int k a)= .returned (.int k b):=by rw [h]
theorem Bd.of_owns {w:World}{k e:Nat}{a:Option Addr}{n c:Nat}{b:List ByteArray}(h:w.ownsRow k e 1 (.slice a n c) n (b.map Value.string))(hs:∀ j,j < n→(CK b j).size≤maxLen):
  Bd w a n c b:=by
 have f:b.length=n:=by simpa using h.1
 have l:=h
 rcases h.2 with ⟨d,h0⟩ | ⟨g,cap,q,d,r,m,o,p,s,t⟩
 ·simp only [Value.slice.injEq] at d
  obtain ⟨rfl,rfl,rfl⟩:=d
  exact ⟨f.symm,Nat.le_refl _,Nat.zero_le _,hs,fun j i=>by omega⟩
 ·simp only [Value.slice.injEq,true_and] at d
  obtain ⟨rfl,rfl⟩:=d
  refine ⟨f.symm,o,p,hs,fun j i=>⟨g,0,rfl,?_,?_⟩⟩
  ·exact (Array.getElem?_eq_some_iff.1 m).1
  ·have:=l.cellAt j (by omega)
   rw [Nat.zero_add,this,BE b j (by omega)]
   simp [f,i]
theorem Kh:(Tryz.prog.info? 9).map (fun a=>(a.zero,a.size,a.bytes))=some (some (.string ByteArray.empty),1,16):=by kernel_rfl
structure Ao (w:World) (b:Nat) (cs:Array Value) (t:TypeId):Prop where
 out:w.heap[b]? =some (.cells cs t (0,0))
theorem Ao.lt {w:World}{b:Nat}{a:Array Value}{t:TypeId}(h:Ao w b a t):b < w.heap.size:=(Array.getElem?_eq_some_iff.1 h.out).1
theorem Ao.below {w w':World}{B b:Nat}{a:Array Value}{t:TypeId}(h:Ao w b a t)(c:Below B w w')(d:b < B):Ao w' b a t:=⟨(c.block b d).trans h.out⟩
theorem Ao.after {w w':World}{B b:Nat}{a:Array Value}{t:TypeId}(h:Ao w b a t)(c:Below B w w')(d:w.heap.size≤B):Ao w' b a t:=h.below c (Nat.lt_of_lt_of_le h.lt d)
theorem Ao.alloc {w:World}{b:Nat}{a:Array Value}{t:TypeId}(h:Ao w b a t)(c:Obj):Ao (w.alloc c) b a t:=⟨(Below.heap_alloc w c b h.lt).trans h.out⟩
theorem Ao.new (w:World)(a:Array Value)(t:TypeId):Ao (w.alloc (.cells a t)) w.heap.size a t:=⟨heap_alloc_new w _⟩
theorem Ao.set {w:World}{b:Nat}{a:Array Value}{t:TypeId}(h:Ao w b a t)(j:Nat)(u:Value):Ao (w.setCell ⟨b,j,none⟩ u) b (a.setIfInBounds j u) t:=⟨heap_setCell_same w b j a t u h.out⟩
theorem Ao.setFar {w:World}{b:Nat}{a:Array Value}{t:TypeId}(h:Ao w b a t){p:Addr}(c:b≠p.block)(u:Value):Ao (w.setCell p u) b a t:=⟨(heap_setCell_other w p b u c).trans h.out⟩
theorem Ao.cell {w:World}{b:Nat}{a:Array Value}{t:TypeId}(h:Ao w b a t)(j:Nat):w.cell? ⟨b,j,none⟩=a[j]? :=by
 have:=cell_of_row w b j a t (0,0) h.out
 simpa using this
theorem Ao.frozen {w:World}{b:Nat}{a:Array Value}{t:TypeId}(h:Ao w b a t)(j:Nat):w.frozen? ⟨b,j,none⟩=false:=frozen_of_row w b j a t h.out
def AY (W:World) (b:Nat) (v0 v1 v2 v3:Value):World:=(((W.setCell ⟨b,0,none⟩ v0).setCell ⟨b,1,none⟩ v1).setCell ⟨b,2,none⟩ v2).setCell ⟨b,3,none⟩ v3
theorem Aj {g:World}{b:Nat}{i j k l:Value}{t:TypeId}(h:Ao g b #[i,j,k,l] t)(a c d f:Value):Ao (AY g b a c d f) b #[a,c,d,f] t:=by
 have e:((((#[i,j,k,l].setIfInBounds 0 a).setIfInBounds 1 c).setIfInBounds 2 d).setIfInBounds 3 f)= #[a,c,d,f]:=rfl
 have:=(((h.set 0 a).set 1 c).set 2 d).set 3 f
 rw [e] at this
 exact this
theorem Ac {B:Nat}{w c:World}{b:Nat}(h:Below B w c)(a:B≤b)(d f g i:Value):Below B w (AY c b d f g i):=
 (((h.setCell (p:=⟨b,0,none⟩) a d).setCell (p:=⟨b,1,none⟩) a f).setCell (p:=⟨b,2,none⟩) a g).setCell (p:=⟨b,3,none⟩) a i
set_option linter.unusedVariables false
def EO:List (Nat × Nat)→Nat
 | []=>0
 | p ::ps=>max p.2 (EO ps)
theorem Mk {a:List (Nat × Nat)}{p:Nat × Nat}(h:p∈a):p.2≤EO a:=by
 induction a with
 | nil=>cases h
 | cons c d b=>
  rw [EO]
  rcases List.mem_cons.1 h with e | e
  ·subst e;omega
  ·have:=b e;omega
def AH (ks:List (Nat × Nat)):List Int:=ks.map fun p=>(p.1:Int)
inductive Ay (K:List (List Int)):Nat→List (Nat × Nat)→Nat→Prop
 | nil (a:Nat):Ay K a [] a
 | cons {a t b:Nat} {ks fs:List (Nat × Nat)} (hk:Ay K a ks t) (ht:K[t]? =some (AH ks)) (hf:Ay K (t+1) fs b):Ay K a ((t,EO ks+1) ::fs) b
theorem Ay.le {K:List (List Int)}{a b:Nat}{c:List (Nat × Nat)}(h:Ay K a c b):a≤b:=by
 induction h with
 | nil a=>exact Nat.le_refl _
 | cons d f g i j=>omega
theorem Ay.lt {K:List (List Int)}{a b:Nat}{d:List (Nat × Nat)}(h:Ay K a d b):∀ p∈d,a≤p.1∧p.1 < b:=by
 induction h with
 | nil a=>intro p c;cases c
 | cons f j g k i=>
  intro p c
  have h1:=f.le
  have h2:=g.le
  rcases List.mem_cons.1 c with e | e
  ·subst e;exact ⟨h1,by show _ < _;omega⟩
  ·have:=i p e;omega
theorem Ay.join {K:List (List Int)}{a b c:Nat}{d f:List (Nat × Nat)}(h:Ay K a d b)(k:Ay K b f c):Ay K a (d ++f) c:=by
 induction h with
 | nil a=>exact k
 | cons g i l m j=>exact .cons g i (j k)
theorem Ay.split {K:List (List Int)} :∀ {f d:List (Nat × Nat)} {a c:Nat},Ay K a (f ++d) c→∃ b,Ay K a f b∧Ay K b d c
 | [],d,a,c,h=>⟨a,.nil a,h⟩
 | p ::f,d,a,c,h=>by
  cases h with
  | cons g i j=>
   obtain ⟨b,h1,h2⟩:=Ay.split j
   exact ⟨b,.cons g i h1,h2⟩
def FG (S:List (Nat × Nat)) (i:Nat) (ks:List Int):Option (List (Nat × Nat)):=
 if S.length < ks.length then none
 else if AH (S.drop (S.length - ks.length))≠ks then none
 else if EO (S.drop (S.length - ks.length))=64 then none
 else some (S.take (S.length - ks.length) ++ [(i,EO (S.drop (S.length - ks.length))+1)])
def Cv (K:List (List Int)):Nat→List (Nat × Nat)→Nat→Option (List (Nat × Nat))
 | 0,S,_=>some S
 | n+1,S,i=>match K[i]? with
  | none=>none
  | some ks=>match FG S i ks with
   | none=>none
   | some S'=>Cv K n S' (i+1)
theorem FH (K:List (List Int)):∀ (m n:Nat) (b:List (Nat × Nat)) (a:Nat),Cv K (m+n) b a=(Cv K m b a).bind fun c=>Cv K n c (a+m)
 | 0,n,b,a=>by simp [Cv]
 | m+1,n,b,a=>by
  rw [show m+1+n=(m+n)+1 by omega,Cv,Cv]
  cases K[a]? with
  | none=>rfl
  | some d=>
   dsimp only
   cases FG b a d with
   | none=>rfl
   | some c=>
    dsimp only
    rw [FH K m n c (a+1),show a+1+m=a+(m+1) by omega]
theorem Gm (a:List (Nat × Nat)):(AH a).length=a.length:=by simp [AH]
theorem Ka (b a:List (Nat × Nat))(c:Nat)(h:EO a+1≤64):FG (b ++a) c (AH a)=some (b ++ [(c,EO a+1)]):=by
 have e:(b ++a).length - (AH a).length=b.length:=by rw [Gm,List.length_append];omega
 rw [FG,if_neg (by rw [Gm,List.length_append];omega),e,List.drop_left,if_neg (by simp),if_neg (by omega),List.take_left]
theorem KY {a c:List (Nat × Nat)}{d:Nat}{b:List Int}(h:FG a d b=some c):∃ f B,a=f ++B∧AH B=b∧EO B≠64∧c=f ++ [(d,EO B+1)]:=by
 rw [FG] at h
 split at h
 ·cases h
 ·split at h
  ·cases h
  ·split at h
   ·cases h
   ·rename_i h1 h2 h3
    rw [ne_eq,Decidable.not_not] at h2
    exact ⟨_,_,(List.take_append_drop (a.length - b.length) a).symm,h2,h3,(Option.some.inj h).symm⟩
theorem Iu {K:List (List Int)}{a b:Nat}{d:List (Nat × Nat)}(h:Ay K a d b):∀ (c:List (Nat × Nat)),(∀ p∈d,p.2≤64)→Cv K (b - a) c a=some (c ++d):=by
 induction h with
 | nil a=>intro c _;simp [Cv]
 | @cons a t b f d j k l m n=>
  intro c i
  have h1:=j.le
  have h2:=l.le
  have o:EO f+1≤64:=i _ (List.mem_cons_self ..)
  rw [show b - a=(t - a)+(1+(b - (t+1))) by omega,FH,m c (fun p g=>by have:=Mk g;omega),Option.bind_some,show a+(t - a)=t by omega,FH]
  have e1:Cv K 1 (c ++f) t=some (c ++ [(t,EO f+1)]):=by
   rw [Cv,k]
   dsimp only
   rw [Ka c f t o]
   rfl
  rw [e1,Option.bind_some,n _ (fun p g=>i p (List.mem_cons_of_mem _ g)),List.append_assoc]
  rfl
theorem CQ {K:List (List Int)} :∀ (n:Nat) {b c:List (Nat × Nat)} {a:Nat},Ay K 0 b a→(∀ p∈b,p.2≤64)→Cv K n b a=some c→Ay K 0 c (a+n)∧∀ p∈c,p.2≤64
 | 0,b,c,a,h,hd,hr=>by
  rw [Cv] at hr
  obtain rfl:=Option.some.inj hr
  exact ⟨h,hd⟩
 | n+1,b,c,a,h,hd,hr=>by
  rw [Cv] at hr
  cases f:K[a]? with
  | none=>rw [f] at hr;cases hr
  | some j=>
   rw [f] at hr
   dsimp only at hr
   cases hs:FG b a j with
   | none=>rw [hs] at hr;cases hr
   | some v=>
    rw [hs] at hr
    dsimp only at hr
    obtain ⟨g,B,rfl,l,w,rfl⟩:=KY hs
    obtain ⟨m,o,q⟩:=h.split
    have r:Ay K 0 (g ++ [(a,EO B+1)]) (a+1):=o.join (.cons q (by rw [f,l]) (.nil _))
    have x:EO B≤64:=by
     have:∀ (L:List (Nat × Nat)),(∀ p∈L,p.2≤64)→EO L≤64:=by
      intro L
      induction L with
      | nil=>intro _;simp [EO]
      | cons s y t=>
       intro i
       have h1:=i s (List.mem_cons_self ..)
       have h2:=t (fun p d=>i p (List.mem_cons_of_mem _ d))
       rw [EO];omega
     exact this B (fun p d=>hd p (List.mem_append_right _ d))
    have u:∀ p∈g ++ [(a,EO B+1)],p.2≤64:=fun p d=>by
     rcases List.mem_append.1 d with k | k
     ·exact hd p (List.mem_append_left _ k)
     ·rw [List.mem_singleton.1 k];show EO B+1≤64;omega
    have:=CQ n r u hr
    rw [show a+(n+1)=a+1+n by omega]
    exact this
def Bh (f:Int→List Int→List Int) (top:Int):List Int→List Int→List Int
 | [],out=>out ++ [top]
 | k ::ks,out=>if top≤k then out ++ [-1] else Bh f top ks (f k out)
def Az (K:List (List Int)):Nat→Int→List Int→List Int
 | 0=>fun _ out=>out ++ [-1]
 | n+1=>fun top out=>if top < 0∨(K.length:Int)≤top∨K.length < out.length then out ++ [-1] else Bh (Az K n) top (K.getD top.toNat []) out
def good (l:List Int):Prop:=∀ (i:Nat) (x:Int),l[i]? =some x→x=i
theorem good.pre {l m:List Int}(h:good (l ++m)):good l:=fun a x hx=>by
 have b:a < l.length:=(List.getElem?_eq_some_iff.1 hx).1
 exact h a x (by rw [List.getElem?_append_left b];exact hx)
theorem good.last {l:List Int}{x:Int}(h:good (l ++ [x])):x=l.length:=h l.length x (by simp)
theorem good.snoc {l:List Int}{x:Int}(h:good l)(e:x=l.length):good (l ++ [x]):=fun a y hy=>by
 rcases Nat.lt_trichotomy a l.length with k | k | k
 ·rw [List.getElem?_append_left k] at hy;exact h a y hy
 ·subst k;simp at hy;omega
 ·rw [List.getElem?_append_right (by omega),List.getElem?_eq_none (by simp;omega)] at hy;cases hy
theorem Iv (l:List Int):good l↔∀ a,(h:a < l.length)→l[a]=(a:Int):=by
 constructor
 ·intro h a b;exact h a _ (List.getElem?_eq_getElem b)
 ·intro h a x hx
  obtain ⟨b,e⟩:=List.getElem?_eq_some_iff.1 hx
  rw [← e];exact h a b
theorem Eu {f:Int→List Int→List Int}(b:∀ k out,∃ l,f k out=out ++l)(top:Int):∀ (a out:List Int),∃ l,Bh f top a out=out ++l
 | [],out=>⟨[top],rfl⟩
 | k ::a,out=>by
  rw [Bh]
  split
  ·exact ⟨[-1],rfl⟩
  ·obtain ⟨l,e⟩:=b k out
   obtain ⟨m,e2⟩:=Eu b top a (f k out)
   exact ⟨l ++m,by rw [e2,e,List.append_assoc]⟩
theorem Ev (K:List (List Int)):∀ (n:Nat) (top:Int) (out:List Int),∃ l,Az K n top out=out ++l
 | 0,top,out=>⟨[-1],rfl⟩
 | n+1,top,out=>by
  rw [Az]
  dsimp only
  split
  ·exact ⟨[-1],rfl⟩
  ·exact Eu (Ev K n) top _ out
theorem FI {K:List (List Int)}{f:Int→List Int→List Int}(c:∀ k out,∃ l,f k out=out ++l)
  (g:∀ k out,good (f k out)→∃ d,Ay K out.length [(k.toNat,d)] (f k out).length∧0≤k)(top:Int):
  ∀ (a out:List Int),good (Bh f top a out)→∃ b,AH b=a∧∃ t,Ay K out.length b t∧top=(t:Int)∧(Bh f top a out).length=t+1
 | [],out,h=>⟨[],rfl,out.length,.nil _,by rw [Bh] at h;exact h.last,by simp [Bh]⟩
 | k ::a,out,h=>by
  rw [Bh] at h ⊢
  split at h
  ·have:=h.last;omega
  ·rename_i i
   rw [if_neg i]
   obtain ⟨l,e⟩:=Eu c top a (f k out)
   have h1:good (f k out):=by rw [e] at h;exact h.pre
   obtain ⟨d,h2,h3⟩:=g k out h1
   obtain ⟨b,e1,t,h4,h5,h6⟩:=FI c g top a (f k out) h
   exact ⟨(k.toNat,d) ::b,by simp only [AH,List.map_cons] at e1 ⊢;rw [e1];congr 1;omega,t,h2.join h4,h5,h6⟩
theorem FJ (K:List (List Int)):∀ (n:Nat) (top:Int) (out:List Int),good (Az K n top out)→∃ d,Ay K out.length [(top.toNat,d)] (Az K n top out).length∧0≤top
 | 0,top,out,h=>by
  have:=good.last (l:=out) h
  omega
 | n+1,top,out,h=>by
  rw [Az] at h ⊢
  dsimp only at h ⊢
  split at h
  ·have:=h.last;omega
  ·rename_i hc
   rw [if_neg hc]
   obtain ⟨b,e1,t,h4,h5,h6⟩:=FI (Ev K n) (FJ K n) top _ out h
   have a:top.toNat=t:=by omega
   refine ⟨EO b+1,?_,by omega⟩
   rw [h6,a]
   refine .cons h4 ?_ (.nil _)
   have hl:t < K.length:=by omega
   rw [a] at e1
   rw [e1,List.getElem?_eq_getElem hl,List.getD_eq_getElem?_getD,List.getElem?_eq_getElem hl]
   rfl
def Dd (a b:Nat):List Int:=(List.range' a (b - a)).map fun (i:Nat)=>(i:Int)
theorem Kb (a:Nat):Dd a a= []:=by simp [Dd]
theorem Gn {a b c:Nat}(h1:a≤b)(h2:b≤c):Dd a b ++Dd b c=Dd a c:=by
 rw [Dd,Dd,Dd,← List.map_append,show c - a=(b - a)+(c - b) by omega,← List.range'_append_1,show a+(b - a)=b by omega]
theorem KZ (a:Nat):Dd a (a+1)= [(a:Int)]:=by simp [Dd]
theorem Iw (a b:Nat):(Dd a b).length=b - a:=by simp [Dd]
theorem GJ {K:List (List Int)}{a b:Nat}{i:List (Nat × Nat)}(h:Ay K a i b):
  ∀ (n:Nat) (out:List Int),(∀ p∈i,p.1 < n)→out.length=a→b≤K.length→(AH i).foldl (fun c k=>Az K n k c) out=out ++Dd a b:=by
 induction h with
 | nil a=>intro n out _ _ _;simp [AH,Kb]
 | @cons a t b d i l r s u v=>
  intro n out m w x
  have h1:=l.le
  have h2:=s.le
  have o:=l.lt
  have B:t < n:=m _ (List.mem_cons_self ..)
  obtain ⟨g,rfl⟩:∃ g,n=g+1:=⟨n - 1,by omega⟩
  have y:Az K (g+1) (t:Int) out=out ++Dd a (t+1):=by
   rw [Az]
   dsimp only
   rw [if_neg (by omega),Int.toNat_natCast,List.getD_eq_getElem?_getD,r,Option.getD_some]
   have j:∀ (d:List (Nat × Nat)) (c:List Int),(∀ p∈d,p.1 < t)→Bh (Az K g) (t:Int) (AH d) c=(AH d).foldl (fun c k=>Az K g k c) c ++ [(t:Int)]:=by
    intro d
    induction d with
    | nil=>intro c _;rfl
    | cons p q z=>
     intro c f
     have:=f p (List.mem_cons_self ..)
     rw [show AH (p ::q)=(p.1:Int) ::AH q from rfl,Bh,if_neg (by omega),z _ (fun A j=>f A (List.mem_cons_of_mem _ j))]
     rfl
   rw [j d out (fun p f=>(o p f).2),u g out (fun p f=>by have:=(o p f).2;omega) w (by omega),List.append_assoc,← KZ t,Gn h1 (by omega)]
  rw [show AH ((t,EO d+1) ::i)=(t:Int) ::AH i from rfl,List.foldl_cons,y,v (g+1) _ (fun p f=>m p (List.mem_cons_of_mem _ f)) (by rw [List.length_append,Iw];omega) x,List.append_assoc,Gn (by omega) h2]
theorem Ds {K:List (List Int)}{n:Nat} :∀ (b:List Int) (out:List Int),good (b.foldl (fun a k=>Az K n k a) out)→∃ c,AH c=b∧Ay K out.length c (b.foldl (fun a k=>Az K n k a) out).length
 | [],out,_=>⟨[],rfl,.nil _⟩
 | k ::b,out,h=>by
  rw [List.foldl_cons] at h ⊢
  have f:∃ l,b.foldl (fun a k=>Az K n k a) (Az K n k out)=Az K n k out ++l:=by
   have:∀ (b:List Int) (a:List Int),∃ l,b.foldl (fun a k=>Az K n k a) a=a ++l:=by
    intro b
    induction b with
    | nil=>intro a;exact ⟨[],by simp⟩
    | cons x i g=>
     intro a
     obtain ⟨l,e⟩:=Ev K n x a
     obtain ⟨m,e2⟩:=g (Az K n x a)
     exact ⟨l ++m,by rw [List.foldl_cons,e2,e,List.append_assoc]⟩
   exact this b _
  obtain ⟨l,e⟩:=f
  have h1:good (Az K n k out):=by rw [e] at h;exact h.pre
  obtain ⟨d,h2,h3⟩:=FJ K n k out h1
  obtain ⟨c,e1,h4⟩:=Ds b (Az K n k out) h
  exact ⟨(k.toNat,d) ::c,by simp only [AH,List.map_cons] at e1 ⊢;rw [e1];congr 1;omega,h2.join h4⟩
def AN (K:List (List Int)):Nat→Int→Nat
 | 0=>fun _=>1
 | n+1=>fun top=>((K.getD top.toNat []).foldl (fun d k=>max d (AN K n k)) 0)+1
theorem Ew (g:Int→Nat):∀ (a:List Int) (d:Nat),a.foldl (fun d k=>max d (g k)) d=max d (a.foldl (fun d k=>max d (g k)) 0)
 | [],d=>by simp
 | k ::a,d=>by
  rw [List.foldl_cons,List.foldl_cons,Ew g a,Ew g a (max 0 (g k))]
  omega
theorem Di {K:List (List Int)}{a b:Nat}{c:List (Nat × Nat)}(h:Ay K a c b):∀ (n:Nat),(∀ p∈c,p.1 < n)→(∀ p∈c,AN K n (p.1:Int)=p.2)∧(AH c).foldl (fun d k=>max d (AN K n k)) 0=EO c:=by
 induction h with
 | nil a=>intro n _;exact ⟨fun p f=>(by cases f),rfl⟩
 | @cons a t b i c l m v o q=>
  intro n j
  have w:t < n:=j _ (List.mem_cons_self ..)
  obtain ⟨g,rfl⟩:∃ g,n=g+1:=⟨n - 1,by omega⟩
  have r:=l.lt
  have e1:AN K (g+1) (t:Int)=EO i+1:=by
   rw [AN]
   dsimp only
   rw [Int.toNat_natCast,List.getD_eq_getElem?_getD,m,Option.getD_some,(o g (fun p f=>by have:=(r p f).2;omega)).2]
  obtain ⟨s,u⟩:=q (g+1) (fun p f=>j p (List.mem_cons_of_mem _ f))
  refine ⟨fun p f=>?_,?_⟩
  ·rcases List.mem_cons.1 f with e | e
   ·subst e;exact e1
   ·exact s p e
  ·rw [show AH ((t,EO i+1) ::c)=(t:Int) ::AH c from rfl,List.foldl_cons,Ew,u,e1,EO]
   omega
theorem Kc (n:Nat):good (Dd 0 n):=fun b x hx=>by
 rw [Dd,List.getElem?_map,Option.map_eq_some_iff] at hx
 obtain ⟨j,a,rfl⟩:=hx
 obtain ⟨h1,h2⟩:=List.getElem?_eq_some_iff.1 a
 rw [List.getElem_range'] at h2
 omega
theorem Kd (K:List (List Int))(c:List Int):
  ((c.foldl (fun f k=>Az K K.length k f) []).length=K.length∧good (c.foldl (fun f k=>Az K K.length k f) [])∧∀ r∈c,AN K K.length r≤64)↔∃ g,Cv K K.length [] 0=some g∧AH g=c:=by
 constructor
 ·rintro ⟨h1,h2,h3⟩
  obtain ⟨j,rfl,b⟩:=Ds c [] h2
  rw [h1] at b
  have h:=(Di b K.length (fun p a=>(b.lt p a).2)).1
  have d:=Iu b [] (fun p a=>by
   rw [← h p a]
   exact h3 _ (List.mem_map.2 ⟨p,a,rfl⟩))
  exact ⟨j,by simpa using d,rfl⟩
 ·rintro ⟨g,d,rfl⟩
  obtain ⟨b,h⟩:=CQ K.length (.nil 0) (fun p a=>by cases a) d
  rw [Nat.zero_add] at b
  have i:=GJ b K.length [] (fun p a=>(b.lt p a).2) rfl (Nat.le_refl _)
  rw [List.nil_append] at i
  rw [i]
  refine ⟨by rw [Iw];omega,Kc _,fun r d=>?_⟩
  obtain ⟨p,a,rfl⟩:=List.mem_map.1 d
  rw [(Di b K.length (fun p a=>(b.lt p a).2)).1 p a]
  exact h p a
def DO (c:Int):Bool:=decide (97≤c∧c≤122)
def GK (c:UInt8):Bool:=DO (c.toNat:Int)
def Kn (c:Int):Bool:=DO c || dgI c || decide (c=95)
def BU (c:UInt8):Bool:=Kn (c.toNat:Int)
def Dw (c:UInt8):Bool:=IP (c.toNat:Int)
def Bl (p:UInt8→Bool) (s:ByteArray) (j:Nat):Nat:=j+(((Ad s).drop j).takeWhile p).length
theorem AD (s:ByteArray)(j:Nat)(h:j < s.size):(Ad s).drop j=s[j] ::(Ad s).drop (j+1):=by
 have a:j < (Ad s).length:=by rw [Ag];exact h
 rw [List.drop_eq_getElem_cons a]
 rfl
theorem BG {p:UInt8→Bool}{s:ByteArray}{j:Nat}(h:j < s.size)(a:p s[j]=true):Bl p s j=Bl p s (j+1):=by
 rw [Bl,Bl,AD s j h,List.takeWhile_cons,if_pos a];simp;omega
theorem BH {p:UInt8→Bool}{s:ByteArray}{j:Nat}(h:j < s.size)(a:p s[j]=false):Bl p s j=j:=by
 rw [Bl,AD s j h,List.takeWhile_cons,if_neg (by simp [a])];rfl
theorem Cf {p:UInt8→Bool}{s:ByteArray}{j:Nat}(h:s.size≤j):Bl p s j=j:=by
 rw [Bl,List.drop_of_length_le (by rw [Ag];exact h)];rfl
theorem Gy {p:UInt8→Bool}{s:ByteArray}{j:Nat}(h:j≤s.size):j≤Bl p s j∧Bl p s j≤s.size:=by
 rw [Bl]
 have h1:=(List.takeWhile_prefix p (l:=(Ad s).drop j)).length_le
 have h2:((Ad s).drop j).length=s.size - j:=by rw [List.length_drop,Ag]
 omega
def Ap (p:UInt8→Bool) (r:List UInt8):Nat:=(r.takeWhile p).length
theorem By (p:UInt8→Bool)(r:List UInt8):Ap p r≤r.length:=(List.takeWhile_prefix p).length_le
theorem Bu (p:UInt8→Bool)(s:ByteArray)(j:Nat):Bl p s j=j+Ap p ((Ad s).drop j):=rfl
theorem AC (s:ByteArray)(a j:Nat):Ad (s.extract a j)=((Ad s).drop a).take (j - a):=by
 simp [Ad,ByteArray.data_extract]
theorem Fd (s:ByteArray)(a:Nat):Ad (s.extract a s.size)=(Ad s).drop a:=by
 rw [AC,List.take_of_length_le (by rw [List.length_drop,Ag];exact Nat.le_refl _)]
theorem C5 (p:UInt8→Bool)(s:ByteArray):Bl p s 0=Ap p (Ad s):=by simp [Bu]
def Cx:List (List UInt8):= [[108,101,116], [119,104,101,110], [101,108,115,101], [100,101,110,121], [103,114,97,110,116], [105,102], [116,104,101,110], [110,111,116], [97,110,100], [111,114], [105,110], [119,105,116,104,105,110], [115,105,122,101], [116,114,117,101], [102,97,108,115,101]]
def Dc (l:List UInt8):Bool:=Cx.contains l
def AV:List (List UInt8):= [[61,62], [61,61], [33,61], [60,61]]
def BL:List UInt8:= [60,43,45,42,47,37,124,38,92,40,41,123,125,44,59,61]
inductive FP where
 | bad (code:Int)
 | tok (kind num:Int) (text:List UInt8) (w:Nat)
def AO (r:List UInt8) (w:Nat):Bool:=match r[w]? with
 | some x=>GK x || decide (x=95)
 | none=>false
def AM (r:List UInt8):FP:=
 if 32 < Ap BU r then .bad 3 else .tok (if Dc (r.take (Ap BU r)) then 4 else 3) 0 (r.take (Ap BU r)) (Ap BU r)
def AL (r:List UInt8):FP:=
 if 19 < Ap AU r∨AO r (Ap AU r)=true∨9223372036854775807 < Bg (r.take (Ap AU r)) then .bad 3 else .tok 1 (Bg (r.take (Ap AU r))) [] (Ap AU r)
def AR (r:List UInt8):FP:=
 if 32 < Ap Dw r∨r[Ap Dw r]? ≠some 34 then .bad 3 else .tok 2 0 (r.take (Ap Dw r)) (Ap Dw r+2)
def AA (c:UInt8) (r:List UInt8):FP:=
 if AV.contains (r.take 2) then .tok 5 0 (r.take 2) 2 else if BL.contains c then .tok 5 0 [c] 1 else .bad 2
def AT:List UInt8→FP
 | []=> .bad 0
 | c ::r=>if GK c then AM (c ::r) else if AU c then AL (c ::r) else if c=34 then AR r else AA c (c ::r)
structure Cq where
 kind:Int
 num:Int
 text:ByteArray
 at_:Nat
def Be:Bool→List UInt8→List UInt8
 | _, []=> []
 | false,c ::r=>if c=32∨c=10∨c=9 then Be false r else if c=35 then Be true r else c ::r
 | true,c ::r=>if c=10 then Be false r else Be true r
theorem Dk:∀ (a:Bool) (l:List UInt8),(Be a l).length≤l.length
 | _, []=>by simp [Be]
 | false,c ::r=>by
  rw [Be]
  split
  ·have:=Dk false r;simp;omega
  ·split
   ·have:=Dk true r;simp;omega
   ·exact Nat.le_refl _
 | true,c ::r=>by
  rw [Be]
  split
  ·have:=Dk false r;simp;omega
  ·have:=Dk true r;simp;omega
theorem Cd:∀ (a:Bool) (l:List UInt8),Be false (Be a l)=Be a l
 | _, []=>by simp [Be]
 | false,c ::r=>by
  rw [Be]
  split
  ·exact Cd false r
  ·split
   ·exact Cd true r
   ·rw [Be,if_neg (by assumption),if_neg (by assumption)]
 | true,c ::r=>by
  rw [Be]
  split
  ·exact Cd false r
  ·exact Cd true r
structure Mz where
 toks:List Cq
 code:Int
 at_:Nat
def AE (n:Nat):Nat→List UInt8→List Cq→Mz
 | 0,_,out=>⟨out,0,0⟩
 | f+1,l,out=>match Be false l with
  | []=>⟨out,0,0⟩
  | c ::r=>match AT (c ::r) with
   | .bad code=>⟨[],code,n - (r.length+1)⟩
   | .tok k m s w=>AE n f ((c ::r).drop w) (out ++ [⟨k,m,Bo s,n - (r.length+1)⟩])
theorem Eb (n f:Nat)(l:List UInt8)(out:List Cq):AE n f (Be false l) out=AE n f l out:=by
 cases f with
 | zero=>rfl
 | succ f=>rw [AE,AE,Cd]
theorem Bi (n f:Nat){l a:List UInt8}(h:Be false l=Be false a)(out:List Cq):AE n f l out=AE n f a out:=by
 rw [← Eb,h,Eb]
def Ax (t:ByteArray):Mz:=if 4000 < t.size then ⟨[],1,0⟩ else AE t.size (t.size+1) (Ad t) []
def FP.okW:FP→List UInt8→Prop
 | .bad _,_=>True
 | .tok _ _ s w,r=>1≤w∧w≤r.length∧s.length≤w
theorem CN {p:UInt8→Bool}{c:UInt8}{r:List UInt8}(h:p c=true): 1≤Ap p (c ::r):=by
 rw [Ap,List.takeWhile_cons,if_pos h];simp
theorem Cm (r:List UInt8):(AT r).okW r:=by
 cases r with
 | nil=>simp [AT,FP.okW]
 | cons c r=>
  rw [AT]
  split
  case isTrue h=>
   rw [AM]
   split
   ·exact trivial
   ·have h1:=CN (p:=BU) (c:=c) (r:=r) (by rw [BU,Kn];rw [GK] at h;simp [h])
    have h2:=By BU (c ::r)
    exact ⟨h1,h2,by rw [List.length_take];omega⟩
  case isFalse h=>
   split
   case isTrue h=>
    rw [AL]
    split
    ·exact trivial
    ·exact ⟨CN h,By _ _,Nat.zero_le _⟩
   case isFalse h=>
    split
    case isTrue h=>
     rw [AR]
     split
     ·exact trivial
     ·rename_i h1
      rw [not_or,Decidable.not_not] at h1
      have h2:=(List.getElem?_eq_some_iff.1 h1.2).1
      exact ⟨by omega,by simp;omega,by rw [List.length_take];omega⟩
    case isFalse h=>
     rw [AA]
     split
     case isTrue h=>
      have h2: 2≤(c ::r).length:=by
       cases r with
       | nil=>exfalso;revert h;simp [AV]
       | cons d r=>simp
      exact ⟨by omega,h2,by rw [List.length_take];omega⟩
     case isFalse h=>
      split
      ·exact ⟨by omega,by simp,by simp⟩
      ·exact trivial
theorem CW {n f:Nat}{c:UInt8}{r:List UInt8}{out:List Cq}{k m:Int}{s:List UInt8}{w:Nat}(a:Be false (c ::r)=c ::r)(h:AT (c ::r)= .tok k m s w):
  AE n (f+1) (c ::r) out=AE n f ((c ::r).drop w) (out ++ [⟨k,m,Bo s,n - (r.length+1)⟩]):=by
 rw [AE,a];simp only [h]
theorem Ec {n f:Nat}{c:UInt8}{r:List UInt8}{out:List Cq}{code:Int}(a:Be false (c ::r)=c ::r)(h:AT (c ::r)= .bad code):
  AE n (f+1) (c ::r) out=⟨[],code,n - (r.length+1)⟩:=by
 rw [AE,a];simp only [h]
theorem CX {n f:Nat}{out:List Cq} :AE n f [] out=⟨out,0,0⟩:=by
 cases f <;> simp [AE,Be]
theorem DR:∀ (l:List UInt8) (n:Int),l.foldl (fun n x=>n * 10+((x.toNat:Int) - 48)) n=n * 10 ^ l.length+Bg l
 | [],n=>by simp [Bg]
 | x ::xs,n=>by
  have e:Bg (x ::xs)=(0 * 10+((x.toNat:Int) - 48)) * 10 ^ xs.length+Bg xs:=DR xs _
  rw [List.foldl_cons,DR xs,e,List.length_cons,Int.pow_succ]
  rw [Int.add_mul,Int.add_mul]
  have:n * 10 * 10 ^ xs.length=n * (10 ^ xs.length * 10):=by rw [Int.mul_assoc,Int.mul_comm 10]
  omega
theorem Fo (x:UInt8)(l:List UInt8):Bg (x ::l)=((x.toNat:Int) - 48) * 10 ^ l.length+Bg l:=by
 rw [Bg,List.foldl_cons,DR]
 simp
theorem I2:∀ (a b:List UInt8),a.length=b.length→a.all AU=true→b.all AU=true→(a < b↔Bg a < Bg b)
 | [], [],_,_,_=>by simp
 | [],_ ::_,h,_,_=>by simp at h
 | _ ::_, [],h,_,_=>by simp at h
 | x ::xs,y ::ys,h,ha,hb=>by
  have c:xs.length=ys.length:=by simpa using h
  rw [List.all_cons,Bool.and_eq_true] at ha hb
  have d:=I2 xs ys c ha.2 hb.2
  obtain ⟨a1,a2⟩:=Ca _ xs rfl ha.2
  obtain ⟨b1,b2⟩:=Ca _ ys rfl hb.2
  rw [Fo,Fo,List.cons_lt_cons_iff,d,c]
  rw [c] at a2
  have f:(0 :Int) < 10 ^ ys.length:=by omega
  generalize (10 :Int) ^ ys.length=p at *
  rcases Nat.lt_trichotomy x.toNat y.toNat with e | e | e
  ·have h1:x < y:=UInt8.lt_iff_toNat_lt.2 e
   have:((x.toNat:Int) - 48+1) * p≤((y.toNat:Int) - 48) * p:=Int.mul_le_mul_of_nonneg_right (by omega) (by omega)
   rw [Int.add_mul] at this
   constructor
   ·intro _;omega
   ·intro _;exact .inl h1
  ·have h1:x=y:=UInt8.toNat_inj.1 e
   subst h1
   constructor
   ·rintro (h | ⟨_,h⟩)
    ·exact absurd h (by simp [UInt8.lt_irrefl])
    ·omega
   ·intro h;exact .inr ⟨rfl,by omega⟩
  ·have h1:y < x:=UInt8.lt_iff_toNat_lt.2 e
   have:((y.toNat:Int) - 48+1) * p≤((x.toNat:Int) - 48) * p:=Int.mul_le_mul_of_nonneg_right (by omega) (by omega)
   rw [Int.add_mul] at this
   constructor
   ·rintro (h | ⟨h,_⟩)
    ·exfalso;have h2:=UInt8.lt_iff_toNat_lt.1 h;omega
    ·subst h;omega
   ·intro h;omega
def Fp:List UInt8:= [57,50,50,51,51,55,50,48,51,54,56,53,52,55,55,53,56,48,55]
theorem KQ:Bg Fp=9223372036854775807:=by decide
theorem Bs (p:UInt8→Bool)(r:List UInt8):(r.take (Ap p r)).all p=true:=by
 have:r.take (Ap p r)=r.takeWhile p:=by
  obtain ⟨t,a⟩:=List.takeWhile_prefix p (l:=r)
  rw [Ap]
  have e:(r.takeWhile p ++t).take (r.takeWhile p).length=r.takeWhile p:=by simp
  rw [a] at e
  exact e
 rw [this,List.all_takeWhile]
theorem AF (k:Nat)(d:List UInt8)(h:d.all AU=true): 0≤Bg (d.take k)∧Bg (d.take k)≤Bg d:=by
 have h1:(d.take k).all AU=true:=by rw [List.all_eq_true] at h ⊢;exact fun x hx=>h x (List.mem_of_mem_take hx)
 have h2:(d.drop k).all AU=true:=by rw [List.all_eq_true] at h ⊢;exact fun x hx=>h x (List.mem_of_mem_drop hx)
 obtain ⟨a1,_⟩:=Ca _ _ rfl h1
 obtain ⟨b1,b2⟩:=Ca _ _ rfl h2
 refine ⟨a1,?_⟩
 conv=>rhs;rw [← List.take_append_drop k d,Bg,List.foldl_append,DR]
 have a:(1 :Int)≤10 ^ (d.drop k).length:=by omega
 have:=Int.mul_le_mul_of_nonneg_left a a1
 have e:Bg (d.take k)=List.foldl (fun n x=>n * 10+((x.toNat:Int) - 48)) 0 (d.take k):=rfl
 rw [← e]
 omega
end Go.Proofs.YtcpdodmoheebaaaGreatDoor
