/-
  KTA, TM, QC, QD, Laws, WD, QS0, TF. Own work.
-/
import Derived.Test.YtcpdodmoheebaaaGreatDoorMXAB
import Derived.Test.YtcpdodmoheebaaaGreatDoorMXAD
import Derived.Test.YtcpdodmoheebaaaGreatDoorMXAK
import Derived.Lib.Builder
import Derived.Lib.AppendStr
import Derived.Lib.OthersKept
import Derived.Lib.UnsafeStr
import Derived.Test.YtcpdodmoheebaaaGreatDoorAs
import Derived.Test.YtcpdodmoheebaaaGreatDoorIs
import Derived.Test.YtcpdodmoheebaaaGreatDoorMXAA
import Derived.Deep.RegionHeld3
namespace Go.Proofs.YtcpdodmoheebaaaGreatDoor
open Go.RowKit
set_option linter.unusedVariables false
theorem DD:∀ (b:Bool) (l:List UInt8),∃ a,l=a ++Be b l∧Be b a= []
 | _, []=>⟨[],by simp [Be],by simp [Be]⟩
 | false,c ::r=>by
  rw [Be]
  split
  ·rename_i h
   obtain ⟨a,h1,h2⟩:=DD false r
   exact ⟨c ::a,by rw [List.cons_append,← h1],by rw [Be,if_pos h];exact h2⟩
  ·rename_i h
   split
   ·rename_i h3
    obtain ⟨a,h1,h2⟩:=DD true r
    exact ⟨c ::a,by rw [List.cons_append,← h1],by rw [Be,if_neg h,if_pos h3];exact h2⟩
   ·exact ⟨[],rfl,by simp [Be]⟩
 | true,c ::r=>by
  rw [Be]
  split
  ·rename_i h
   obtain ⟨a,h1,h2⟩:=DD false r
   exact ⟨c ::a,by rw [List.cons_append,← h1],by rw [Be,if_pos h];exact h2⟩
  ·rename_i h
   obtain ⟨a,h1,h2⟩:=DD true r
   exact ⟨c ::a,by rw [List.cons_append,← h1],by rw [Be,if_neg h];exact h2⟩
theorem JI (l:List UInt8):Be false (32 ::l)=Be false l:=by
 rw [Be,if_pos (by decide)]
theorem Km {c:UInt8}{r l:List UInt8}(h:Be false l=c ::r)(x:List UInt8):Be false (c ::x)=c ::x:=by
 have h1:Be false (c ::r)=c ::r:=by rw [← h,Cd]
 rw [Be] at h1
 rw [Be]
 split
 ·rename_i h2
  rw [if_pos h2] at h1
  have:=Dk false r
  rw [h1] at this
  simp at this
  omega
 ·rename_i h2
  rw [if_neg h2] at h1
  split
  ·rename_i h3
   rw [if_pos h3] at h1
   have:=Dk true r
   rw [h1] at this
   simp at this
   omega
  ·rfl
theorem DE {p:UInt8→Bool}{x:UInt8}(hx:p x=false)(y:List UInt8):∀ (l:List UInt8),Ap p (l.take (Ap p l) ++x ::y)=Ap p l
 | []=>by simp [Ap,hx]
 | c ::r=>by
  by_cases h:p c=true
  ·have e:Ap p (c ::r)=Ap p r+1:=by simp [Ap,h]
   rw [e,List.take_succ_cons,List.cons_append]
   have a:=DE hx y r
   have e2:Ap p (c ::(r.take (Ap p r) ++x ::y))=Ap p (r.take (Ap p r) ++x ::y)+1:=by simp [Ap,h]
   rw [e2,a]
  ·have e:Ap p (c ::r)=0:=by simp [Ap,h]
   rw [e]
   simp [Ap,hx]
theorem EY (l:List UInt8)(n:Nat)(h:n≤l.length)(y:List UInt8):(l.take n ++y).take n=l.take n:=by
 rw [List.take_append_of_le_length (by rw [List.length_take];omega),List.take_take,Nat.min_self]
theorem II {c:UInt8}{r:List UInt8}{k m:Int}{s:List UInt8}{b:Nat}(h:AT (c ::r)= .tok k m s b)(y:List UInt8):AT ((c ::r).take b ++32 ::y)= .tok k m s b:=by
 rw [AT] at h
 by_cases h1:GK c=true
 ·rw [if_pos h1,AM] at h
  split at h
  ·cases h
  ·rename_i l
   simp only [FP.tok.injEq] at h
   obtain ⟨e1,e2,e3,e4⟩:=h
   have n: 1≤b:=by
    rw [← e4]
    exact CN (by rw [BU,Kn];rw [GK] at h1;simp [h1])
   obtain ⟨a,rfl⟩:∃ k,b=k+1:=⟨b - 1,by omega⟩
   rw [List.take_succ_cons,List.cons_append,AT,if_pos h1,AM]
   have g:Ap BU (c ::(r.take a ++32 ::y))=a+1:=by
    have:=DE (p:=BU) (x:=32) (by decide) y (c ::r)
    rw [e4,List.take_succ_cons,List.cons_append] at this
    exact this
   have i:(c ::(r.take a ++32 ::y)).take (a+1)=s:=by
    have hl:=By BU (c ::r)
    rw [e4] at hl
    have:=EY (c ::r) (a+1) hl (32 ::y)
    rw [List.take_succ_cons,List.cons_append] at this
    rw [this,← e3,e4,List.take_succ_cons]
   rw [g,i,if_neg (by rw [← e4];exact l)]
   rw [e3] at e1
   rw [e1,e2]
 ·rw [if_neg h1] at h
  by_cases h2:AU c=true
  ·rw [if_pos h2,AL] at h
   split at h
   ·cases h
   ·rename_i f
    simp only [FP.tok.injEq] at h
    obtain ⟨e1,e2,e3,e4⟩:=h
    have n: 1≤b:=by rw [← e4];exact CN h2
    obtain ⟨a,rfl⟩:∃ k,b=k+1:=⟨b - 1,by omega⟩
    rw [List.take_succ_cons,List.cons_append,AT,if_neg h1,if_pos h2,AL]
    have hl:=By AU (c ::r)
    rw [e4] at hl
    have g:Ap AU (c ::(r.take a ++32 ::y))=a+1:=by
     have:=DE (p:=AU) (x:=32) (by decide) y (c ::r)
     rw [e4,List.take_succ_cons,List.cons_append] at this
     exact this
    have i:(c ::(r.take a ++32 ::y)).take (a+1)=(c ::r).take (a+1):=by
     have:=EY (c ::r) (a+1) hl (32 ::y)
     rw [List.take_succ_cons,List.cons_append] at this
     rw [this,List.take_succ_cons]
    have o:AO (c ::(r.take a ++32 ::y)) (a+1)=false:=by
     have:(c ::(r.take a ++32 ::y))[a+1]? =some 32:=by
      simp only [List.length_cons] at hl
      rw [List.getElem?_cons_succ,List.getElem?_append_right (by rw [List.length_take];omega),List.length_take,Nat.min_eq_left (by omega)]
      simp
     rw [AO,this]
     decide
    rw [g,i,o]
    rw [e4] at f e2
    rw [not_or,not_or] at f
    rw [if_neg (by rw [not_or,not_or];exact ⟨f.1,by simp,f.2.2⟩),e2,e1,e3]
  ·rw [if_neg h2] at h
   by_cases h3:c=34
   ·subst h3
    rw [if_pos rfl,AR] at h
    split at h
    ·cases h
    ·rename_i f
     simp only [FP.tok.injEq] at h
     obtain ⟨e1,e2,e3,e4⟩:=h
     rw [not_or,Decidable.not_not] at f
     generalize q:Ap Dw r=j at *
     subst e4
     have t:=(List.getElem?_eq_some_iff.1 f.2).1
     have u:=(List.getElem?_eq_some_iff.1 f.2).2
     have v:r.take (j+1)=r.take j ++ [34]:=by rw [List.take_succ_eq_append_getElem t,u]
     rw [List.take_succ_cons,List.cons_append,AT,if_neg h1,if_neg h2,if_pos rfl,AR,v,List.append_assoc]
     have g:Ap Dw (r.take j ++([34] ++32 ::y))=j:=by
      have:=DE (p:=Dw) (x:=34) (by decide) (32 ::y) r
      rw [q] at this
      exact this
     have w:(r.take j ++([34] ++32 ::y))[j]? =some 34:=by
      rw [List.getElem?_append_right (by rw [List.length_take];omega),List.length_take,Nat.min_eq_left (by omega)]
      simp
     rw [g,w,if_neg (by rw [not_or,Decidable.not_not];exact ⟨f.1,rfl⟩),EY r j (by omega),e1,e2,e3]
   ·rw [if_neg h3,AA] at h
    by_cases h4:AV.contains ((c ::r).take 2)=true
    ·rw [if_pos h4] at h
     simp only [FP.tok.injEq] at h
     obtain ⟨e1,e2,e3,e4⟩:=h
     subst e4
     cases r with
     | nil=>exfalso;revert h4;simp [AV]
     | cons d r=>
      have e5:(c ::d ::r).take 2 ++32 ::y=c ::d :: 32 ::y:=rfl
      have z:(c ::d :: 32 ::y).take 2=(c ::d ::r).take 2:=rfl
      rw [e5,AT,if_neg h1,if_neg h2,if_neg h3,AA,z,if_pos h4,e1,e2,e3]
    ·rw [if_neg h4] at h
     split at h
     ·rename_i h5
      simp only [FP.tok.injEq] at h
      obtain ⟨e1,e2,e3,e4⟩:=h
      subst e4
      have e5:(c ::r).take 1 ++32 ::y=c :: 32 ::y:=rfl
      have h6: ¬ AV.contains ((c :: 32 ::y).take 2)=true:=by
       show ¬ AV.contains [c,32]=true
       simp [AV]
      rw [e5,AT,if_neg h1,if_neg h2,if_neg h3,AA,if_neg h6,if_pos h5,e1,e2,e3]
     ·cases h
theorem JJ {c:UInt8}{r:List UInt8}{k m:Int}{s:List UInt8}{a:Nat}(h:AT (c ::r)= .tok k m s a):(k=2∧a=s.length+2)∨(k=1∧a=Ap AU (c ::r))∨(k≠1∧k≠2∧a=s.length):=by
 rw [AT] at h
 split at h
 ·rw [AM] at h
  split at h
  ·cases h
  ·simp only [FP.tok.injEq] at h
   obtain ⟨e1,e2,e3,e4⟩:=h
   refine .inr (.inr ⟨?_,?_,?_⟩)
   ·rw [← e1];split <;> decide
   ·rw [← e1];split <;> decide
   ·rw [← e3,← e4,List.length_take,Nat.min_eq_left (By _ _)]
 ·split at h
  ·rw [AL] at h
   split at h
   ·cases h
   ·simp only [FP.tok.injEq] at h
    exact .inr (.inl ⟨h.1.symm,h.2.2.2.symm⟩)
  ·split at h
   ·rw [AR] at h
    split at h
    ·cases h
    ·simp only [FP.tok.injEq] at h
     obtain ⟨e1,e2,e3,e4⟩:=h
     exact .inl ⟨e1.symm,by rw [← e3,← e4,List.length_take,Nat.min_eq_left (By _ _)]⟩
   ·rw [AA] at h
    split at h
    ·rename_i h2
     simp only [FP.tok.injEq] at h
     obtain ⟨e1,e2,e3,e4⟩:=h
     have hl: 2≤(c ::r).length:=by
      cases r with
      | nil=>exfalso;revert h2;simp [AV]
      | cons d r=>simp
     exact .inr (.inr ⟨by rw [← e1];decide,by rw [← e1];decide,by rw [← e3,← e4,List.length_take];omega⟩)
    ·split at h
     ·simp only [FP.tok.injEq] at h
      obtain ⟨e1,e2,e3,e4⟩:=h
      exact .inr (.inr ⟨by rw [← e1];decide,by rw [← e1];decide,by rw [← e3,← e4];rfl⟩)
     ·cases h
inductive Tks (n:Nat):List UInt8→List Cq→List UInt8→Prop
 | nil {l:List UInt8} (h:Be false l= []):Tks n l [] []
 | cons {pre r:List UInt8} {c:UInt8} {k m:Int} {s:List UInt8} {wd:Nat} {T:List Cq} {A:List UInt8} (hp:Be false pre= []) (hb:Be false (c ::r)=c ::r) (ho:AT (c ::r)= .tok k m s wd) (ht:Tks n ((c ::r).drop wd) T A):
   Tks n (pre ++c ::r) (⟨k,m,Bo s,n - (r.length+1)⟩ ::T) ((c ::r).take wd ++32 ::A)
theorem Ea (n:Nat):∀ (f:Nat) (l:List UInt8) (out:List Cq),l.length < f→(AE n f l out).code=0→∃ d j,(AE n f l out).toks=out ++d∧Tks n l d j
 | 0,l,out,h,_=>by omega
 | f+1,l,out,h,hc=>by
  obtain ⟨t,h1,h2⟩:=DD false l
  cases b:Be false l with
  | nil=>
   refine ⟨[], [],?_,.nil b⟩
   rw [AE,b];simp
  | cons c r=>
   have g:Be false (c ::r)=c ::r:=by rw [← b,Cd]
   have p:=Dk false l
   rw [b] at p h1
   have e:AE n (f+1) l out=AE n (f+1) (c ::r) out:=by rw [← b,Eb]
   rw [e] at hc ⊢
   cases a:AT (c ::r) with
   | bad code=>
    rw [Ec g a] at hc
    exfalso
    have q:code=0:=hc
    have:code≠0:=by
     rw [AT] at a
     split at a
     ·rw [AM] at a;(split at a <;> cases a) <;> decide
     ·split at a
      ·rw [AL] at a;(split at a <;> cases a) <;> decide
      ·split at a
       ·rw [AR] at a;(split at a <;> cases a) <;> decide
       ·rw [AA] at a
        split at a
        ·cases a
        ·(split at a <;> cases a) <;> decide
    exact this q
   | tok k m s i=>
    rw [CW g a] at hc ⊢
    have o:=Cm (c ::r)
    rw [a] at o
    obtain ⟨u,v,_⟩: 1≤i∧i≤(c ::r).length∧s.length≤i:=o
    obtain ⟨d,j,e1,e2⟩:=Ea n f _ _ (by rw [List.length_drop];omega) hc
    exact ⟨⟨k,m,Bo s,n - (r.length+1)⟩ ::d,_,by rw [e1,List.append_assoc];rfl,by rw [h1];exact .cons h2 g a e2⟩
def Lk (t:Cq):Int × Int × ByteArray:=(t.kind,t.num,t.text)
theorem Tks.again {n:Nat}{l:List UInt8}{o:List Cq}{a:List UInt8}(h:Tks n l o a):∀ (b f:Nat) (out:List Cq),a.length < f→∃ i,AE b f a out=⟨out ++i,0,0⟩∧i.map Lk=o.map Lk:=by
 induction h with
 | nil h=>intro b f out d;exact ⟨[],by rw [CX,List.append_nil],rfl⟩
 | @cons z r c k m s g o a A u p B v=>
  intro b f out d
  match f,d with
  | f+1,d=>
   have q:=Cm (c ::r)
   rw [p] at q
   obtain ⟨C,w,_⟩: 1≤g∧g≤(c ::r).length∧s.length≤g:=q
   have t:=II p a
   obtain ⟨j,rfl⟩:∃ k,g=k+1:=⟨g - 1,by omega⟩
   rw [List.take_succ_cons,List.cons_append] at t d ⊢
   have x:=Km u (r.take j ++32 ::a)
   rw [CW x t]
   have y:(c ::(r.take j ++32 ::a)).drop (j+1)=32 ::a:=by
    rw [List.drop_succ_cons]
    simp only [List.length_cons] at w
    rw [List.drop_append_of_le_length (by rw [List.length_take];omega),List.drop_eq_nil_of_le (by rw [List.length_take];omega)]
    rfl
   rw [y,Bi b f (JI a)]
   simp only [List.length_cons,List.length_append] at d
   obtain ⟨i,e1,e2⟩:=v b f (out ++ [⟨k,m,Bo s,b - ((r.take j ++32 ::a).length+1)⟩]) (by omega)
   exact ⟨_ ::i,by rw [e1,List.append_assoc];rfl,by rw [List.map_cons,List.map_cons,e2];rfl⟩
def El (t:Cq):List Value:= [.int .i64 t.kind,.int .i64 t.num,.string t.text,.int .i64 (t.at_:Int)]
def Cw (T:List Cq):List Value:=T.flatMap El
theorem Im:∀ (a:List Cq),(Cw a).length=a.length * 4
 | []=>rfl
 | t ::a=>by
  have:=Im a
  simp only [Cw,List.flatMap_cons,List.length_append,List.length_cons] at this ⊢
  simp only [El,List.length_cons,List.length_nil]
  omega
theorem Gc (a:List Cq)(t:Cq):Cw (a ++ [t])=Cw a ++El t:=by simp [Cw]
theorem Jx:∀ (a:List Cq) (j:Nat) (h:j < a.length),(Cw a)[j * 4]? =some (.int .i64 a[j].kind)∧(Cw a)[j * 4+1]? =some (.int .i64 a[j].num)∧(Cw a)[j * 4+2]? =some (.string a[j].text)∧(Cw a)[j * 4+3]? =some (.int .i64 (a[j].at_:Int))
 | t ::a,0,_=>⟨rfl,rfl,rfl,rfl⟩
 | t ::a,j+1,h=>by
  have d:=Jx a j (by simpa using h)
  have e:Cw (t ::a)=El t ++Cw a:=rfl
  have e1:∀ b,(El t ++Cw a)[(j+1) * 4+b]? =(Cw a)[j * 4+b]? :=fun b=>by
   rw [List.getElem?_append_right (by simp [El];omega)]
   congr 1
   simp [El];omega
  have c:=e1 0
  rw [Nat.add_zero,Nat.add_zero] at c
  rw [e,c,e1 1,e1 2,e1 3]
  simpa using d
def KL (T:List Cq):Prop:=∀ t∈T,t.text.size≤maxLen
structure Cs (w:World) (lo hi:Nat) (a:Option Addr) (n c:Nat) (T:List Cq):Prop where
 own:w.ownsRow lo 30 4 (.slice a n c) n (Cw T)
 lt:∀ x,a=some x→x.block < hi
 sizes:KL T
 top:hi≤w.heap.size
theorem Cs.len {w:World}{d f n c:Nat}{a:Option Addr}{b:List Cq}(h:Cs w d f a n c b):b.length=n:=by
 have:=h.own.1
 rw [Im] at this
 omega
theorem AZ {w w':World}{d n c:Nat}{a:Option Addr}{f:List Value}(h:w.ownsRow d 30 4 (.slice a n c) n f)(i:∀ x,a=some x→w'.heap[x.block]? =w.heap[x.block]?):w'.ownsRow d 30 4 (.slice a n c) n f:=by
 refine ⟨h.1,?_⟩
 rcases h.2 with h2 | ⟨g,cap,j,b,h3,k,h4⟩
 ·exact .inl h2
 ·refine .inr ⟨g,cap,j,b,h3,?_,h4⟩
  simp only [Value.slice.injEq] at b
  rw [← k]
  exact i ⟨g,0,none⟩ b.1
theorem Cs.below {w w':World}{d b n c B:Nat}{a:Option Addr}{f:List Cq}(h:Cs w d b a n c f)(g:Below B w w')(i:b≤B):Cs w' d b a n c f:=
 ⟨AZ h.own (fun x hx=>g.block _ (by have:=h.lt x hx;omega)),h.lt,h.sizes,Nat.le_trans h.top g.size⟩
theorem Cs.touch {w w':World}{b d n c f g:Nat}{a:Option Addr}{i:List Cq}(h:Cs w b d a n c i)(t:As f g w w')(j:d≤f∨g≤b):Cs w' b d a n c i:=
 ⟨AZ h.own (fun x hx=>t.block _ (by have:=h.lt x hx;have:=h.top;omega) (by
  have h1:=h.lt x hx
  have h2:b≤x.block:=by subst hx;exact (h.own.lt _ rfl).1
  omega)),h.lt,h.sizes,Nat.le_trans h.top t.size⟩
theorem Cs.form {w:World}{d f n c:Nat}{a:Option Addr}{i:List Cq}(h:Cs w d f a n c i)(k: 0 < n):∃ g,a=some ⟨g,0,none⟩∧d≤g∧g < f∧g < w.heap.size:=by
 rcases h.own.2 with ⟨_,h0⟩ | ⟨g,cap,l,b,h3,j,_⟩
 ·omega
 ·simp only [Value.slice.injEq] at b
  exact ⟨g,b.1,h3,h.lt _ b.1,(Array.getElem?_eq_some_iff.1 j).1⟩
theorem Cs.small {w:World}{b d n c:Nat}{a:Option Addr}{f:List Cq}(h:Cs w b d a n c f):n≤9223372036854775807:=by
 rcases h.own.2 with ⟨_,h0⟩ | ⟨g,cap,i,j,h3,k,h4,h5,_⟩
 ·omega
 ·unfold maxLen at h5;omega
theorem Cs.cells {w:World}{b d n c g:Nat}{a:List Cq}(h:Cs w b d (some ⟨g,0,none⟩) n c a)(j:Nat)(f:j < a.length):
  w.cell? ⟨g,j * 4,none⟩=some (.int .i64 a[j].kind)∧w.cell? ⟨g,j * 4+1,none⟩=some (.int .i64 a[j].num)∧w.cell? ⟨g,j * 4+2,none⟩=some (.string a[j].text)∧w.cell? ⟨g,j * 4+3,none⟩=some (.int .i64 (a[j].at_:Int)):=by
 obtain ⟨i,e1,e2,e3⟩:=Jx a j f
 have hl:=h.len
 exact ⟨(h.own.cellAt _ (by omega)).trans i,(h.own.cellAt _ (by omega)).trans e1,(h.own.cellAt _ (by omega)).trans e2,(h.own.cellAt _ (by omega)).trans e3⟩
theorem Cs.of {w:World}{d n c:Nat}{a:Option Addr}{b:List Cq}(h:w.ownsRow d 30 4 (.slice a n c) n (Cw b))(hs:KL b):Cs w d w.heap.size a n c b:=
 ⟨h,fun x hx=>by subst hx;exact (h.lt _ rfl).2,hs,Nat.le_refl _⟩
structure Kp (B b:Nat) (w w':World):Prop where
 low:Below B w w'
 oth:Lib.OthersKept 5 (some b) w w'
theorem Kp.refl (B b:Nat)(w:World):Kp B b w w:=⟨Below.refl _ _,Lib.OthersKept.refl _ _ _⟩
theorem Kp.trans {B b:Nat}{w a c:World}(h:Kp B b w a)(k:Kp B b a c):Kp B b w c:=⟨h.low.trans k.low,h.oth.trans k.oth⟩
theorem Kp.size {B b:Nat}{w w':World}(h:Kp B b w w'):w.heap.size≤w'.heap.size:=h.low.size
theorem Kp.row {B b:Nat}{w w':World}(h:Kp B b w w'){g:Nat}{a:Array Value}{t:TypeId}(d:Ao w g a t)(f:g≠b)(i:t≠5):Ao w' g a t:=
 ⟨h.oth g _ d.out (fun e=>f (Option.some.inj e)) (fun c j e=>i (by injection e))⟩
def Gz:List ByteArray→ByteArray
 | []=>⟨#[]⟩
 | x ::r=>x ++Gz r
theorem F5 (x:ByteArray):∀ (l:List ByteArray),Gz (l ++ [x])=Gz l ++x
 | []=>by simp [Gz,DK,ER]
 | y ::r=>by rw [List.cons_append,Gz,Gz,F5 x r,ByteArray.append_assoc]
def Wd (w:World) (x:Addr) (n:Nat) (t:TypeId):Prop:=∃ q cs,x=⟨q,0,none⟩∧Ao w q cs t∧cs.size=n
theorem Wd.below {w w':World}{B n:Nat}{x:Addr}{t:TypeId}(h:Wd w x n t)(a:Below B w w')(b:w.heap.size≤B):Wd w' x n t:=by
 obtain ⟨c,d,e,r,f⟩:=h
 exact ⟨c,d,e,r.after a b,f⟩
theorem Wd.setFar {w:World}{n:Nat}{x:Addr}{t:TypeId}(h:Wd w x n t){p:Addr}(a:p.block≠x.block)(u:Value):Wd (w.setCell p u) x n t:=by
 obtain ⟨b,c,rfl,r,d⟩:=h
 exact ⟨b,c,rfl,r.setFar (fun e=>a e.symm) u,d⟩
theorem Wd.of_owns {w:World}{B n:Nat}{x:Addr}{t:TypeId}{b:List Value}(h:w.ownsRow B t 1 (.slice (some x) n n) n b):Wd w x n t:=by
 rcases h.2 with ⟨a,_⟩ | ⟨g,cap,c,a,_,d,_,_,f,_⟩
 ·cases a
 ·cases a
  exact ⟨g,c,rfl,⟨d⟩,by omega⟩
theorem BZ.inv {N:List Nd}{d:Nat}{f:Ex}(u:BZ N d f){x:Nd}(hx:N[d]? =some x):
  (x.op=1∧f= .int d x.num)∨(x.op=2∧f= .text d x.text)∨(x.op=3∧f= .bool d (decide (x.num=1)))∨(x.op=4∧∃ a n c,f= .set d a n c x.names)∨(x.op=5∧f= .name d x.text)∨(x.op=6∧f= .attr d x.num)∨(x.op=7∧f= .lett d x.num)∨
  ((8≤x.op∧x.op≤10)∧∃ (k:Nat) (e:Ex),x.kids= [(k:Int)]∧BZ N k e∧f= .un d x.op e)∨
  ((11≤x.op∧x.op≤26)∧∃ (k l:Nat) (e g:Ex),x.kids= [(k:Int),(l:Int)]∧BZ N k e∧BZ N l g∧f= .bin d x.op e g)∨
  (x.op=27∧∃ (k l m:Nat) (e g h:Ex),x.kids= [(k:Int),(l:Int),(m:Int)]∧BZ N k e∧BZ N l g∧BZ N m h∧f= .ite d e g h):=by
 have j:∀ {y:Nd},N[d]? =some y→y=x:=fun k=>Option.some.inj (k.symm.trans hx)
 cases u with
 | int h b i=>obtain rfl:=j h;exact .inl ⟨b,rfl⟩
 | text h b i=>obtain rfl:=j h;exact .inr (.inl ⟨b,rfl⟩)
 | bool h b i=>obtain rfl:=j h;exact .inr (.inr (.inl ⟨b,rfl⟩))
 | set h b i a n c=>obtain rfl:=j h;exact .inr (.inr (.inr (.inl ⟨b,a,n,c,rfl⟩)))
 | name h b i=>obtain rfl:=j h;exact .inr (.inr (.inr (.inr (.inl ⟨b,rfl⟩))))
 | attr h b i=>obtain rfl:=j h;exact .inr (.inr (.inr (.inr (.inr (.inl ⟨b,rfl⟩)))))
 | lett h b i=>obtain rfl:=j h;exact .inr (.inr (.inr (.inr (.inr (.inr (.inl ⟨b,rfl⟩))))))
 | un h b i o t=>obtain rfl:=j h;exact .inr (.inr (.inr (.inr (.inr (.inr (.inr (.inl ⟨b,_,_,i,t,rfl⟩)))))))
 | bin h b i o t u=>obtain rfl:=j h;exact .inr (.inr (.inr (.inr (.inr (.inr (.inr (.inr (.inl ⟨b,_,_,_,_,i,t,u,rfl⟩))))))))
 | ite h b i o t u p=>obtain rfl:=j h;exact .inr (.inr (.inr (.inr (.inr (.inr (.inr (.inr (.inr ⟨b,_,_,_,_,_,_,i,t,u,p,rfl⟩))))))))
end Go.Proofs.YtcpdodmoheebaaaGreatDoor
namespace Go.Proofs.YtcpdodmoheebaaaGreatDoor
set_option maxHeartbeats 1600000
open Go.RowKit
set_option linter.unusedVariables false
structure Fc (w:World) (aS aB aT:Addr):Prop where
 gS:w.cell? ⟨0,0,none⟩=some (.iface 150 (.pointer (some aS)))
 gB:w.cell? ⟨2,0,none⟩=some (.iface 150 (.pointer (some aB)))
 gT:w.cell? ⟨3,0,none⟩=some (.iface 150 (.pointer (some aT)))
 gE:w.cell? ⟨1,0,none⟩=some (.iface 106 (.agg #[.pointer (some ⟨16,38,none⟩)]))
 gR:∃ tp p,w.var? Tryz.prog "strconv.ErrRange" =some #[.iface tp p]
 big: 16≤w.heap.size
 rS:∃ c t,w.heap[aS.block]? =some (.cells c t (0,0))
 rB:∃ c t,w.heap[aB.block]? =some (.cells c t (0,0))
 rT:∃ c t,w.heap[aT.block]? =some (.cells c t (0,0))
 nSB:aS≠aB
 nST:aS≠aT
 nBT:aB≠aT
theorem Eg {w w':World}{B:Nat}{a:Addr}(h:∃ c t,w.heap[a.block]? =some (.cells c t (0,0)))(b:Below B w w')(d:w.heap.size≤B):∃ c t,w'.heap[a.block]? =some (.cells c t (0,0)):=by
 obtain ⟨c,t,h⟩:=h
 have f:a.block < w.heap.size:=(Array.getElem?_eq_some_iff.1 h).1
 exact ⟨c,t,(b.block _ (by omega)).trans h⟩
theorem Me: Tryz.prog.globalNamed "strconv.ErrRange" =some 11:=by kernel_rfl
theorem Fc.below {w w':World}{B:Nat}{aS aB aT:Addr}(h:Fc w aS aB aT)(a:Below B w w')(b:w.heap.size≤B):Fc w' aS aB aT where
 gS:=(a.cell (p:=⟨0,0,none⟩) (by have:=h.big;show 0 < B;omega)).trans h.gS
 gB:=(a.cell (p:=⟨2,0,none⟩) (by have:=h.big;show 2 < B;omega)).trans h.gB
 gT:=(a.cell (p:=⟨3,0,none⟩) (by have:=h.big;show 3 < B;omega)).trans h.gT
 gE:=(a.cell (p:=⟨1,0,none⟩) (by have:=h.big;show 1 < B;omega)).trans h.gE
 gR:=by
  obtain ⟨c,p,e⟩:=h.gR
  refine ⟨c,p,?_⟩
  rw [← e]
  unfold World.var?
  rw [Me]
  simp only [Option.bind_some]
  rw [a.block 11 (by have:=h.big;omega)]
 big:=Nat.le_trans h.big a.size
 rS:=Eg h.rS a b
 rB:=Eg h.rB a b
 rT:=Eg h.rT a b
 nSB:=h.nSB
 nST:=h.nST
 nBT:=h.nBT
theorem Fc.of_heap {w w':World}{aS aB aT:Addr}(h:Fc w aS aB aT)(e:w'.heap=w.heap):Fc w' aS aB aT:=by
 have c:∀ p,w'.cell? p=w.cell? p:=fun p=>by unfold World.cell?;rw [e]
 refine ⟨by rw [c];exact h.gS,by rw [c];exact h.gB,by rw [c];exact h.gT,by rw [c];exact h.gE,?_,by rw [e];exact h.big,by rw [e];exact h.rS,by rw [e];exact h.rB,by rw [e];exact h.rT,h.nSB,h.nST,h.nBT⟩
 obtain ⟨a,p,k⟩:=h.gR
 refine ⟨a,p,?_⟩
 rw [← k]
 unfold World.var?
 rw [e]
variable {aS aB aT : Addr}
def Eh (aS aB aT:Addr) (c:Int):Value:=if c=1 then .iface 150 (.pointer (some aS)) else if c=2 then .iface 150 (.pointer (some aB)) else .iface 150 (.pointer (some aT))
theorem Ei {a b:Addr}{w:World}(g:a≠b)(d:∃ c t,w.heap[a.block]? =some (.cells c t (0,0)))(f:∃ c t,w.heap[b.block]? =some (.cells c t (0,0))):
  Calls Tryz.prog 48 #[.iface 150 (.pointer (some a)),.iface 150 (.pointer (some b))] w fun e w'=>e= .returned (.bool false)∧w'=w:=by
 obtain ⟨c,t,d⟩:=d
 obtain ⟨h,i,f⟩:=f
 exact Kl a b c h t i w g d f
theorem Id (w:World)(hs:Fc w aS aB aT):
  Calls Tryz.prog 29 #[.iface 150 (.pointer (some aS))] w fun e w'=>e= .returned (.int .i64 1)∧w'=w:=by
 have h1:=hs.gS
 go_enter Tryz.func29,Tryz.ntmps29
 go_wp2_with fail
 refine (Gs aS w).mono ?_
 rintro e w' ⟨rfl,rfl⟩
 go_wp2_with fail
 go_ret
 exact ⟨rfl,rfl⟩
theorem Ie (w:World)(hs:Fc w aS aB aT):
  Calls Tryz.prog 29 #[.iface 150 (.pointer (some aB))] w fun e w'=>e= .returned (.int .i64 2)∧w'=w:=by
 have h1:=hs.gS
 have h2:=hs.gB
 go_enter Tryz.func29,Tryz.ntmps29
 go_wp2_with fail
 refine (Ei (fun e=>hs.nSB e.symm) hs.rB hs.rS).mono ?_
 rintro e w' ⟨rfl,rfl⟩
 go_wp2_with fail
 refine (Gs aB _).mono ?_
 rintro e w' ⟨rfl,rfl⟩
 go_wp2_with fail
 go_ret
 exact ⟨rfl,rfl⟩
theorem If (w:World)(hs:Fc w aS aB aT):
  Calls Tryz.prog 29 #[.iface 150 (.pointer (some aT))] w fun e w'=>e= .returned (.int .i64 3)∧w'=w:=by
 have h1:=hs.gS
 have h2:=hs.gB
 have h3:=hs.gT
 go_enter Tryz.func29,Tryz.ntmps29
 go_wp2_with fail
 refine (Ei (fun e=>hs.nST e.symm) hs.rT hs.rS).mono ?_
 rintro e w' ⟨rfl,rfl⟩
 go_wp2_with fail
 refine (Ei (fun e=>hs.nBT e.symm) hs.rT hs.rB).mono ?_
 rintro e w' ⟨rfl,rfl⟩
 go_wp2_with fail
 refine (Gs aT _).mono ?_
 rintro e w' ⟨rfl,rfl⟩
 go_wp2_with fail
 go_ret
 exact ⟨rfl,rfl⟩
theorem FU (c:Int)(w:World)(hs:Fc w aS aB aT)(hc: 1≤c∧c≤3):
  Calls Tryz.prog 29 #[Eh aS aB aT c] w fun e w'=>e= .returned (.int .i64 c)∧w'=w:=by
 have h:c=1∨c=2∨c=3:=by omega
 rcases h with rfl | rfl | rfl
 ·exact Id w hs
 ·exact Ie w hs
 ·exact If w hs
theorem EH (a:Int)(t:TypeId)(p:Value)(w:World):
  Calls Tryz.prog 26 #[.int .i64 a,.iface t p] w fun e w'=>e= .returned (.iface 60 (.pointer (some ⟨w.heap.size,0,none⟩)))∧Ao w' w.heap.size #[.int .i64 a,.iface t p] 65∧Below w.heap.size w w':=by
 go_enter Tryz.func26,Tryz.ntmps26
 go_wp2
 go_ret
 exact ⟨rfl,Ao.new _ _ _,(Below.refl w.heap.size w).alloc (Nat.le_refl _) _⟩
theorem F6 {c:Func}{a:Tmp}(h:c.results= #[.cell a 26]){d:Array Value}{w:World}{b:Nat}{f g:Value}(i:d.getD a undef= .pointer (some ⟨b,0,none⟩))
  (j:w.cell? ⟨b,0,none⟩=some f)(k:w.cell? ⟨b,1,none⟩=some g):
  (results c d).run Tryz.prog w= .ok (.agg #[f,g]) w:=by
 rw [Array.getD_eq_getD_getElem?] at i
 simp [results,h,i,go_sem,j,k]
theorem Ig (w:World):
  Calls Tryz.prog 13 #[.nilIface] w fun e w'=>e= .returned (.agg #[.int .i64 0,.int .i64 0])∧Below w.heap.size w w':=by
 go_enter Tryz.func13,Tryz.ntmps13
 go_wp2
 have a:=Ao.new w #[.int .i64 0,.int .i64 0] 26
 have b:=a.cell 0
 have c:=a.cell 1
 refine bodyPost_ret (F6 Tryz.results13 rfl b c) rfl ⟨rfl,(Below.refl w.heap.size w).alloc (Nat.le_refl _) _⟩
theorem DN (aS aB aT:Addr)(c:Int):∃ a,Eh aS aB aT c= .iface 150 (.pointer (some a)):=by
 unfold Eh
 split
 ·exact ⟨_,rfl⟩
 ·split
  ·exact ⟨_,rfl⟩
  ·exact ⟨_,rfl⟩
theorem Ih (b:Nat)(a c:Int)(w:World)(hs:Fc w aS aB aT)(i:Ao w b #[.int .i64 a,Eh aS aB aT c] 65)(hc: 1≤c∧c≤3):
  Calls Tryz.prog 13 #[.iface 60 (.pointer (some ⟨b,0,none⟩))] w fun e w'=>e= .returned (.agg #[.int .i64 c,.int .i64 a])∧Below w.heap.size w w':=by
 obtain ⟨l,m⟩:=DN aS aB aT c
 have n:=Ab (fun w hs=>FU (aS:=aS) (aB:=aB) (aT:=aT) c w hs hc)
 rw [m] at i n
 clear m
 have d:=((Below.refl w.heap.size w).alloc (Nat.le_refl _) (.cells #[.int .i64 0,.int .i64 0] 26)).alloc (by simp) (.cells #[.pointer none] 60)
 have o:=(Ao.new w #[.int .i64 0,.int .i64 0] 26).alloc (.cells #[.pointer none] 60)
 have f:=Ao.new (w.alloc (.cells #[.int .i64 0,.int .i64 0] 26)) #[.pointer none] 60
 have q:=Ab (hs.below d (Nat.le_refl _)).gE
 have r:=i.after d (Nat.le_refl _)
 have L:=i.lt
 have M:((w.alloc (.cells #[.int .i64 0,.int .i64 0] 26)).alloc (.cells #[.pointer none] 60)).heap.size=w.heap.size+2:=by simp
 simp only [World.size_alloc] at f
 have y:=Ab hs
 clear hs i
 go_enter Tryz.func13,Tryz.ntmps13
 go_wp2_with fail
 generalize (w.alloc (.cells #[.int .i64 0,.int .i64 0] 26)).alloc (.cells #[.pointer none] 60)=z at *
 have s:=f.cell 0
 refine (L5 ⟨b,0,none⟩ ⟨w.heap.size+1,0,none⟩ (.pointer none) z (Aa q) (by simpa using s) (f.frozen 0)).mono ?_
 rintro e g ⟨rfl,h⟩
 have t:Below w.heap.size w g:=by
  rw [h]
  exact ((((d.alloc d.size _).alloc (by simp;omega) _).alloc (by simp;omega) _).alloc (by simp;omega) _).setCell (p:=⟨w.heap.size+1,0,none⟩) (by show w.heap.size≤w.heap.size+1;omega) _
 have j:Ao g w.heap.size #[.int .i64 0,.int .i64 0] 26:=by
  rw [h]
  exact ((((o.alloc _).alloc _).alloc _).alloc _).setFar (p:=⟨w.heap.size+1,0,none⟩) (by show w.heap.size≠w.heap.size+1;omega) _
 have A:Ao g (w.heap.size+1) #[.pointer (some ⟨b,0,none⟩)] 60:=by
  rw [h]
  exact ((((f.alloc _).alloc _).alloc _).alloc _).set 0 _
 have u:Ao g b #[.int .i64 a,.iface 150 (.pointer (some l))] 65:=by
  rw [h]
  exact ((((r.alloc _).alloc _).alloc _).alloc _).setFar (p:=⟨w.heap.size+1,0,none⟩) (by show b≠w.heap.size+1;omega) _
 have B:=Ab ((Aa y).below t (Nat.le_refl _))
 clear h d o f r q s
 have C:=A.cell 0
 have D:=u.cell 0
 have E:=u.cell 1
 have N:=fun k=>j.frozen k
 have F:=j.cell 0
 have G:=j.cell 1
 simp only [List.getElem?_toArray,List.getElem?_cons_zero,List.getElem?_cons_succ] at C D E F G
 have H:b≠w.heap.size:=by omega
 have O:w.heap.size≠b:=by omega
 have P: ¬ (b=w.heap.size):=H
 go_wp2_with fail
 go_region_held3 (fun w'=>w'.cell? ⟨w.heap.size+1,0,none⟩=some (.pointer (some ⟨b,0,none⟩))∧w'.cell? ⟨b,0,none⟩=some (.int .i64 a)∧w'.cell? ⟨b,1,none⟩=some (.iface 150 (.pointer (some l)))) (go_keep)
  ((go_at_call 29;refine (Aa n g.drew (Fc.of_heap (Aa B) rfl)).mono ?_;rintro e Q ⟨rfl,v⟩;rw [v];clear v))
 all_goals
  go_wp2_with fail
  have x:=(j.set 0 (.int .i64 c)).set 1 (.int .i64 a)
  have I:=((t.setCell (p:=⟨w.heap.size,0,none⟩) (Nat.le_refl _) (.int .i64 c)).setCell (p:=⟨w.heap.size,1,none⟩) (Nat.le_refl _) (.int .i64 a)).drew
  have J:_=some (Value.int .i64 c):=x.cell 0
  have K:_=some (Value.int .i64 a):=x.cell 1
  exact bodyPost_ret (F6 Tryz.results13 rfl J K) rfl ⟨rfl,I⟩
end Go.Proofs.YtcpdodmoheebaaaGreatDoor
