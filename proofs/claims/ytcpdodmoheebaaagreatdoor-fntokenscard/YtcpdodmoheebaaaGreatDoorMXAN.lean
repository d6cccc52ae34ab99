/-
  KTG, TH, KTM, QE, QF, VPT, TR. Own work.
-/
import Derived.Test.YtcpdodmoheebaaaGreatDoorKTE
import Derived.Test.YtcpdodmoheebaaaGreatDoorTP
import Derived.Test.YtcpdodmoheebaaaGreatDoorTQ
import Derived.Test.YtcpdodmoheebaaaGreatDoorTG
import Derived.Test.YtcpdodmoheebaaaGreatDoorMXAP
import Derived.Deep.Onto
import Derived.Test.YtcpdodmoheebaaaGreatDoorMXAM
import Derived.Test.YtcpdodmoheebaaaGreatDoorMXAF
import Derived.Test.YtcpdodmoheebaaaGreatDoorMXAH
import Derived.Test.YtcpdodmoheebaaaGreatDoorVPN
import Derived.Test.YtcpdodmoheebaaaGreatDoorMXAQ
namespace Go.Proofs.YtcpdodmoheebaaaGreatDoor
set_option maxRecDepth 100000
set_option maxHeartbeats 3200000
open Go.RowKit
set_option linter.unusedVariables false
def MC (B R gb:Nat) (a:Option Addr) (n c m:Nat) (L:List (ByteArray × Int)) (nd lt:Value) (t:Nat) (w:World) (vx vi:Value) (wr:World):Prop:=
 ∃ (j m':Nat) (k:Int) (nd':Value),1≤j∧j≤t∧vi= .int .i64 (j:Int)∧vx= .int .i64 k∧m≤m'∧m'≤m+j∧Db B R gb a n c m' L nd' lt wr∧Gk B R gb lt nd w nd' wr
theorem Kq {B d b:Nat}{a:Option Addr}{n c m:Nat}{L:List (ByteArray × Int)}{nd lt:Value}{w:World}(h:Db B d b a n c m L nd lt w)(hm:m+65≤1000000)(z:L.length≤100)(t:Nat)(A: 1≤t)(O:t≤64):
  Calls Tryz.prog 33 #[.pointer (some ⟨b,0,none⟩),.int .i64 (t:Int)] w (BY B d b a n c m 64 L nd lt w):=by
 go_enter Tryz.func33,Tryz.ntmps33
 go_wp2_with fail
 refine (Bp h (by omega) z 1 (by omega)).mono ?_
 rintro r C ⟨⟨x,rfl⟩,D,E,a1,a2,p,q⟩
 have s:=Ab (show MC B d b a n c m L nd lt t w (.int .i64 x) (.int .i64 1) C from ⟨1,D,x,E,by omega,A,rfl,rfl,a1,a2,p,q⟩)
 clear p q a1 a2 h
 dsimp only
 go_wp2_with fail
 go_loopw [5,6] (fun F i wr=>MC B d b a n c m L nd lt t w F i wr) (fun _ i _=>t - (intOf i).toNat)
 case atStart=>exact Aa s
 case round=>
  clear s
  obtain ⟨j,G,k,H,P,Q,rfl,rfl,b1,b2,f,g⟩:=hrel
  by_cases l:j < t
  ·have I:(j:Int) < (t:Int):=by omega
   have J:=Ab (Ko t j l)
   go_wp2_with fail
   refine (BN f (by omega) [k] _ 1 rfl rfl (by omega) 9).mono ?_
   rintro r K ⟨⟨y,rfl⟩,M,N,b3,b4,u,v⟩
   have o:=Ab (show MC B d b a n c m L nd lt t w (.int .i64 y) (.int .i64 ((j:Int)+1)) K from ⟨j+1,M,y,N,by omega,by omega,by rw [Int.natCast_add];rfl,rfl,by omega,by omega,u,g.trans v⟩)
   clear f g u v l
   dsimp only
   go_wp2_with fail
   exact ⟨Aa o,Aa J⟩
  ·have I: ¬ ((j:Int) < (t:Int)):=by omega
   have o:=Ab (show BY B d b a n c m 64 L nd lt w (.returned (.int .i64 k)) wr from ⟨⟨k,rfl⟩,G,H,b1,by omega,f,g⟩)
   clear f g l
   go_wp2_with fail
   go_ret
   exact Aa o
set_option maxHeartbeats 6400000
theorem FX (s:ByteArray)(j:Nat)(w:World)(hs:s.size≤1048576)(a:j < s.size):
  Calls Tryz.prog 11 #[.string s,.int .i64 j] w fun e w'=>BQ j (AT ((Ad s).drop j)) e∧Below w.heap.size w w':=by
 have b:=AD s j a
 cases h1:DO (s[j].toNat:Int)
 ·cases h2:dgI (s[j].toNat:Int)
  ·by_cases h3:(s[j].toNat:Int)=34
   ·have e3:s[j]=34:=UInt8.toNat_inj.1 (by have:(34 :UInt8).toNat=34:=rfl;omega)
    have e:AT ((Ad s).drop j)=AR ((Ad s).drop (j+1)):=by
     rw [b,AT,if_neg (by rw [GK,h1];decide),if_neg (by rw [AU,h2];decide),if_pos e3]
    rw [e]
    exact I0 s j w hs a h3
   ·have e3: ¬ s[j]=34:=fun e=>h3 (by rw [e];rfl)
    have e:AT ((Ad s).drop j)=AA s[j] ((Ad s).drop j):=by
     rw [b,AT,if_neg (by rw [GK,h1];decide),if_neg (by rw [AU,h2];decide),if_neg e3]
    rw [e]
    exact IZ s j w hs a h1 h2 h3
  ·have e:AT ((Ad s).drop j)=AL ((Ad s).drop j):=by
    rw [b,AT,if_neg (by rw [GK,h1];decide),if_pos (by rw [AU,h2])]
   rw [e]
   exact J1 s j w hs a h1 h2
 ·have e:AT ((Ad s).drop j)=AM ((Ad s).drop j):=by
   rw [b,AT,if_pos (by rw [GK,h1])]
  rw [e]
  exact I1 s j w hs a h1
theorem Ga {c:UInt8}{r:List UInt8}{k:Int}(h:AT (c ::r)= .bad k):k=2∨k=3:=by
 rw [AT] at h
 split at h
 ·rw [AM] at h
  split at h <;> first | (cases h;exact .inr rfl) | cases h
 ·split at h
  ·rw [AL] at h
   split at h <;> first | (cases h;exact .inr rfl) | cases h
  ·split at h
   ·rw [AR] at h
    split at h <;> first | (cases h;exact .inr rfl) | cases h
   ·rw [AA] at h
    split at h
    ·cases h
    ·split at h <;> first | (cases h;exact .inl rfl) | cases h
theorem Ik (l:List UInt8):(Bo l).size=l.length:=by simp [Bo,ByteArray.size]
theorem C4:KL []:=fun _ h=>nomatch h
theorem Il {a:List Cq}{x:Cq}(h:KL a)(hx:x.text.size≤maxLen):KL (a ++ [x]):=fun y hy=>by
 rcases List.mem_append.1 hy with k | k
 ·exact h y k
 ·rw [List.mem_singleton.1 k];exact hx
theorem Cn {w w':World}{a n:Nat}{b:Value}{c:List Value}(h:w.ownsRow a 30 4 b n c)(f:Below w.heap.size w w'):w'.ownsRow a 30 4 b n c:=by
 refine ⟨h.1,?_⟩
 rcases h.2 with h2 | ⟨g,cap,i,j,h3,d,h4⟩
 ·exact .inl h2
 ·refine .inr ⟨g,cap,i,j,h3,?_,h4⟩
  rw [← d]
  exact f.block g (Array.getElem?_eq_some_iff.1 d).1
theorem Do {w:World}{b n:Nat}{a:Value}{d:List Value}(h:w.ownsRow b 30 4 a n d):∃ x c,a= .slice x n c:=by
 rcases h.2 with ⟨h2,h0⟩ | ⟨g,cap,i,f,_⟩
 ·subst h0;exact ⟨_,_,h2⟩
 ·exact ⟨_,_,f⟩
theorem Gb {w:World}{b:Nat}{x:Cq}{t:TypeId}(a:Ao w b #[.int .i64 x.kind,.int .i64 x.num,.string x.text,.int .i64 (x.at_:Int)] t):∀ j u,(El x)[j]? =some u→w.cell? ((⟨b,0,none⟩:Addr).add j)=some u:=fun j u h=>by
 have c:(⟨b,0,none⟩:Addr).add j=⟨b,j,none⟩:=by by_cases e:j=0 <;> simp [Addr.add,e]
 rw [c,a.cell j,← h]
 simp [El]
theorem Jv (x:Cq):∀ u∈El x,u.oneCell'=true:=fun u h=>by
 simp only [El,List.mem_cons,List.not_mem_nil,or_false] at h
 rcases h with rfl | rfl | rfl | rfl <;> rfl
def Jw (w:World) (R:Mz) (e:Ending) (w':World):Prop:=
 ∃ x c,e= .returned (.tuple #[.slice x R.toks.length c,.agg #[.int .i64 R.code,.int .i64 (R.at_:Int)]])∧w'.ownsRow w.heap.size 30 4 (.slice x R.toks.length c) R.toks.length (Cw R.toks)∧KL R.toks∧Below w.heap.size w w'
theorem L2:(Tryz.prog.info? 30).map (fun a=>(a.zero,a.size,a.bytes))=some (some (.agg #[.int .i64 0,.int .i64 0,.string ByteArray.empty,.int .i64 0]),4,40):=by kernel_rfl
theorem Em {d:Func}{a u:Tmp}(h:d.results= #[.tmp u,.cell a 26]){c:Array Value}{w:World}{b:Nat}{f g:Value}(i:c.getD a undef= .pointer (some ⟨b,0,none⟩))
  (j:w.cell? ⟨b,0,none⟩=some f)(k:w.cell? ⟨b,1,none⟩=some g):
  (results d c).run Tryz.prog w= .ok (.tuple #[c.getD u undef,.agg #[f,g]]) w:=by
 rw [Array.getD_eq_getD_getElem?] at i
 simp [results,h,i,go_sem,j,k]
theorem FY (t:ByteArray)(w:World):
  Calls Tryz.prog 5 #[.string t] w fun e w'=>Jw w (Ax t) e w':=by
 by_cases h4: 4000 < t.size
 ·have au:(4000 :Int) < (t.size:Int):=by omega
  go_enter Tryz.func5,Tryz.ntmps5
  go_wp2
  have Y:=Ao.new w #[.int .i64 1,.int .i64 0] 26
  have v:=Y.cell 0
  have y:=Y.cell 1
  refine bodyPost_ret (Em Tryz.results5 rfl v y) rfl ?_
  rw [Ax,if_pos h4]
  exact ⟨none,0,rfl,World.ownsRow_nil _ _ _ _,C4,(Below.refl w.heap.size w).alloc (Nat.le_refl _) _⟩
 ·have au: ¬ ((4000 :Int) < (t.size:Int)):=by omega
  have av:t.size≤1048576:=by omega
  have Z:=Ab (show Ax t=AE t.size (t.size+1) (Ad t) [] by rw [Ax,if_neg h4])
  obtain ⟨aw,ax,ay,az,aA⟩:=info_parts L2
  have J:=Ao.new w #[.int .i64 0,.int .i64 0] 26
  have K:=(Below.refl w.heap.size w).alloc (Nat.le_refl _) (.cells #[.int .i64 0,.int .i64 0] 26)
  go_enter Tryz.func5,Tryz.ntmps5
  go_wp2_with fail
  refine (EG t 0 _ (by unfold maxLen;omega) (by omega)).mono ?_
  rintro e aT ⟨⟨aa,rfl,_,aB,ab,L⟩,A⟩
  rw [A]
  have ac:=Ab (show AE t.size (t.size+1) ((Ad t).drop aa) []=Ax t by rw [Aa Z];exact Bi _ _ (by rw [L,← ab,List.drop_zero]) _)
  have ad:=Ab L
  clear A ab L Z
  go_wp2_with fail
  generalize w.alloc (.cells #[.int .i64 0,.int .i64 0] 26)=aU at J K ⊢
  go_loopw [4,5] (fun aC a wr=>∃ (k f:Nat) (d:List Cq),a= .int .i64 k∧k≤t.size∧t.size - k < f∧d.length≤k∧KL d∧AE t.size f ((Ad t).drop k) d=Ax t∧Be false ((Ad t).drop k)=(Ad t).drop k∧wr.ownsRow (w.heap.size+1) 30 4 aC d.length (Cw d)∧Ao wr w.heap.size #[.int .i64 0,.int .i64 0] 26∧Below w.heap.size w wr) (fun _ a _=>t.size - (intOf a).toNat)
  case atStart=>exact ⟨aa,t.size+1, [],rfl,aB,by omega,by simp,C4,Aa ac,Aa ad,World.ownsRow_nil _ _ _ _,J,K⟩
  case round=>
   obtain ⟨k,f,d,rfl,aV,aW,aX,ae,af,ag,z,o,i⟩:=hrel
   have F:=Ab af
   have M:=Ab ag
   have N:=Ab ae
   clear af ag ae J K ac ad
   by_cases ah:k < t.size
   ·have aD:(k:Int) < (t.size:Int):=by omega
    go_wp2_with fail
    refine (FX t k _ av ah).mono ?_
    rintro e ai ⟨G,h⟩
    have l:=AD t k ah
    have O:((Ad t).drop (k+1)).length+1=t.size - k:=by rw [List.length_drop,Ag];omega
    cases r:AT ((Ad t).drop k) with
    | bad c=>
     rw [r] at G
     obtain ⟨H,m,n,x,rfl⟩:=G
     have q:=o.after h (Nat.le_refl _)
     have C:=i.trans (h.mono i.size)
     have aE:=Nat.le_trans i.size h.size
     obtain ⟨s,rfl⟩:∃ s,f=s+1:=⟨f - 1,by omega⟩
     have aj:Ax t=⟨[],c,k⟩:=by
      rw [← Aa F,l,Ec (by rw [← l];exact Aa M) (by rw [← l];exact r)]
      congr 1
      rw [O];omega
     have hc:c=2∨c=3:=Ga (by rw [← l];exact r)
     have ak:=Ab aj
     clear aj l O r z o i h
     have P:=q.cell 0
     have Q:=q.cell 1
     have aF:=fun j=>q.frozen j
     simp only [List.getElem?_toArray,List.getElem?_cons_zero,List.getElem?_cons_succ] at P Q
     have aY:=q.lt
     rcases hc with rfl | rfl
     ·go_wp2_with fail
      have u:=((q.set 0 (.int .i64 2)).set 1 (.int .i64 k)).alloc (.cells #[.int .i64 H,.int .i64 m,.string x,.int .i64 k] 30)
      have D:=((C.setCell (p:=⟨w.heap.size,0,none⟩) (Nat.le_refl _) (.int .i64 2)).setCell (p:=⟨w.heap.size,1,none⟩) (Nat.le_refl _) (.int .i64 k)).alloc (by simp;omega) (.cells #[.int .i64 H,.int .i64 m,.string x,.int .i64 k] 30)
      have v:_=some (Value.int .i64 2):=u.cell 0
      have y:_=some (Value.int .i64 k):=u.cell 1
      refine bodyPost_ret (Em Tryz.results5 rfl v y) rfl ?_
      rw [Aa ak]
      exact ⟨none,0,rfl,World.ownsRow_nil _ _ _ _,C4,D⟩
     ·go_wp2_with fail
      have u:=((q.set 0 (.int .i64 3)).set 1 (.int .i64 k)).alloc (.cells #[.int .i64 H,.int .i64 m,.string x,.int .i64 k] 30)
      have D:=((C.setCell (p:=⟨w.heap.size,0,none⟩) (Nat.le_refl _) (.int .i64 3)).setCell (p:=⟨w.heap.size,1,none⟩) (Nat.le_refl _) (.int .i64 k)).alloc (by simp;omega) (.cells #[.int .i64 H,.int .i64 m,.string x,.int .i64 k] 30)
      have v:_=some (Value.int .i64 3):=u.cell 0
      have y:_=some (Value.int .i64 k):=u.cell 1
      refine bodyPost_ret (Em Tryz.results5 rfl v y) rfl ?_
      rw [Aa ak]
      exact ⟨none,0,rfl,World.ownsRow_nil _ _ _ _,C4,D⟩
    | tok g m b E=>
     rw [r] at G
     cases G
     obtain ⟨aZ,aG,a0⟩: 1≤E∧E≤((Ad t).drop k).length∧b.length≤E:=by have:=Cm ((Ad t).drop k);rw [r] at this;exact this
     rw [List.length_drop,Ag] at aG
     obtain ⟨s,rfl⟩:∃ s,f=s+1:=⟨f - 1,by omega⟩
     have aH:=Ab (show AE t.size s ((Ad t).drop (k+E)) (d ++ [⟨g,m,Bo b,k⟩])=Ax t by
      rw [← Aa F,l,CW (by rw [← l];exact Aa M) (by rw [← l];exact r),← l,List.drop_drop,show t.size - (((Ad t).drop (k+1)).length+1)=k by omega])
     have al:KL (d ++ [⟨g,m,Bo b,k⟩]):=Il (Aa N) (by show (Bo b).size≤_;rw [Ik];unfold maxLen;omega)
     have aI:=Ab al
     clear l O r al F M N
     have q:=(o.after h (Nat.le_refl _)).alloc (.cells #[.int .i64 g,.int .i64 m,.string (Bo b),.int .i64 k] 30) |>.alloc (.cells #[.int .i64 g,.int .i64 m,.string (Bo b),.int .i64 k] 30)
     have C:=((i.trans (h.mono i.size)).alloc (Nat.le_trans i.size h.size) (.cells #[.int .i64 g,.int .i64 m,.string (Bo b),.int .i64 k] 30)).alloc (by have:=Nat.le_trans i.size h.size;simp;omega) (.cells #[.int .i64 g,.int .i64 m,.string (Bo b),.int .i64 k] 30)
     have I:=((Cn z h).alloc (.cells #[.int .i64 g,.int .i64 m,.string (Bo b),.int .i64 k] 30)).alloc (.cells #[.int .i64 g,.int .i64 m,.string (Bo b),.int .i64 k] 30)
     have R:=Ao.new (ai.alloc (.cells #[.int .i64 g,.int .i64 m,.string (Bo b),.int .i64 k] 30)) #[.int .i64 g,.int .i64 m,.string (Bo b),.int .i64 k] 30
     simp only [World.size_alloc] at R
     have aE:=o.lt
     have a1:=h.size
     go_wp2_with (at_builtin;refine wpList_append_own _ rfl _ _ 24 rfl (w.heap.size+1) 30 aw (.agg #[.int .i64 0,.int .i64 0,.string ByteArray.empty,.int .i64 0]) 4 40 Tryz.underlying24 ax ay az aA rfl (by decide) _ _ _ rfl I ⟨ai.heap.size+1,0,none⟩ 1 1 (El ⟨g,m,Bo b,k⟩) rfl rfl ?c1 ?c2 ?c3 ?c4 ?c5 ?_)
     case c1=>exact Gb (x:=⟨g,m,Bo b,k⟩) R
     case c2=>exact Jv _
     case c3=>unfold maxLen;omega
     case c4=>omega
     case c5=>simp;omega
     intro a2 S aJ T _
     have aK:Below w.heap.size w S:=C.grown T (by simp;omega) (fun U V=>by have:=(I.lt U V).1;omega)
     have aL:Ao S w.heap.size #[.int .i64 0,.int .i64 0] 26:=q.below (B:=w.heap.size+1) ((Below.refl _ _).grown T (by simp;omega) (fun U V=>(I.lt U V).1)) (by omega)
     clear T z I R o q i C h
     go_wp2_with fail
     have W:=EG t (k+E) S (by unfold maxLen;omega) (by omega)
     rw [Int.natCast_add] at W
     refine W.mono ?_
     rintro e a3 ⟨⟨ao,rfl,a4,aM,ap,X⟩,A⟩
     rw [A]
     clear A W
     have aN:=Ab (show AE t.size s ((Ad t).drop ao) (d ++ [⟨g,m,Bo b,k⟩])=Ax t by rw [← Aa aH];exact Bi _ _ (by rw [X,ap]) _)
     have aO:=Ab X
     clear ap X
     go_wp2_with fail
     go_roundw
     case rel=>exact ⟨ao,s,d ++ [⟨g,m,Bo b,k⟩],rfl,aM,by omega,by simp;omega,Aa aI,Aa aN,Aa aO,by rw [Gc,List.length_append];exact aJ,aL,aK⟩
     case measure=>simp [intOf];omega
   ·have e:(Ad t).drop k= []:=List.drop_of_length_le (by rw [Ag];omega)
    have aq:Ax t=⟨d,0,0⟩:=by rw [← Aa F,e,CX]
    have aP:=Ab aq
    have aD: ¬ ((k:Int) < (t.size:Int)):=by omega
    clear aq e
    have P:=o.cell 0
    have Q:=o.cell 1
    have aF:=fun j=>o.frozen j
    simp only [List.getElem?_toArray,List.getElem?_cons_zero,List.getElem?_cons_succ] at P Q
    obtain ⟨x,ar,aQ⟩:=Do z
    subst aQ
    go_wp2_with fail
    have u:=(o.set 0 (.int .i64 0)).set 1 (.int .i64 0)
    have D:=(i.setCell (p:=⟨w.heap.size,0,none⟩) (Nat.le_refl _) (.int .i64 0)).setCell (p:=⟨w.heap.size,1,none⟩) (Nat.le_refl _) (.int .i64 0)
    have v:_=some (Value.int .i64 0):=u.cell 0
    have y:_=some (Value.int .i64 0):=u.cell 1
    have aR:((wr.setCell ⟨w.heap.size,0,none⟩ (.int .i64 0)).setCell ⟨w.heap.size,1,none⟩ (.int .i64 0)).ownsRow w.heap.size 30 4 (.slice x d.length ar) d.length (Cw d):=
     (AZ z (fun p aS=>by
      have h1:w.heap.size+1≤p.block:=by subst aS;exact (z.lt _ rfl).1
      rw [heap_setCell_other _ _ _ _ (by show p.block≠w.heap.size;omega),heap_setCell_other _ _ _ _ (by show p.block≠w.heap.size;omega)])).mono (by omega)
    refine bodyPost_ret (Em Tryz.results5 rfl v y) rfl ?_
    rw [Aa aP]
    exact ⟨x,ar,rfl,aR,Aa N,D⟩
theorem Tks.at {s:ByteArray}{l:List UInt8}{d:List Cq}{f:List UInt8}(h:Tks s.size l d f):∀ (j:Nat),j≤s.size→l=(Ad s).drop j→∀ t∈d,∃ a,1≤a∧t.at_+a≤s.size∧AT ((Ad s).drop t.at_)= .tok t.kind t.num (Ad t.text) a:=by
 induction h with
 | nil h=>intro j o e t g;cases g
 | @cons b r c k m sl a d f v w i g p=>
  intro j o e t hm
  have e1:c ::r=(Ad s).drop (j+b.length):=by
   rw [← List.drop_drop,← e,List.drop_left]
  have e2:r.length+1=s.size - (j+b.length):=by
   have:=congrArg List.length e1
   rw [List.length_drop,Ag,List.length_cons] at this
   exact this
  have e3:s.size - (r.length+1)=j+b.length:=by omega
  have n:=Cm (c ::r)
  rw [i] at n
  obtain ⟨q,u,_⟩: 1≤a∧a≤(c ::r).length∧sl.length≤a:=n
  rw [List.length_cons] at u
  rcases List.mem_cons.1 hm with rfl | hm
  ·refine ⟨a,q,?_,?_⟩
   ·show s.size - (r.length+1)+a≤s.size
    omega
   ·show AT ((Ad s).drop (s.size - (r.length+1)))= .tok k m (Ad (Bo sl)) a
    rw [e3,← e1,i,DF]
  ·exact p (j+b.length+a) (by omega) (by rw [e1,List.drop_drop]) t hm
theorem Tks.len {n:Nat}{l:List UInt8}{a:List Cq}{d:List UInt8}(h:Tks n l a d):a.length≤l.length:=by
 induction h with
 | nil h=>simp
 | @cons o r c k m sl b a d p q g s i=>
  have f:=Cm (c ::r)
  rw [g] at f
  obtain ⟨t,j,_⟩: 1≤b∧b≤(c ::r).length∧sl.length≤b:=f
  simp only [List.length_cons,List.length_drop,List.length_append] at i j ⊢
  omega
theorem E8 (n:Nat):∀ (f:Nat) (l:List UInt8) (out:List Cq),(AE n f l out).code≠0→(AE n f l out).toks= []
 | 0,l,out,h=>absurd rfl h
 | f+1,l,out,h=>by
  cases a:Be false l with
  | nil=>
   rw [AE,a] at h
   exact absurd rfl h
  | cons c r=>
   cases b:AT (c ::r) with
   | bad code=>
    rw [AE,a]
    simp only [b]
   | tok k m sl d=>
    have e:AE n (f+1) l out=AE n f ((c ::r).drop d) (out ++ [⟨k,m,Bo sl,n - (r.length+1)⟩]):=by
     rw [AE,a]
     simp only [b]
    rw [e] at h ⊢
    exact E8 n f _ _ h
theorem E9 (s:ByteArray):(Ax s).toks.length≤4000∧((Ax s).toks≠ []→s.size≤4000)∧∀ t∈(Ax s).toks,∃ b,1≤b∧t.at_+b≤s.size∧AT ((Ad s).drop t.at_)= .tok t.kind t.num (Ad t.text) b:=by
 by_cases h4: 4000 < s.size
 ·have e:(Ax s).toks= []:=by rw [Ax,if_pos h4]
  rw [e]
  exact ⟨by simp,fun h=>absurd rfl h,fun t a=>by cases a⟩
 ·by_cases hc:(Ax s).code=0
  ·have e:Ax s=AE s.size (s.size+1) (Ad s) []:=by rw [Ax,if_neg h4]
   rw [e] at hc ⊢
   obtain ⟨c,d,e1,e2⟩:=Ea s.size (s.size+1) (Ad s) [] (by rw [Ag];omega) hc
   rw [e1,List.nil_append]
   have hl:=e2.len
   rw [Ag] at hl
   exact ⟨by omega,fun _=>by omega,fun t a=>e2.at 0 (Nat.zero_le _) (by rw [List.drop_zero]) t a⟩
  ·have e:(Ax s).toks= []:=by rw [Ax,if_neg h4] at hc ⊢;exact E8 _ _ _ _ hc
   rw [e]
   exact ⟨by simp,fun h=>absurd rfl h,fun t a=>by cases a⟩
theorem GY (s:ByteArray)(a j:Nat)(w:World)(h1:a≤j)(h2:j≤s.size):
  Calls Tryz.prog 36 #[.string s,.int .i64 a,.int .i64 j] w fun e w'=>e= .returned (.string (s.extract a j))∧w'=w:=by
 go_enter Tryz.func36,Tryz.ntmps36
 go_wp2_with fail
 go_ret
 exact ⟨rfl,rfl⟩
theorem JQ (s:ByteArray)(j a:Nat)(k m:Int)(t:List UInt8)(w:World)(hs:s.size≤4000)(d:j < s.size)(f:AT ((Ad s).drop j)= .tok k m t a):
  Calls Tryz.prog 37 #[.string s,.int .i64 j] w fun e w'=>e= .returned (.int .i64 ((j+a:Nat):Int))∧Below w.heap.size w w':=by
 have b:=Ab (fun g=>FX s j g (by omega) d)
 rw [f] at b
 go_enter Tryz.func37,Tryz.ntmps37
 go_wp2_with fail
 refine (Aa b _).mono ?_
 rintro e l ⟨h,c⟩
 have i:=(show e= .returned (.tuple #[.agg #[.int .i64 k,.int .i64 m,.string (Bo t),.int .i64 (j:Int)],.int .i64 ((j+a:Nat):Int),.int .i64 0]) from h)
 subst i
 dsimp only
 go_wp2_with fail
 go_ret
 exact ⟨rfl,c.alloc c.size _⟩
def FK (L:List St) (j:Nat) (h:j < L.length):Bool:=A8 (decide (j+1=L.length)) L[j]
theorem Dv:∀ (L:List St),Cl L=true↔∀ j,(h:j < L.length)→FK L j h=true
 | []=>by simp [Cl]
 | s ::r=>by
  rw [Cl,Bool.and_eq_true,Dv r]
  have e:r.isEmpty=decide (0+1=(s ::r).length):=by cases r <;> simp
  constructor
  ·rintro ⟨h1,h2⟩ j a
   cases j with
   | zero=>rw [e] at h1;exact h1
   | succ j=>
    have:=h2 j (by simpa using a)
    rw [FK] at this ⊢
    simp only [List.getElem_cons_succ,List.length_cons] at this ⊢
    rw [show decide (j+1+1=r.length+1)=decide (j+1=r.length) by rw [decide_eq_decide];omega]
    exact this
  ·intro h
   refine ⟨by rw [e];exact h 0 (by simp),fun j a=>?_⟩
   have:=h (j+1) (by simpa using a)
   rw [FK] at this ⊢
   simp only [List.getElem_cons_succ,List.length_cons] at this
   rw [show decide (j+1+1=r.length+1)=decide (j+1=r.length) by rw [decide_eq_decide];omega] at this
   exact this
theorem FL (L:List St)(k:Nat)(h:k < L.length):(L.take (k+1)).flatMap Al=(L.take k).flatMap Al ++Al L[k]:=by
 rw [List.take_succ_eq_append_getElem h,List.flatMap_append]
 simp
def DY (K:List (List Int)) (n:Nat) (rs:List Int):List Int:=rs.foldl (fun o r=>Az K n r o) []
theorem IA (K:List (List Int))(n:Nat)(rs a:List Int):DY K n (rs ++a)=a.foldl (fun b r=>Az K n r b) (DY K n rs):=by rw [DY,List.foldl_append,DY]
theorem Jg {N:List Nd}(h:N.all AI=true):∀ a∈N.map Nd.kids,a.length≤3:=by
 intro a b
 obtain ⟨x,hx,rfl⟩:=List.mem_map.1 b
 have:=List.all_eq_true.1 h x hx
 rw [Jb,Bool.and_eq_true] at this
 have h1:=of_decide_eq_true this.1
 unfold Dl at h1
 split at h1
 ·omega
 ·split at h1
  ·omega
  ·split at h1
   ·omega
   ·split at h1 <;> omega
theorem Ay.kids {K:List (List Int)}{a b:Nat}{d:List (Nat × Nat)}(h:Ay K a d b):∀ j,a≤j→j < b→∃ c,K[j]? =some (AH c)∧∀ p∈c,p.1 < j:=by
 induction h with
 | nil a=>intro j h1 h2;omega
 | cons f g m i k=>
  rename_i a t b c d
  intro j h1 h2
  rcases Nat.lt_trichotomy j t with e | e | e
  ·exact i j h1 e
  ·subst e;exact ⟨c,g,fun p l=>(f.lt p l).2⟩
  ·exact k j (by omega) h2
theorem Jh {N:List Nd}{n:Nat}{rs:List Int}(j:N.length=n)(hl:(DY (N.map Nd.kids) n rs).length=n)(d:good (DY (N.map Nd.kids) n rs)):
  (∀ t,(h:t < N.length)→∀ y∈N[t].kids,0≤y∧y < (t:Int))∧∀ r∈rs,0≤r∧r < (n:Int):=by
 obtain ⟨f,e1,b⟩:=Ds (K:=N.map Nd.kids) (n:=n) rs [] d
 have hf':Ay (N.map Nd.kids) 0 f n:=by
  have:(rs.foldl (fun g k=>Az (N.map Nd.kids) n k g) []).length=n:=hl
  rw [this] at b
  exact b
 constructor
 ·intro t h y hy
  obtain ⟨i,h1,h2⟩:=hf'.kids t (Nat.zero_le _) (by omega)
  rw [List.getElem?_map,List.getElem?_eq_getElem h] at h1
  have h3:N[t].kids=AH i:=by simpa using h1
  rw [h3] at hy
  obtain ⟨p,a,rfl⟩:=List.mem_map.1 hy
  have:=h2 p a
  omega
 ·intro r c
  rw [← e1] at c
  obtain ⟨p,a,rfl⟩:=List.mem_map.1 c
  have:=hf'.lt p a
  omega
end Go.Proofs.YtcpdodmoheebaaaGreatDoor
namespace Go.Proofs.YtcpdodmoheebaaaGreatDoor
set_option maxHeartbeats 1600000
open Go.RowKit
set_option linter.unusedVariables false
variable {aS aB aT : Addr}
def GL (aS aB aT:Addr):FP→Value
 | .bad c=> .tuple #[.agg #[.int .i64 0,.int .i64 0,.string ⟨#[]⟩,.int .i64 0],.int .i64 0,Eh aS aB aT c]
 | .tok k m s w=> .tuple #[.agg #[.int .i64 k,.int .i64 m,.string (Bo s),.int .i64 0],.int .i64 (w:Int),.nilIface]
theorem Bf {g:World}{b:Nat}{i j k l:Value}{t:TypeId}(h:Ao g b #[i,j,k,l] t)(a c d f:Value):
  ((((g.setCell ⟨b,0,none⟩ a).setCell ⟨b,1,none⟩ c).setCell ⟨b,2,none⟩ d).setCell ⟨b,3,none⟩ f).drew.cell? ⟨b,0,none⟩=some a∧((((g.setCell ⟨b,0,none⟩ a).setCell ⟨b,1,none⟩ c).setCell ⟨b,2,none⟩ d).setCell ⟨b,3,none⟩ f).drew.cell? ⟨b,1,none⟩=some c∧
  ((((g.setCell ⟨b,0,none⟩ a).setCell ⟨b,1,none⟩ c).setCell ⟨b,2,none⟩ d).setCell ⟨b,3,none⟩ f).drew.cell? ⟨b,2,none⟩=some d∧((((g.setCell ⟨b,0,none⟩ a).setCell ⟨b,1,none⟩ c).setCell ⟨b,2,none⟩ d).setCell ⟨b,3,none⟩ f).drew.cell? ⟨b,3,none⟩=some f:=by
 have m:Ao ((((g.setCell ⟨b,0,none⟩ a).setCell ⟨b,1,none⟩ c).setCell ⟨b,2,none⟩ d).setCell ⟨b,3,none⟩ f).drew b #[a,c,d,f] t:=⟨(Aj h a c d f).out⟩
 obtain ⟨n,o,p,q,_⟩:=An m
 exact ⟨n,o,p,q⟩
theorem BX (aS aB aT:Addr):GL aS aB aT (.bad 3)= .tuple #[.agg #[.int .i64 0,.int .i64 0,.string ⟨#[]⟩,.int .i64 0],.int .i64 0,.iface 150 (.pointer (some aT))]:=rfl
theorem LJ (aS aB aT:Addr):GL aS aB aT (.bad 2)= .tuple #[.agg #[.int .i64 0,.int .i64 0,.string ⟨#[]⟩,.int .i64 0],.int .i64 0,.iface 150 (.pointer (some aB))]:=rfl
theorem GG (r:ByteArray)(w:World)(hs:r.size≤1048576)(m:Fc w aS aB aT):
  Calls Tryz.prog 41 #[.string r] w fun e w'=>e= .returned (GL aS aB aT (AM (Ad r)))∧Below w.heap.size w w':=by
 have p:=By BU (Ad r)
 rw [Ag] at p
 have h:=Ao.new w #[.int .i64 0,.int .i64 0,.string ⟨#[]⟩,.int .i64 0] 30
 have i:=(Below.refl w.heap.size w).alloc (Nat.le_refl _) (.cells #[.int .i64 0,.int .i64 0,.string ⟨#[]⟩,.int .i64 0] 30)
 have q:=(m.below i (Nat.le_refl _)).gT
 have u:=m.big
 have v:w.heap.size≠3:=by omega
 have y: 3≠w.heap.size:=by omega
 go_enter Tryz.func41,Tryz.ntmps41
 go_wp2_with fail
 generalize w.alloc (.cells #[.int .i64 0,.int .i64 0,.string ⟨#[]⟩,.int .i64 0] 30)=z at h i q ⊢
 refine (KN r _ (by unfold maxLen;omega)).mono ?_
 rintro e s ⟨rfl,a⟩
 rw [a]
 clear a
 obtain ⟨A,d1,d2,d3,B⟩:=An h
 by_cases n: 32 < Ap BU (Ad r)
 ·have t:(32 :Int) < (Ap BU (Ad r):Int):=by omega
  go_wp2_with fail
  go_region
  go_wp2_with fail
  have j:=Ac (b:=w.heap.size) i (Nat.le_refl _) (.int .i64 0) (.int .i64 0) (.string ⟨#[]⟩) (.int .i64 0)
  obtain ⟨c,d,f,g⟩:=Bf h (.int .i64 0) (.int .i64 0) (.string ⟨#[]⟩) (.int .i64 0)
  refine bodyPost_ret (Ah Tryz.results41 rfl c d f g) rfl ⟨?_,j.drew⟩
  rw [AM,if_pos n,BX]
  rfl
 ·have t: ¬ ((32 :Int) < (Ap BU (Ad r):Int)):=by omega
  have C:(Ap BU (Ad r):Int)≤(r.size:Int):=by omega
  have o:=Ab (show AM (Ad r)= .tok (if Dc ((Ad r).take (Ap BU (Ad r))) then 4 else 3) 0 ((Ad r).take (Ap BU (Ad r))) (Ap BU (Ad r)) by rw [AM,if_neg n])
  have k:=Ab (show Ad (r.extract 0 (Ap BU (Ad r)))=(Ad r).take (Ap BU (Ad r)) by rw [AC,List.drop_zero,Nat.sub_zero])
  go_wp2_with fail
  generalize r.extract 0 (Ap BU (Ad r))=x at k ⊢
  refine (I3 x _).mono ?_
  rintro e s ⟨rfl,a⟩
  rw [a]
  clear a
  cases a:Dc (Ad x)
  ·have l:=Ab a
   clear a
   go_wp2_with fail
   have j:=Ac (b:=w.heap.size) i (Nat.le_refl _) (.int .i64 3) (.int .i64 0) (.string x) (.int .i64 0)
   obtain ⟨c,d,f,g,_⟩:=An (Aj h (.int .i64 3) (.int .i64 0) (.string x) (.int .i64 0))
   simp only [AY] at c d f g
   refine bodyPost_ret (Ah Tryz.results41 rfl c d f g) rfl ⟨?_,j⟩
   rw [Aa o,← Aa k,Aa l]
   simp only [GL,Bt]
   rfl
  ·have l:=Ab a
   clear a
   go_wp2_with fail
   have j:=Ac (b:=w.heap.size) i (Nat.le_refl _) (.int .i64 4) (.int .i64 0) (.string x) (.int .i64 0)
   obtain ⟨c,d,f,g,_⟩:=An (Aj h (.int .i64 4) (.int .i64 0) (.string x) (.int .i64 0))
   simp only [AY] at c d f g
   refine bodyPost_ret (Ah Tryz.results41 rfl c d f g) rfl ⟨?_,j⟩
   rw [Aa o,← Aa k,Aa l]
   simp only [GL,Bt]
   rfl
end Go.Proofs.YtcpdodmoheebaaaGreatDoor
