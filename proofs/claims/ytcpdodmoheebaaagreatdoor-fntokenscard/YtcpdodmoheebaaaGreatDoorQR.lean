/-
  Operators of two, written by the model. Own work.
-/
import Derived.Test.YtcpdodmoheebaaaGreatDoorQQ
namespace Go.Proofs.YtcpdodmoheebaaaGreatDoor
set_option maxRecDepth 100000
set_option maxHeartbeats 1600000
open Go.RowKit
set_option linter.unusedVariables false
theorem Lw (w:World)(a:Option Addr)(n c:Nat)(N:List Nd)(h:Dx w a n c N)(m:Nat)(x:Nd)(hx:N[m]? =some x)(T: 11≤x.op∧x.op≤26)(v:Int)(z:BB x.op=v)(h4:v=1)(k l:Nat)(U:x.kids= [(k:Int),(l:Int)])(o q:Int→ByteArray)(h1:CC w a n c k o)(h2:CC w a n c l q)(V:(o (1)).size≤16000010)(W:(q (2)).size≤16000010):H8 w a n c m x.op (o (1) ++(⟨#[32]⟩ ++A7 x.op ++⟨#[32]⟩) ++q (2)):=by
 intro ax g hl A
 have X:m < N.length:=(List.getElem?_eq_some_iff.1 hx).1
 have Y:N[m]=x:=(List.getElem?_eq_some_iff.1 hx).2
 obtain ⟨b,aK,rfl,y,an,nn,E,Z,F,s,G,c1,c2,c3,c4,aa,t⟩:=(h.below A (Nat.le_refl _)).cells m X
 rw [Y] at G c1 c2 aa t
 have aL:(m:Int) < (n:Int):=by have:=h.len;omega
 have aM:=h.small
 have aN: 0≤v:=by rw [← z];exact CG _
 have aO:v≤8:=by rw [← z];exact DJ _
 have aP:decide (v < ax)=false:=decide_eq_false (by omega)
 have H:=Ab (Aw (op:=x.op) (by omega) z)
 have I:=Ab (Ch x.op T)
 have ab:=Ab (show o (1) ++(⟨#[32]⟩ ++A7 x.op ++⟨#[32]⟩) ++q (2)=o (1) ++⟨#[32]⟩ ++A7 x.op ++⟨#[32]⟩ ++q (2) by simp only [ByteArray.append_assoc])
 rw [Aa ab]
 have ac:=BI x.op
 generalize A7 x.op=J at I ac ⊢
 clear ab
 have j:=(Below.refl g.heap.size g).alloc (Nat.le_refl _) (.cells #[.int .i64 x.op,.int .i64 x.num,.string x.text,.slice an nn E,.slice Z F s] 99)
 have u:=Ao.new g #[.int .i64 x.op,.int .i64 x.num,.string x.text,.slice an nn E,.slice Z F s] 99
 have B:=Ab (A.trans (j.mono A.size))
 subst h4
 have ay:(x.op== 1)=false:=beq_eq_false_iff_ne.2 (by omega)
 have az:(x.op== 2)=false:=beq_eq_false_iff_ne.2 (by omega)
 have aA:(x.op== 3)=false:=beq_eq_false_iff_ne.2 (by omega)
 have aB:(x.op== 4)=false:=beq_eq_false_iff_ne.2 (by omega)
 have aC:(x.op== 5)=false:=beq_eq_false_iff_ne.2 (by omega)
 have aD:(x.op== 8)=false:=beq_eq_false_iff_ne.2 (by omega)
 have aE:(x.op== 9)=false:=beq_eq_false_iff_ne.2 (by omega)
 have aF:(x.op== 10)=false:=beq_eq_false_iff_ne.2 (by omega)
 have aG:(x.op== 27)=false:=beq_eq_false_iff_ne.2 (by omega)
 generalize x.op=op at G H I j u B ay az aA aB aC aD aE aF aG
 rw [U] at t
 obtain ⟨d,f,rfl,K,L⟩:=t.cells 0 (by simp)
 have ad:g.cell? ⟨d,f+1,none⟩=some (.int .i64 l):=by
  obtain ⟨b2,aH,e2,_,d2⟩:=t.cells 1 (by simp)
  obtain ⟨rfl,rfl⟩:d=b2∧f=aH:=by simpa using e2
  simpa using d2
 obtain rfl:F=2:=t.len.symm
 simp only [List.getElem_cons_zero,Nat.add_zero] at L
 have ae:=Ab (h1 (1))
 have af:=Ab (h2 (2))
 generalize o (1)=C at ae V ⊢
 generalize q (2)=aI at af W ⊢
 clear aa t U h1 h2 h hx X Y T hl A z
 go_enter Tryz.func35,Tryz.ntmps35
 go_wp2_with fail
 refine (Aa H _).mono ?_
 rintro r aQ ⟨rfl,ag⟩
 rw [ag]
 clear ag H
 dsimp only
 have aJ:∃ i,i=g.alloc (.cells #[.int .i64 op,.int .i64 x.num,.string x.text,.slice an nn E,.slice (some ⟨d,f,none⟩) 2 s] 99):=⟨_,rfl⟩
 go_wp2_with fail
 obtain ⟨i,ah⟩:=aJ
 rw [← ah] at j u B ⊢
 have ai:=(j.cell (p:=⟨d,f,none⟩) K).trans L
 have aj:=(j.cell (p:=⟨d,f+1,none⟩) K).trans ad
 have ak:i.cell? ⟨g.heap.size,4,none⟩=some (.slice (some ⟨d,f,none⟩) 2 s):=u.cell 4
 have al:i.cell? ⟨g.heap.size,0,none⟩=some (.int .i64 op):=u.cell 0
 have ao:=u.lt
 have ap:d < i.heap.size:=Nat.lt_of_lt_of_le K j.size
 clear ah u L ad G c1 c2 c3 c4
 have D:Below i.heap.size i i.drew:=(Below.refl _ _).drew
 have M:=Ab ((Aa B).trans (D.mono (Aa B).size))
 have O:∀ w',Below i.heap.size i w'→w'.cell? ⟨g.heap.size,4,none⟩=some (.slice (some ⟨d,f,none⟩) 2 s)∧w'.cell? ⟨g.heap.size,0,none⟩=some (.int .i64 op)∧w'.cell? ⟨d,f,none⟩=some (.int .i64 k)∧w'.cell? ⟨d,f+1,none⟩=some (.int .i64 l):=fun w' y=>⟨(y.cell (p:=⟨g.heap.size,4,none⟩) ao).trans ak,(y.cell (p:=⟨g.heap.size,0,none⟩) ao).trans al,(y.cell (p:=⟨d,f,none⟩) ap).trans ai,(y.cell (p:=⟨d,f+1,none⟩) ap).trans aj⟩
 have P:=Ab O
 have aR:=O _ D
 have e1:(⟨#[32]⟩:ByteArray).size=1:=rfl
 have aS:=AX (a:=C) (b:=⟨#[32]⟩) (by rw [e1];omega)
 have aT:=AX (a:=C ++⟨#[32]⟩) (b:=J) (by rw [ByteArray.size_append,e1];omega)
 have aU:=AX (a:=C ++⟨#[32]⟩ ++J) (b:=⟨#[32]⟩) (by simp only [ByteArray.size_append,e1];omega)
 have aV:=AX (a:=C ++⟨#[32]⟩ ++J ++⟨#[32]⟩) (b:=aI) (by simp only [ByteArray.size_append,e1];omega)
 clear O ai aj ak al V W ac
 go_region_held3 (fun w'=>w'.cell? ⟨g.heap.size,4,none⟩=some (.slice (some ⟨d,f,none⟩) 2 s)∧w'.cell? ⟨g.heap.size,0,none⟩=some (.int .i64 op)∧w'.cell? ⟨d,f,none⟩=some (.int .i64 k)∧w'.cell? ⟨d,f+1,none⟩=some (.int .i64 l)) (first | assumption | go_keep)
  (first
   | (go_at_call 35;refine (Aa af _ (Aa Q)).mono ?_;rintro r aW ⟨rfl,aq⟩;have ar:=R.trans (aq.mono R.size);have aX:=Ab ((Aa Q).trans (aq.mono (Aa Q).size));have q4:=Aa P _ ar)
   | (go_at_call 54;refine (Aa I _).mono ?_;rintro r aY ⟨rfl,au⟩;have R:=S.trans (au.mono S.size);have Q:=Ab ((Aa av).trans (au.mono (Aa av).size));have q3:=Aa P _ R)
   | (go_at_call 35;refine (Aa ae _ (Aa M)).mono ?_;rintro r aZ ⟨rfl,aw⟩;have S:=D.trans (aw.mono D.size);have av:=Ab ((Aa M).trans (aw.mono (Aa M).size));have q2:=Aa P _ S))
 go_wp2_with fail
 go_ret
 exact ⟨rfl,j.trans (ar.mono j.size)⟩
theorem Lx (w:World)(a:Option Addr)(n c:Nat)(N:List Nd)(h:Dx w a n c N)(m:Nat)(x:Nd)(hx:N[m]? =some x)(T: 11≤x.op∧x.op≤26)(v:Int)(z:BB x.op=v)(h4:v=2)(k l:Nat)(U:x.kids= [(k:Int),(l:Int)])(o q:Int→ByteArray)(h1:CC w a n c k o)(h2:CC w a n c l q)(V:(o (2)).size≤16000010)(W:(q (3)).size≤16000010):H8 w a n c m x.op (o (2) ++(⟨#[32]⟩ ++A7 x.op ++⟨#[32]⟩) ++q (3)):=by
 intro ax g hl A
 have X:m < N.length:=(List.getElem?_eq_some_iff.1 hx).1
 have Y:N[m]=x:=(List.getElem?_eq_some_iff.1 hx).2
 obtain ⟨b,aK,rfl,y,an,nn,E,Z,F,s,G,c1,c2,c3,c4,aa,t⟩:=(h.below A (Nat.le_refl _)).cells m X
 rw [Y] at G c1 c2 aa t
 have aL:(m:Int) < (n:Int):=by have:=h.len;omega
 have aM:=h.small
 have aN: 0≤v:=by rw [← z];exact CG _
 have aO:v≤8:=by rw [← z];exact DJ _
 have aP:decide (v < ax)=false:=decide_eq_false (by omega)
 have H:=Ab (Aw (op:=x.op) (by omega) z)
 have I:=Ab (Ch x.op T)
 have ab:=Ab (show o (2) ++(⟨#[32]⟩ ++A7 x.op ++⟨#[32]⟩) ++q (3)=o (2) ++⟨#[32]⟩ ++A7 x.op ++⟨#[32]⟩ ++q (3) by simp only [ByteArray.append_assoc])
 rw [Aa ab]
 have ac:=BI x.op
 generalize A7 x.op=J at I ac ⊢
 clear ab
 have j:=(Below.refl g.heap.size g).alloc (Nat.le_refl _) (.cells #[.int .i64 x.op,.int .i64 x.num,.string x.text,.slice an nn E,.slice Z F s] 99)
 have u:=Ao.new g #[.int .i64 x.op,.int .i64 x.num,.string x.text,.slice an nn E,.slice Z F s] 99
 have B:=Ab (A.trans (j.mono A.size))
 subst h4
 have ay:(x.op== 1)=false:=beq_eq_false_iff_ne.2 (by omega)
 have az:(x.op== 2)=false:=beq_eq_false_iff_ne.2 (by omega)
 have aA:(x.op== 3)=false:=beq_eq_false_iff_ne.2 (by omega)
 have aB:(x.op== 4)=false:=beq_eq_false_iff_ne.2 (by omega)
 have aC:(x.op== 5)=false:=beq_eq_false_iff_ne.2 (by omega)
 have aD:(x.op== 8)=false:=beq_eq_false_iff_ne.2 (by omega)
 have aE:(x.op== 9)=false:=beq_eq_false_iff_ne.2 (by omega)
 have aF:(x.op== 10)=false:=beq_eq_false_iff_ne.2 (by omega)
 have aG:(x.op== 27)=false:=beq_eq_false_iff_ne.2 (by omega)
 generalize x.op=op at G H I j u B ay az aA aB aC aD aE aF aG
 rw [U] at t
 obtain ⟨d,f,rfl,K,L⟩:=t.cells 0 (by simp)
 have ad:g.cell? ⟨d,f+1,none⟩=some (.int .i64 l):=by
  obtain ⟨b2,aH,e2,_,d2⟩:=t.cells 1 (by simp)
  obtain ⟨rfl,rfl⟩:d=b2∧f=aH:=by simpa using e2
  simpa using d2
 obtain rfl:F=2:=t.len.symm
 simp only [List.getElem_cons_zero,Nat.add_zero] at L
 have ae:=Ab (h1 (2))
 have af:=Ab (h2 (3))
 generalize o (2)=C at ae V ⊢
 generalize q (3)=aI at af W ⊢
 clear aa t U h1 h2 h hx X Y T hl A z
 go_enter Tryz.func35,Tryz.ntmps35
 go_wp2_with fail
 refine (Aa H _).mono ?_
 rintro r aQ ⟨rfl,ag⟩
 rw [ag]
 clear ag H
 dsimp only
 have aJ:∃ i,i=g.alloc (.cells #[.int .i64 op,.int .i64 x.num,.string x.text,.slice an nn E,.slice (some ⟨d,f,none⟩) 2 s] 99):=⟨_,rfl⟩
 go_wp2_with fail
 obtain ⟨i,ah⟩:=aJ
 rw [← ah] at j u B ⊢
 have ai:=(j.cell (p:=⟨d,f,none⟩) K).trans L
 have aj:=(j.cell (p:=⟨d,f+1,none⟩) K).trans ad
 have ak:i.cell? ⟨g.heap.size,4,none⟩=some (.slice (some ⟨d,f,none⟩) 2 s):=u.cell 4
 have al:i.cell? ⟨g.heap.size,0,none⟩=some (.int .i64 op):=u.cell 0
 have ao:=u.lt
 have ap:d < i.heap.size:=Nat.lt_of_lt_of_le K j.size
 clear ah u L ad G c1 c2 c3 c4
 have D:Below i.heap.size i i.drew:=(Below.refl _ _).drew
 have M:=Ab ((Aa B).trans (D.mono (Aa B).size))
 have O:∀ w',Below i.heap.size i w'→w'.cell? ⟨g.heap.size,4,none⟩=some (.slice (some ⟨d,f,none⟩) 2 s)∧w'.cell? ⟨g.heap.size,0,none⟩=some (.int .i64 op)∧w'.cell? ⟨d,f,none⟩=some (.int .i64 k)∧w'.cell? ⟨d,f+1,none⟩=some (.int .i64 l):=fun w' y=>⟨(y.cell (p:=⟨g.heap.size,4,none⟩) ao).trans ak,(y.cell (p:=⟨g.heap.size,0,none⟩) ao).trans al,(y.cell (p:=⟨d,f,none⟩) ap).trans ai,(y.cell (p:=⟨d,f+1,none⟩) ap).trans aj⟩
 have P:=Ab O
 have aR:=O _ D
 have e1:(⟨#[32]⟩:ByteArray).size=1:=rfl
 have aS:=AX (a:=C) (b:=⟨#[32]⟩) (by rw [e1];omega)
 have aT:=AX (a:=C ++⟨#[32]⟩) (b:=J) (by rw [ByteArray.size_append,e1];omega)
 have aU:=AX (a:=C ++⟨#[32]⟩ ++J) (b:=⟨#[32]⟩) (by simp only [ByteArray.size_append,e1];omega)
 have aV:=AX (a:=C ++⟨#[32]⟩ ++J ++⟨#[32]⟩) (b:=aI) (by simp only [ByteArray.size_append,e1];omega)
 clear O ai aj ak al V W ac
 go_region_held3 (fun w'=>w'.cell? ⟨g.heap.size,4,none⟩=some (.slice (some ⟨d,f,none⟩) 2 s)∧w'.cell? ⟨g.heap.size,0,none⟩=some (.int .i64 op)∧w'.cell? ⟨d,f,none⟩=some (.int .i64 k)∧w'.cell? ⟨d,f+1,none⟩=some (.int .i64 l)) (first | assumption | go_keep)
  (first
   | (go_at_call 35;refine (Aa af _ (Aa Q)).mono ?_;rintro r aW ⟨rfl,aq⟩;have ar:=R.trans (aq.mono R.size);have aX:=Ab ((Aa Q).trans (aq.mono (Aa Q).size));have q4:=Aa P _ ar)
   | (go_at_call 54;refine (Aa I _).mono ?_;rintro r aY ⟨rfl,au⟩;have R:=S.trans (au.mono S.size);have Q:=Ab ((Aa av).trans (au.mono (Aa av).size));have q3:=Aa P _ R)
   | (go_at_call 35;refine (Aa ae _ (Aa M)).mono ?_;rintro r aZ ⟨rfl,aw⟩;have S:=D.trans (aw.mono D.size);have av:=Ab ((Aa M).trans (aw.mono (Aa M).size));have q2:=Aa P _ S))
 go_wp2_with fail
 go_ret
 exact ⟨rfl,j.trans (ar.mono j.size)⟩
theorem Ly (w:World)(a:Option Addr)(n c:Nat)(N:List Nd)(h:Dx w a n c N)(m:Nat)(x:Nd)(hx:N[m]? =some x)(T: 11≤x.op∧x.op≤26)(v:Int)(z:BB x.op=v)(h4:v=4)(k l:Nat)(U:x.kids= [(k:Int),(l:Int)])(o q:Int→ByteArray)(h1:CC w a n c k o)(h2:CC w a n c l q)(V:(o (5)).size≤16000010)(W:(q (5)).size≤16000010):H8 w a n c m x.op (o (5) ++(⟨#[32]⟩ ++A7 x.op ++⟨#[32]⟩) ++q (5)):=by
 intro ax g hl A
 have X:m < N.length:=(List.getElem?_eq_some_iff.1 hx).1
 have Y:N[m]=x:=(List.getElem?_eq_some_iff.1 hx).2
 obtain ⟨b,aK,rfl,y,an,nn,E,Z,F,s,G,c1,c2,c3,c4,aa,t⟩:=(h.below A (Nat.le_refl _)).cells m X
 rw [Y] at G c1 c2 aa t
 have aL:(m:Int) < (n:Int):=by have:=h.len;omega
 have aM:=h.small
 have aN: 0≤v:=by rw [← z];exact CG _
 have aO:v≤8:=by rw [← z];exact DJ _
 have aP:decide (v < ax)=false:=decide_eq_false (by omega)
 have H:=Ab (Aw (op:=x.op) (by omega) z)
 have I:=Ab (Ch x.op T)
 have ab:=Ab (show o (5) ++(⟨#[32]⟩ ++A7 x.op ++⟨#[32]⟩) ++q (5)=o (5) ++⟨#[32]⟩ ++A7 x.op ++⟨#[32]⟩ ++q (5) by simp only [ByteArray.append_assoc])
 rw [Aa ab]
 have ac:=BI x.op
 generalize A7 x.op=J at I ac ⊢
 clear ab
 have j:=(Below.refl g.heap.size g).alloc (Nat.le_refl _) (.cells #[.int .i64 x.op,.int .i64 x.num,.string x.text,.slice an nn E,.slice Z F s] 99)
 have u:=Ao.new g #[.int .i64 x.op,.int .i64 x.num,.string x.text,.slice an nn E,.slice Z F s] 99
 have B:=Ab (A.trans (j.mono A.size))
 subst h4
 have ay:(x.op== 1)=false:=beq_eq_false_iff_ne.2 (by omega)
 have az:(x.op== 2)=false:=beq_eq_false_iff_ne.2 (by omega)
 have aA:(x.op== 3)=false:=beq_eq_false_iff_ne.2 (by omega)
 have aB:(x.op== 4)=false:=beq_eq_false_iff_ne.2 (by omega)
 have aC:(x.op== 5)=false:=beq_eq_false_iff_ne.2 (by omega)
 have aD:(x.op== 8)=false:=beq_eq_false_iff_ne.2 (by omega)
 have aE:(x.op== 9)=false:=beq_eq_false_iff_ne.2 (by omega)
 have aF:(x.op== 10)=false:=beq_eq_false_iff_ne.2 (by omega)
 have aG:(x.op== 27)=false:=beq_eq_false_iff_ne.2 (by omega)
 generalize x.op=op at G H I j u B ay az aA aB aC aD aE aF aG
 rw [U] at t
 obtain ⟨d,f,rfl,K,L⟩:=t.cells 0 (by simp)
 have ad:g.cell? ⟨d,f+1,none⟩=some (.int .i64 l):=by
  obtain ⟨b2,aH,e2,_,d2⟩:=t.cells 1 (by simp)
  obtain ⟨rfl,rfl⟩:d=b2∧f=aH:=by simpa using e2
  simpa using d2
 obtain rfl:F=2:=t.len.symm
 simp only [List.getElem_cons_zero,Nat.add_zero] at L
 have ae:=Ab (h1 (5))
 have af:=Ab (h2 (5))
 generalize o (5)=C at ae V ⊢
 generalize q (5)=aI at af W ⊢
 clear aa t U h1 h2 h hx X Y T hl A z
 go_enter Tryz.func35,Tryz.ntmps35
 go_wp2_with fail
 refine (Aa H _).mono ?_
 rintro r aQ ⟨rfl,ag⟩
 rw [ag]
 clear ag H
 dsimp only
 have aJ:∃ i,i=g.alloc (.cells #[.int .i64 op,.int .i64 x.num,.string x.text,.slice an nn E,.slice (some ⟨d,f,none⟩) 2 s] 99):=⟨_,rfl⟩
 go_wp2_with fail
 obtain ⟨i,ah⟩:=aJ
 rw [← ah] at j u B ⊢
 have ai:=(j.cell (p:=⟨d,f,none⟩) K).trans L
 have aj:=(j.cell (p:=⟨d,f+1,none⟩) K).trans ad
 have ak:i.cell? ⟨g.heap.size,4,none⟩=some (.slice (some ⟨d,f,none⟩) 2 s):=u.cell 4
 have al:i.cell? ⟨g.heap.size,0,none⟩=some (.int .i64 op):=u.cell 0
 have ao:=u.lt
 have ap:d < i.heap.size:=Nat.lt_of_lt_of_le K j.size
 clear ah u L ad G c1 c2 c3 c4
 have D:Below i.heap.size i i.drew:=(Below.refl _ _).drew
 have M:=Ab ((Aa B).trans (D.mono (Aa B).size))
 have O:∀ w',Below i.heap.size i w'→w'.cell? ⟨g.heap.size,4,none⟩=some (.slice (some ⟨d,f,none⟩) 2 s)∧w'.cell? ⟨g.heap.size,0,none⟩=some (.int .i64 op)∧w'.cell? ⟨d,f,none⟩=some (.int .i64 k)∧w'.cell? ⟨d,f+1,none⟩=some (.int .i64 l):=fun w' y=>⟨(y.cell (p:=⟨g.heap.size,4,none⟩) ao).trans ak,(y.cell (p:=⟨g.heap.size,0,none⟩) ao).trans al,(y.cell (p:=⟨d,f,none⟩) ap).trans ai,(y.cell (p:=⟨d,f+1,none⟩) ap).trans aj⟩
 have P:=Ab O
 have aR:=O _ D
 have e1:(⟨#[32]⟩:ByteArray).size=1:=rfl
 have aS:=AX (a:=C) (b:=⟨#[32]⟩) (by rw [e1];omega)
 have aT:=AX (a:=C ++⟨#[32]⟩) (b:=J) (by rw [ByteArray.size_append,e1];omega)
 have aU:=AX (a:=C ++⟨#[32]⟩ ++J) (b:=⟨#[32]⟩) (by simp only [ByteArray.size_append,e1];omega)
 have aV:=AX (a:=C ++⟨#[32]⟩ ++J ++⟨#[32]⟩) (b:=aI) (by simp only [ByteArray.size_append,e1];omega)
 clear O ai aj ak al V W ac
 go_region_held3 (fun w'=>w'.cell? ⟨g.heap.size,4,none⟩=some (.slice (some ⟨d,f,none⟩) 2 s)∧w'.cell? ⟨g.heap.size,0,none⟩=some (.int .i64 op)∧w'.cell? ⟨d,f,none⟩=some (.int .i64 k)∧w'.cell? ⟨d,f+1,none⟩=some (.int .i64 l)) (first | assumption | go_keep)
  (first
   | (go_at_call 35;refine (Aa af _ (Aa Q)).mono ?_;rintro r aW ⟨rfl,aq⟩;have ar:=R.trans (aq.mono R.size);have aX:=Ab ((Aa Q).trans (aq.mono (Aa Q).size));have q4:=Aa P _ ar)
   | (go_at_call 54;refine (Aa I _).mono ?_;rintro r aY ⟨rfl,au⟩;have R:=S.trans (au.mono S.size);have Q:=Ab ((Aa av).trans (au.mono (Aa av).size));have q3:=Aa P _ R)
   | (go_at_call 35;refine (Aa ae _ (Aa M)).mono ?_;rintro r aZ ⟨rfl,aw⟩;have S:=D.trans (aw.mono D.size);have av:=Ab ((Aa M).trans (aw.mono (Aa M).size));have q2:=Aa P _ S))
 go_wp2_with fail
 go_ret
 exact ⟨rfl,j.trans (ar.mono j.size)⟩
theorem Lz (w:World)(a:Option Addr)(n c:Nat)(N:List Nd)(h:Dx w a n c N)(m:Nat)(x:Nd)(hx:N[m]? =some x)(T: 11≤x.op∧x.op≤26)(v:Int)(z:BB x.op=v)(h4:v=5)(k l:Nat)(U:x.kids= [(k:Int),(l:Int)])(o q:Int→ByteArray)(h1:CC w a n c k o)(h2:CC w a n c l q)(V:(o (5)).size≤16000010)(W:(q (6)).size≤16000010):H8 w a n c m x.op (o (5) ++(⟨#[32]⟩ ++A7 x.op ++⟨#[32]⟩) ++q (6)):=by
 intro ax g hl A
 have X:m < N.length:=(List.getElem?_eq_some_iff.1 hx).1
 have Y:N[m]=x:=(List.getElem?_eq_some_iff.1 hx).2
 obtain ⟨b,aK,rfl,y,an,nn,E,Z,F,s,G,c1,c2,c3,c4,aa,t⟩:=(h.below A (Nat.le_refl _)).cells m X
 rw [Y] at G c1 c2 aa t
 have aL:(m:Int) < (n:Int):=by have:=h.len;omega
 have aM:=h.small
 have aN: 0≤v:=by rw [← z];exact CG _
 have aO:v≤8:=by rw [← z];exact DJ _
 have aP:decide (v < ax)=false:=decide_eq_false (by omega)
 have H:=Ab (Aw (op:=x.op) (by omega) z)
 have I:=Ab (Ch x.op T)
 have ab:=Ab (show o (5) ++(⟨#[32]⟩ ++A7 x.op ++⟨#[32]⟩) ++q (6)=o (5) ++⟨#[32]⟩ ++A7 x.op ++⟨#[32]⟩ ++q (6) by simp only [ByteArray.append_assoc])
 rw [Aa ab]
 have ac:=BI x.op
 generalize A7 x.op=J at I ac ⊢
 clear ab
 have j:=(Below.refl g.heap.size g).alloc (Nat.le_refl _) (.cells #[.int .i64 x.op,.int .i64 x.num,.string x.text,.slice an nn E,.slice Z F s] 99)
 have u:=Ao.new g #[.int .i64 x.op,.int .i64 x.num,.string x.text,.slice an nn E,.slice Z F s] 99
 have B:=Ab (A.trans (j.mono A.size))
 subst h4
 have ay:(x.op== 1)=false:=beq_eq_false_iff_ne.2 (by omega)
 have az:(x.op== 2)=false:=beq_eq_false_iff_ne.2 (by omega)
 have aA:(x.op== 3)=false:=beq_eq_false_iff_ne.2 (by omega)
 have aB:(x.op== 4)=false:=beq_eq_false_iff_ne.2 (by omega)
 have aC:(x.op== 5)=false:=beq_eq_false_iff_ne.2 (by omega)
 have aD:(x.op== 8)=false:=beq_eq_false_iff_ne.2 (by omega)
 have aE:(x.op== 9)=false:=beq_eq_false_iff_ne.2 (by omega)
 have aF:(x.op== 10)=false:=beq_eq_false_iff_ne.2 (by omega)
 have aG:(x.op== 27)=false:=beq_eq_false_iff_ne.2 (by omega)
 generalize x.op=op at G H I j u B ay az aA aB aC aD aE aF aG
 rw [U] at t
 obtain ⟨d,f,rfl,K,L⟩:=t.cells 0 (by simp)
 have ad:g.cell? ⟨d,f+1,none⟩=some (.int .i64 l):=by
  obtain ⟨b2,aH,e2,_,d2⟩:=t.cells 1 (by simp)
  obtain ⟨rfl,rfl⟩:d=b2∧f=aH:=by simpa using e2
  simpa using d2
 obtain rfl:F=2:=t.len.symm
 simp only [List.getElem_cons_zero,Nat.add_zero] at L
 have ae:=Ab (h1 (5))
 have af:=Ab (h2 (6))
 generalize o (5)=C at ae V ⊢
 generalize q (6)=aI at af W ⊢
 clear aa t U h1 h2 h hx X Y T hl A z
 go_enter Tryz.func35,Tryz.ntmps35
 go_wp2_with fail
 refine (Aa H _).mono ?_
 rintro r aQ ⟨rfl,ag⟩
 rw [ag]
 clear ag H
 dsimp only
 have aJ:∃ i,i=g.alloc (.cells #[.int .i64 op,.int .i64 x.num,.string x.text,.slice an nn E,.slice (some ⟨d,f,none⟩) 2 s] 99):=⟨_,rfl⟩
 go_wp2_with fail
 obtain ⟨i,ah⟩:=aJ
 rw [← ah] at j u B ⊢
 have ai:=(j.cell (p:=⟨d,f,none⟩) K).trans L
 have aj:=(j.cell (p:=⟨d,f+1,none⟩) K).trans ad
 have ak:i.cell? ⟨g.heap.size,4,none⟩=some (.slice (some ⟨d,f,none⟩) 2 s):=u.cell 4
 have al:i.cell? ⟨g.heap.size,0,none⟩=some (.int .i64 op):=u.cell 0
 have ao:=u.lt
 have ap:d < i.heap.size:=Nat.lt_of_lt_of_le K j.size
 clear ah u L ad G c1 c2 c3 c4
 have D:Below i.heap.size i i.drew:=(Below.refl _ _).drew
 have M:=Ab ((Aa B).trans (D.mono (Aa B).size))
 have O:∀ w',Below i.heap.size i w'→w'.cell? ⟨g.heap.size,4,none⟩=some (.slice (some ⟨d,f,none⟩) 2 s)∧w'.cell? ⟨g.heap.size,0,none⟩=some (.int .i64 op)∧w'.cell? ⟨d,f,none⟩=some (.int .i64 k)∧w'.cell? ⟨d,f+1,none⟩=some (.int .i64 l):=fun w' y=>⟨(y.cell (p:=⟨g.heap.size,4,none⟩) ao).trans ak,(y.cell (p:=⟨g.heap.size,0,none⟩) ao).trans al,(y.cell (p:=⟨d,f,none⟩) ap).trans ai,(y.cell (p:=⟨d,f+1,none⟩) ap).trans aj⟩
 have P:=Ab O
 have aR:=O _ D
 have e1:(⟨#[32]⟩:ByteArray).size=1:=rfl
 have aS:=AX (a:=C) (b:=⟨#[32]⟩) (by rw [e1];omega)
 have aT:=AX (a:=C ++⟨#[32]⟩) (b:=J) (by rw [ByteArray.size_append,e1];omega)
 have aU:=AX (a:=C ++⟨#[32]⟩ ++J) (b:=⟨#[32]⟩) (by simp only [ByteArray.size_append,e1];omega)
 have aV:=AX (a:=C ++⟨#[32]⟩ ++J ++⟨#[32]⟩) (b:=aI) (by simp only [ByteArray.size_append,e1];omega)
 clear O ai aj ak al V W ac
 go_region_held3 (fun w'=>w'.cell? ⟨g.heap.size,4,none⟩=some (.slice (some ⟨d,f,none⟩) 2 s)∧w'.cell? ⟨g.heap.size,0,none⟩=some (.int .i64 op)∧w'.cell? ⟨d,f,none⟩=some (.int .i64 k)∧w'.cell? ⟨d,f+1,none⟩=some (.int .i64 l)) (first | assumption | go_keep)
  (first
   | (go_at_call 35;refine (Aa af _ (Aa Q)).mono ?_;rintro r aW ⟨rfl,aq⟩;have ar:=R.trans (aq.mono R.size);have aX:=Ab ((Aa Q).trans (aq.mono (Aa Q).size));have q4:=Aa P _ ar)
   | (go_at_call 54;refine (Aa I _).mono ?_;rintro r aY ⟨rfl,au⟩;have R:=S.trans (au.mono S.size);have Q:=Ab ((Aa av).trans (au.mono (Aa av).size));have q3:=Aa P _ R)
   | (go_at_call 35;refine (Aa ae _ (Aa M)).mono ?_;rintro r aZ ⟨rfl,aw⟩;have S:=D.trans (aw.mono D.size);have av:=Ab ((Aa M).trans (aw.mono (Aa M).size));have q2:=Aa P _ S))
 go_wp2_with fail
 go_ret
 exact ⟨rfl,j.trans (ar.mono j.size)⟩
theorem LA (w:World)(a:Option Addr)(n c:Nat)(N:List Nd)(h:Dx w a n c N)(m:Nat)(x:Nd)(hx:N[m]? =some x)(T: 11≤x.op∧x.op≤26)(v:Int)(z:BB x.op=v)(h4:v=6)(k l:Nat)(U:x.kids= [(k:Int),(l:Int)])(o q:Int→ByteArray)(h1:CC w a n c k o)(h2:CC w a n c l q)(V:(o (6)).size≤16000010)(W:(q (7)).size≤16000010):H8 w a n c m x.op (o (6) ++(⟨#[32]⟩ ++A7 x.op ++⟨#[32]⟩) ++q (7)):=by
 intro ax g hl A
 have X:m < N.length:=(List.getElem?_eq_some_iff.1 hx).1
 have Y:N[m]=x:=(List.getElem?_eq_some_iff.1 hx).2
 obtain ⟨b,aK,rfl,y,an,nn,E,Z,F,s,G,c1,c2,c3,c4,aa,t⟩:=(h.below A (Nat.le_refl _)).cells m X
 rw [Y] at G c1 c2 aa t
 have aL:(m:Int) < (n:Int):=by have:=h.len;omega
 have aM:=h.small
 have aN: 0≤v:=by rw [← z];exact CG _
 have aO:v≤8:=by rw [← z];exact DJ _
 have aP:decide (v < ax)=false:=decide_eq_false (by omega)
 have H:=Ab (Aw (op:=x.op) (by omega) z)
 have I:=Ab (Ch x.op T)
 have ab:=Ab (show o (6) ++(⟨#[32]⟩ ++A7 x.op ++⟨#[32]⟩) ++q (7)=o (6) ++⟨#[32]⟩ ++A7 x.op ++⟨#[32]⟩ ++q (7) by simp only [ByteArray.append_assoc])
 rw [Aa ab]
 have ac:=BI x.op
 generalize A7 x.op=J at I ac ⊢
 clear ab
 have j:=(Below.refl g.heap.size g).alloc (Nat.le_refl _) (.cells #[.int .i64 x.op,.int .i64 x.num,.string x.text,.slice an nn E,.slice Z F s] 99)
 have u:=Ao.new g #[.int .i64 x.op,.int .i64 x.num,.string x.text,.slice an nn E,.slice Z F s] 99
 have B:=Ab (A.trans (j.mono A.size))
 subst h4
 have ay:(x.op== 1)=false:=beq_eq_false_iff_ne.2 (by omega)
 have az:(x.op== 2)=false:=beq_eq_false_iff_ne.2 (by omega)
 have aA:(x.op== 3)=false:=beq_eq_false_iff_ne.2 (by omega)
 have aB:(x.op== 4)=false:=beq_eq_false_iff_ne.2 (by omega)
 have aC:(x.op== 5)=false:=beq_eq_false_iff_ne.2 (by omega)
 have aD:(x.op== 8)=false:=beq_eq_false_iff_ne.2 (by omega)
 have aE:(x.op== 9)=false:=beq_eq_false_iff_ne.2 (by omega)
 have aF:(x.op== 10)=false:=beq_eq_false_iff_ne.2 (by omega)
 have aG:(x.op== 27)=false:=beq_eq_false_iff_ne.2 (by omega)
 generalize x.op=op at G H I j u B ay az aA aB aC aD aE aF aG
 rw [U] at t
 obtain ⟨d,f,rfl,K,L⟩:=t.cells 0 (by simp)
 have ad:g.cell? ⟨d,f+1,none⟩=some (.int .i64 l):=by
  obtain ⟨b2,aH,e2,_,d2⟩:=t.cells 1 (by simp)
  obtain ⟨rfl,rfl⟩:d=b2∧f=aH:=by simpa using e2
  simpa using d2
 obtain rfl:F=2:=t.len.symm
 simp only [List.getElem_cons_zero,Nat.add_zero] at L
 have ae:=Ab (h1 (6))
 have af:=Ab (h2 (7))
 generalize o (6)=C at ae V ⊢
 generalize q (7)=aI at af W ⊢
 clear aa t U h1 h2 h hx X Y T hl A z
 go_enter Tryz.func35,Tryz.ntmps35
 go_wp2_with fail
 refine (Aa H _).mono ?_
 rintro r aQ ⟨rfl,ag⟩
 rw [ag]
 clear ag H
 dsimp only
 have aJ:∃ i,i=g.alloc (.cells #[.int .i64 op,.int .i64 x.num,.string x.text,.slice an nn E,.slice (some ⟨d,f,none⟩) 2 s] 99):=⟨_,rfl⟩
 go_wp2_with fail
 obtain ⟨i,ah⟩:=aJ
 rw [← ah] at j u B ⊢
 have ai:=(j.cell (p:=⟨d,f,none⟩) K).trans L
 have aj:=(j.cell (p:=⟨d,f+1,none⟩) K).trans ad
 have ak:i.cell? ⟨g.heap.size,4,none⟩=some (.slice (some ⟨d,f,none⟩) 2 s):=u.cell 4
 have al:i.cell? ⟨g.heap.size,0,none⟩=some (.int .i64 op):=u.cell 0
 have ao:=u.lt
 have ap:d < i.heap.size:=Nat.lt_of_lt_of_le K j.size
 clear ah u L ad G c1 c2 c3 c4
 have D:Below i.heap.size i i.drew:=(Below.refl _ _).drew
 have M:=Ab ((Aa B).trans (D.mono (Aa B).size))
 have O:∀ w',Below i.heap.size i w'→w'.cell? ⟨g.heap.size,4,none⟩=some (.slice (some ⟨d,f,none⟩) 2 s)∧w'.cell? ⟨g.heap.size,0,none⟩=some (.int .i64 op)∧w'.cell? ⟨d,f,none⟩=some (.int .i64 k)∧w'.cell? ⟨d,f+1,none⟩=some (.int .i64 l):=fun w' y=>⟨(y.cell (p:=⟨g.heap.size,4,none⟩) ao).trans ak,(y.cell (p:=⟨g.heap.size,0,none⟩) ao).trans al,(y.cell (p:=⟨d,f,none⟩) ap).trans ai,(y.cell (p:=⟨d,f+1,none⟩) ap).trans aj⟩
 have P:=Ab O
 have aR:=O _ D
 have e1:(⟨#[32]⟩:ByteArray).size=1:=rfl
 have aS:=AX (a:=C) (b:=⟨#[32]⟩) (by rw [e1];omega)
 have aT:=AX (a:=C ++⟨#[32]⟩) (b:=J) (by rw [ByteArray.size_append,e1];omega)
 have aU:=AX (a:=C ++⟨#[32]⟩ ++J) (b:=⟨#[32]⟩) (by simp only [ByteArray.size_append,e1];omega)
 have aV:=AX (a:=C ++⟨#[32]⟩ ++J ++⟨#[32]⟩) (b:=aI) (by simp only [ByteArray.size_append,e1];omega)
 clear O ai aj ak al V W ac
 go_region_held3 (fun w'=>w'.cell? ⟨g.heap.size,4,none⟩=some (.slice (some ⟨d,f,none⟩) 2 s)∧w'.cell? ⟨g.heap.size,0,none⟩=some (.int .i64 op)∧w'.cell? ⟨d,f,none⟩=some (.int .i64 k)∧w'.cell? ⟨d,f+1,none⟩=some (.int .i64 l)) (first | assumption | go_keep)
  (first
   | (go_at_call 35;refine (Aa af _ (Aa Q)).mono ?_;rintro r aW ⟨rfl,aq⟩;have ar:=R.trans (aq.mono R.size);have aX:=Ab ((Aa Q).trans (aq.mono (Aa Q).size));have q4:=Aa P _ ar)
   | (go_at_call 54;refine (Aa I _).mono ?_;rintro r aY ⟨rfl,au⟩;have R:=S.trans (au.mono S.size);have Q:=Ab ((Aa av).trans (au.mono (Aa av).size));have q3:=Aa P _ R)
   | (go_at_call 35;refine (Aa ae _ (Aa M)).mono ?_;rintro r aZ ⟨rfl,aw⟩;have S:=D.trans (aw.mono D.size);have av:=Ab ((Aa M).trans (aw.mono (Aa M).size));have q2:=Aa P _ S))
 go_wp2_with fail
 go_ret
 exact ⟨rfl,j.trans (ar.mono j.size)⟩
end Go.Proofs.YtcpdodmoheebaaaGreatDoor
