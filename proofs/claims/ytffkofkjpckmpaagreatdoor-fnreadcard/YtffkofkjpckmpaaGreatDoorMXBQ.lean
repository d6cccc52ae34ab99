/-
  HF, HH, HI, HJ, HK, HL, HM, HN. Own work.
-/
import Derived.Test.YtffkofkjpckmpaaGreatDoorMXAP
import Derived.Test.YtffkofkjpckmpaaGreatDoorMXBC
import Derived.Deep.AppendLies
import Derived.Test.YtffkofkjpckmpaaGreatDoorMXAQ
namespace Go.Proofs.YtffkofkjpckmpaaGreatDoor
set_option maxRecDepth 100000
set_option maxHeartbeats 6400000
open Go.RowKit
set_option linter.unusedVariables false
def Of (st:List Sy):List Value:=st.reverse.map fun y=>Value.string (g0 y)
theorem MM (x:Sy)(st:List Sy):Of (x ::st)=Of st ++ [.string (g0 x)]:=by simp[Of]
def YK (T:List Ae) (res:Option (List Ae)) (B:Nat) (w:World) (n:Nat) (v a:Value) (wr:World):Prop:=
 ∃ st k g c,v= .slice (some ⟨g,0,none⟩) st.length c∧a= .int .i64 ((k:Nat):Int)∧wr.ownsRow w.heap.size 9 1 v st.length (Of st)∧Mv n st (T.drop k) res∧k≤T.length∧Qm B st (T.drop k)∧(∀ y∈st,okY y)∧Below w.heap.size w wr
theorem YL {w:World}{B n g c:Nat}{e:TypeId}{a:List Value}{x:Value}(h:w.ownsRow B e 1 (.slice (some ⟨g,0,none⟩) (n+1) c) (n+1) (a ++ [x])):w.ownsRow B e 1 (.slice (some ⟨g,0,none⟩) n c) n a:=by
 have hl:a.length=n:=by have:=h.1;simp at this;omega
 refine ⟨by simp[hl], ?_⟩;rcases h.2 with ⟨h0,_⟩ | ⟨f,cap,d,b,h1,h2,h3,h4,h5,h6⟩
 ·cases h0
 ·simp only[Value.slice.injEq,Option.some.injEq,Addr.mk.injEq,and_true,true_and] at b;obtain ⟨rfl,rfl⟩:=b;refine .inr ⟨g,c,d,rfl,h1,h2,by omega,h4,h5, ?_⟩;rw[Nat.mul_one] at h6 ⊢;have:=congrArg (List.take n) h6;rw[List.take_take,Nat.min_eq_left (by omega),List.take_left' hl] at this;exact this
theorem YM {w:World}{B n g c:Nat}{e:TypeId}{a:List Value}{x:Value}(h:w.ownsRow B e 1 (.slice (some ⟨g,0,none⟩) (n+1) c) (n+1) (a ++ [x])):w.cell? ⟨g,n,none⟩=some x:=by
 have hl:a.length=n:=by have:=h.1;simp at this;omega
 rw[h.cellAt n (by omega),yC (by omega),hl];simp
theorem Mv.exp_inv {n:Nat}{x:Sy}{st m:List Sy}{ts:List Ae}{a:Option (List Ae)}(h:Mv n (x ::st) ts a)(he:An x (Km ts)=some m):∃ b,n=b+1∧Mv b (m ++st) ts a:=by
 cases h with
 |exp h d=>rw[h] at he;injection he with he;rw[← he];exact ⟨_,rfl,d⟩
 |scope=>cases he
 |scope_nil=>cases he
 |scope_no=>cases he
 |term=>cases he
 |term_nil=>cases he
 |term_no=>cases he
def Ab1 (x:Sy) (t:Ae):Prop:=match x with
 | .scope=>FU t
 | .t s=>tk t=s
 |_=>False
theorem Mv.none_inv {n:Nat}{x:Sy}{st:List Sy}{t:Ae}{ts:List Ae}{a:Option (List Ae)}(h:Mv n (x ::st) (t ::ts) a)(he:An x (tk t)=none):(Ab1 x t∧∃ b,n=b+1∧Mv b st ts a)∨(¬ Ab1 x t∧a=some (t ::ts)):=by
 cases h with
 |exp h d=>rw[show Km (t ::ts)=tk t from rfl,he] at h;cases h
 |scope h d=>exact .inl ⟨h,_,rfl,d⟩
 |scope_no h=>exact .inr ⟨h,rfl⟩
 |term h d=>exact .inl ⟨h,_,rfl,d⟩
 |term_no h=>exact .inr ⟨h,rfl⟩
theorem Mv.nil_inv {n:Nat}{x:Sy}{st:List Sy}{a:Option (List Ae)}(h:Mv n (x ::st) [] a)(he:An x []=none):a=some []:=by
 cases h with
 |exp h d=>rw[show Km []= [] from rfl,he] at h;cases h
 |scope_nil=>rfl
 |term_nil=>rfl
theorem Qn {x:Sy}{t:List UInt8}(h:An x t=none):x= .scope∨∃ s,x= .t s:=by
 cases x <;> first | exact .inl rfl | exact .inr ⟨_,rfl⟩ | (exfalso;revert h;simp only[An];(repeat' split) <;> simp)
theorem RZ {t:Ae}(h:BM t):tk t≠ []∧tk t≠ [83,67,79,80,69]∧(tk t=Fe→t.kind=2):=by
 rcases h with h | h | h | ⟨h,a⟩
 ·simp[tk,h,N8,Fe]
 ·simp[tk,h,Fe]
 ·simp[tk,h,Ew,Fe]
 ·have e:tk t=Aj t.text:=by unfold tk;rw[if_neg (by omega),if_neg (by omega),if_neg (by omega)]
  rw[e];have b:∀ s∈Cq,s≠ []∧s≠ [83,67,79,80,69]∧s≠Fe:=by decide
  have:=b _ a;exact ⟨this.1,this.2.1,fun h=>absurd h this.2.2⟩
theorem Us {s:List UInt8}(h:okY (.t s)):s≠ [83,67,79,80,69]:=by
 rcases h with h | rfl | rfl | rfl
 ·have a:∀ s∈Cq,s≠ [83,67,79,80,69]:=by decide
  exact a _ h
 ·decide
 ·decide
 ·decide
theorem KG (T:List Ae)(a:Option Addr)(c lo:Nat)(w:World)(bl:w.ownsRow lo 42 4 (.slice a T.length c) T.length (EN T))(bm:∀ t∈T,BM t)(hl:T.length≤4000)(l:Option (List Ae))(bn:Ru [.policy] T l):
  Calls Tryz.prog 12 #[.slice a T.length c] w fun r w'=>r= .returned (.int .i64 (YJ T l))∧Below w.heap.size w w':=by
 obtain ⟨i,hi,bo,bp,bq⟩:=info_parts Mf;have br:=(Below.refl w.heap.size w).alloc NLN (.cells #[.string ⟨#[80,111,108,105,99,121]⟩] 9);have bs:Hid (∃ n,YK T l (3+14 * T.length) w n (.slice (some ⟨w.heap.size,0,none⟩) 1 1) (.int .i64 0) (w.alloc (.cells #[.string ⟨#[80,111,108,105,99,121]⟩] 9))):=by
  obtain ⟨n,bI⟩:=bn;exact Ab ⟨n, [.policy],0,w.heap.size,1,rfl,rfl,Gx w #[.string ⟨#[80,111,108,105,99,121]⟩] 1 rfl (by unfold maxLen;omega),by simpa using bI,zN _,.inl (by simp[NR,Sy.wt]),fun y hy=>by rw[zJ.1 hy];trivial,br⟩
 have bt:=Ab bl;have bJ:=Ab bm;clear bn bl bm br;go_enter Tryz.func12,Tryz.ntmps12
 go_wp2_with fail
 go_loopw [3,4] (fun v a wr=>∃ n,YK T l (3+14 * T.length) w n v a wr) (fun v a wr=>Bu (fun n=>YK T l (3+14 * T.length) w n v a wr))
 case atStart=>exact Aa bs
 case round=>
  clear bs;have bu:=FI hrel;have ah:=Ab (show ∀ n aW aX w',n < Bu (fun n=>YK T l (3+14 * T.length) w n u3 u4 wr)→YK T l (3+14 * T.length) w n aW aX w'→Bu (fun n=>YK T l (3+14 * T.length) w n aW aX w') < Bu (fun n=>YK T l (3+14 * T.length) w n u3 u4 wr) from fun n aW aX w' h1 h2=>Ip h1 h2);generalize bv:Bu (fun n=>YK T l (3+14 * T.length) w n u3 u4 wr)=m at bu ah;have ar:=Ab bv;clear bv hrel;obtain ⟨st,k,g,V,rfl,rfl,au,av,hk,hinv,aY,O⟩:=bu;have bw:=Ab hinv.len;cases st with
  |nil=>
   have bK:(k < T.length∧YJ T l=(k:Int))∨(¬ k < T.length∧YJ T l= -1):=by
    generalize bx:T.drop k=q at av;cases av with
    |fin=>right;exact ⟨by have:=congrArg List.length bx;simp at this;omega,rfl⟩
    |@over t r=>left;have:=congrArg List.length bx;simp at this;exact ⟨by omega,by simp[YJ];omega⟩
   clear av hinv aY ah ar bw;rcases bK with ⟨h1,h2⟩ | ⟨h1,h2⟩
   ·have bL:(k:Int) < (T.length:Int):=by omega
    have aZ:=Ab h2;clear h2 h1;go_wp2_with fail
    go_ret
    exact ⟨by rw[Aa aZ];rfl,O⟩
   ·have bL: ¬ ((k:Int) < (T.length:Int)):=by omega
    have aZ:=Ab h2;clear h2 h1;go_wp2_with fail
    go_ret
    exact ⟨by rw[Aa aZ];rfl,O⟩
  |cons x st=>
   rw[MM] at au;have bz:=YM au;have ai:=YL au;have bM:=Ab (show st.length≤60000 by have:=Aa bw;simp at this;omega);have b1:=Aa bM;have b2:wrap64 (((st.length+1 :Nat):Int) - 1)=(st.length:Int):=by simp[wrap64];omega
   have aT:=Ab av;have a0:=Ab hinv;have W:=Ab aY;have b3:st.length+1≤V:=by
    rcases au.2 with ⟨h0,_⟩ | ⟨o,cap,bA,X,h1,h2,h3,_⟩
    ·cases h0
    ·simp only[Value.slice.injEq] at X;obtain ⟨_,_,rfl⟩:=X;simpa using h3
   have b4:V≠0:=by omega
   clear av hinv aY au;by_cases aj:k < T.length
   ·have bN:(k:Int) < (T.length:Int):=by omega
    have bB:=zq aj;obtain ⟨aU,e1,e2,e3⟩:=Im T k aj;obtain ⟨b5,b6,bC,bD⟩:=Af (Aa bt);obtain ⟨ak,bO,_,bE⟩:=bD (by omega);have bP:a=some ⟨ak,0,none⟩:=by injection bC with h1;rw[h1];exact bO
    subst bP;have bQ:ak < w.heap.size:=((Aa bt).lt ak rfl).2;have al:∀ w',Below w.heap.size w w'→∀ j u,(EN T)[j]? =some u→w'.cell? ⟨ak,j,none⟩=some u:=fun w' a1 j u hu=>(a1.cell (p:=⟨ak,j,none⟩) bQ).trans (bE j u hu);have a2:=al wr O _ _ aU;have a3:=al wr O _ _ e1;have q2:=al wr O _ _ e2;have q3:=al wr O _ _ e3;have bF:=Ab (fun w' a1=>al w' a1 _ _ e2);clear aU e1 e2 e3 al bE bC bD;have aw:=Ab bB;have ao:=Ab (Aa bJ T[k] (zP aj));clear bB;generalize T[k]=F at a2 a3 q2 q3 bF aw ao;have aV:=Ab aj;clear aj;go_wp2_with fail
    refine (Up F wr).mono ?_;rintro r a4 ⟨rfl,bG⟩;have P:=O.trans (bG.mono O.size);have B:=Ac ai (fun q hq=>bG.block q (ai.lt q hq).2);have C:=Ab (show Km (T.drop k)=tk F by rw[Aa aw];rfl);have M:=Ab (ML x (Aa W x (zQ ..)) (tk F) a4);rw[← Aa C] at M ⊢;cases E:An x (Km (T.drop k)) with
    |some b=>
     rw[E] at M;have z:=Ab E;clear E ai bz a2 a3 q2 q3;dsimp only;go_wp2_with fail
     refine (Aa M).mono ?_;rintro r A ⟨⟨am,bR,rfl,Z⟩,N⟩;have H:=P.trans (N.mono P.size);have I:=Ac B (fun q hq=>N.block q (B.lt q hq).2);dsimp only;go_wp2_with fail
     obtain ⟨aa,rfl⟩:∃ aa,aa=wr:=⟨_,rfl⟩
     obtain ⟨J,ax,ay⟩:=(Aa aT).exp_inv (Aa z);have az:=Ab (And.intro ax ay);have ab:=Ab ((Aa a0).exp (Aa z));have a5:=Ab (show ∀ y∈b ++st,okY y from fun y hy=>by
      rcases zH.1 hy with h | h
      ·exact YI (Aa z) y h
      ·exact Aa W y (zS _ h))
     have bS:b.length≤70000:=by have:=(Aa ab).len;simp at this;omega
     have a6:=Ab (show b.length+st.length≤70000 by have:=(Aa ab).len;simp at this;omega);have aA:wrap64 ((b.length:Int) - 1)=(b.length:Int) - 1:=by simp[wrap64];omega
     have a7:∃ d,(b.length≠0→am=some ⟨d,0,none⟩)∧d≠g∧(∀ j (f:j < b.length),A.cell? ⟨d,j,none⟩=some (.string (g0 b[j]))):=by
      have bT:g < a4.heap.size:=(B.lt g rfl).2;rcases Z.2 with ⟨_,h0⟩ | ⟨d,cap,bA,X,h1,h2,_⟩
      ·exact ⟨a4.heap.size,fun h=>absurd h0 h,by omega,fun j f=>absurd f (by omega)⟩
      ·simp only[Value.slice.injEq] at X;obtain ⟨aB,_,_⟩:=X;refine ⟨d,fun _=>aB,by omega,fun j f=>?_⟩;subst aB;rw[Z.cellAt j (by omega),zd,zM f];rfl
     obtain ⟨d,aC,a8,aD⟩:=a7;have ac:=Ab (And.intro aC aD);have aE:A.ownsRow w.heap.size 9 1 (.slice (some ⟨g,0,none⟩) (b.drop b.length ++st).length V) (b.drop b.length ++st).length (Of (b.drop b.length ++st)):=by rw[List.drop_length];exact I
     rw[aA];clear aC aD Z ax ay B I aA;go_loopw [3,9] (fun v ad Q=>∃ (p o L:Nat),p≤b.length∧ad= .int .i64 ((p:Int) - 1)∧v= .slice (some ⟨o,0,none⟩) (b.drop p ++st).length L∧Q.ownsRow w.heap.size 9 1 (.slice (some ⟨o,0,none⟩) (b.drop p ++st).length L) (b.drop p ++st).length (Of (b.drop p ++st))∧d≠o∧(∀ j (f:j < b.length),Q.cell? ⟨d,j,none⟩=some (.string (g0 b[j]))∧d < Q.heap.size)∧Below w.heap.size w Q) (fun _ ad _=>(intOf ad+1).toNat)
     case atStart=>exact ⟨b.length,g,V,NLN,rfl,by rw[List.drop_length];rfl,aE,a8,fun j f=>⟨(Aa ac).2 j f,by
       have:=(Aa ac).2 j f;unfold World.cell? at this;by_cases hq:d < A.heap.size
       ·exact hq
       ·rw[Array.getElem?_eq_none (by show A.heap.size≤d;omega)] at this;cases this⟩,H⟩
     case round=>
      obtain ⟨p,o,L,hp,rfl,rfl,R,a9,aF,ae⟩:=hrel;have aG:=Ab aF;clear aE aF;by_cases aH:p=0
      ·subst aH;have af: ¬ ((0 :Int)≤((0 :Nat):Int) - 1):=by omega
       have aI:=Ab (show YK T l (3+14 * T.length) w J (.slice (some ⟨o,0,none⟩) (b ++st).length L) (.int .i64 ((k:Nat):Int)) wr from ⟨b ++st,k,o,L,rfl,rfl,by simpa using R,(Aa az).2,hk,Aa ab,Aa a5,ae⟩);go_wp2_with fail
       rw[zm];exact ⟨⟨J,Aa aI⟩,by rw[Aa ar];exact Aa ah J _ _ _ (by have:=(Aa az).1;omega) (Aa aI)⟩
      ·have af:(0 :Int)≤(p:Int) - 1:=by omega
       obtain ⟨q,rfl⟩:∃ q,p=q+1:=⟨p - 1,by omega⟩
       have hq:q < b.length:=by omega
       obtain ⟨ba,bb⟩:=Aa aG q hq;have bc:=(Aa ac).1 (by omega);have bd:=Ab (zq hq);have bf:(((q+1 :Nat):Int) - 1)=(q:Int):=by omega
       have bU:(q:Int) < (b.length:Int):=by omega
       have bV:wrap64 ((q:Int) - 1)=(q:Int) - 1:=by simp[wrap64];omega
       subst bc;have aJ:=R.alloc (.cells #[.string (g0 b[q])] 9);have bg:=Ab (show (b.drop (q+1) ++st).length≤70000 by have:=Aa a6;simp;omega);have bW:=Aa bg;have bh:=ae.size;generalize aK:b.drop (q+1) ++st=aL at *;have bi:=Ab aK;generalize aM:b[q]=ag at *;have bX:=Ab aM;clear aK aM aH af;rw[bf];have af:(0 :Int)≤(q:Int):=by omega
       go_wp2_with (at_builtin;refine wpList_append_lies _ rfl _ _ 47 rfl w.heap.size 9 i (.string ByteArray.empty) 1 16 Tryz.underlying47 hi bo bp bq rfl (by decide) _ _ _ rfl aJ ⟨wr.heap.size,0,none⟩ 1 1 [.string (g0 ag)] rfl rfl (cell_one_new wr _ _) ?c2 (by decide) ?c3 ?c4 ?c5 (wr.heap.size+1) (by simp) ?_)
       case c2=>rfl
       case c3=>unfold maxLen;omega
       case c4=>omega
       case c5=>omega
       intro gk aN S aO U aP bY;have aQ:=(ae.alloc bh (.cells #[.string (g0 ag)] 9)).grown U (by simp;omega) (fun q hq=>(R.lt q hq).1);have aR:∃ (p g2 c2:Nat),p≤b.length∧Value.int .i64 ((q:Int) - 1)= .int .i64 ((p:Int) - 1)∧Value.slice (some ⟨gk,0,none⟩) (aL.length+1) aN= .slice (some ⟨g2,0,none⟩) (b.drop p ++st).length c2∧S.ownsRow w.heap.size 9 1 (.slice (some ⟨g2,0,none⟩) (b.drop p ++st).length c2) (b.drop p ++st).length (Of (b.drop p ++st))∧d≠g2∧(∀ j (f:j < b.length),S.cell? ⟨d,j,none⟩=some (.string (g0 b[j]))∧d < S.heap.size)∧Below w.heap.size w S:=by
        have e:b.drop q ++st=ag ::aL:=by rw[Aa bd,← Aa bi];rfl
        refine ⟨q,gk,aN,by omega,rfl,by rw[e];rfl, ?_, ?_,fun j f=>⟨?_, ?_⟩,aQ⟩
        ·rw[e,MM,List.length_cons];exact aO
        ·rcases aP with h | h
         ·have:o=gk:=by simpa[Value.ownBlock] using h
          omega
         ·omega
        ·have hx:=U.block d (by simp;omega) (fun h=>a9 (by simpa[Value.ownBlock] using h));have hy:=hx.trans (Below.heap_alloc wr _ d bb);have aS:=(Aa aG j f).1;unfold World.cell? at aS ⊢;rw[hy];exact aS
        ·have:=U.size;simp at this;omega
       have bj:=Ab aR;clear aR aO U aP R aJ aQ ba;go_wp2_with fail
       go_roundw
       case rel=>exact ⟨_,_,_,_,_,_,_,_,_,_,_,_,_,Aa bj,rfl⟩
       case measure=>simp[intOf]
    |none=>
     rw[E] at M;have z:=Ab E;clear E ai bz a2 a3 q2 q3;have bH:=Ab ((show Mv _ _ _ _ from by have:=Aa aT;rw[Aa aw] at this;exact this).none_inv (show An x (tk F)=none by rw[← Aa C];exact Aa z));dsimp only;go_wp2_with fail
     refine (Aa M).mono ?_;rintro r A ⟨rfl,N⟩;have H:=P.trans (N.mono P.size);have I:=Ac B (fun q hq=>N.block q (B.lt q hq).2);have bZ:A.cell? ⟨ak,k * 4+2,none⟩=some (.string F.text):=Aa bF A H;dsimp only;clear B;by_cases K:Ab1 x F
     ·have ap:=Ab (show ∃ J,J < m∧YK T l (3+14 * T.length) w J (.slice (some ⟨g,0,none⟩) st.length V) (.int .i64 ((k:Int)+1)) A by
       rcases Aa bH with ⟨_,J,hm,b0⟩ | h
       ·refine ⟨J,by omega,st,k+1,g,V,rfl,by rw[zU];rfl,I,b0,by have:=Aa aV;omega, ?_,fun y hy=>Aa W y (zS _ hy),H⟩;have:=Aa a0;rw[Aa aw] at this;exact this.pop
       ·exact absurd K h.1)
      rcases Qn (Aa z) with rfl | ⟨s,rfl⟩
      ·have Y:=K.1;have e1:((AB (Km (T.drop k))).toList== [84,69,88,84])=true:=by rw[TC,Aa C];exact zR (by simp[tk,Y,Fe])
       have e2:(F.text.toList== [])=false:=by
        have:=K.2;rw[← Bn F.text,TC];exact zK (fun e=>this (by rw[← Bn F.text,e]))
       clear Y K I;rw[show g0 .scope=⟨#[83,67,79,80,69]⟩ from rfl];go_wp2_with fail
       exact ⟨⟨_,(Aa ap).choose_spec.2⟩,by rw[Aa ar];exact Aa ah _ _ _ _ (Aa ap).choose_spec.1 (Aa ap).choose_spec.2⟩
      ·have aU:((AB (Km (T.drop k))).toList==(g0 (.t s)).toList)=true:=by rw[Aa C,show g0 (.t s)=AB s from rfl,show tk F=s from K];simp
       have e1:((AB (Km (T.drop k))).toList== [])=false:=by rw[TC,Aa C];exact zK (RZ (Aa ao)).1
       have e2:((g0 (.t s)).toList== [83,67,79,80,69])=false:=by rw[show g0 (.t s)=AB s from rfl,TC];exact zK (Us (Aa W _ (zQ ..)))
       clear K I;go_wp2_with fail
       exact ⟨⟨_,(Aa ap).choose_spec.2⟩,by rw[Aa ar];exact Aa ah _ _ _ _ (Aa ap).choose_spec.1 (Aa ap).choose_spec.2⟩
     ·have aq:=Ab (show YJ T l=(k:Int) by
       rcases Aa bH with h | h
       ·exact absurd h.1 K
       ·rw[h.2,← Aa aw];simp[YJ];omega)
      rcases Qn (Aa z) with rfl | ⟨s,rfl⟩
      ·have e3:((AB (Km (T.drop k))).toList== [])=false:=by rw[TC,Aa C];exact zK (RZ (Aa ao)).1
       have e4:((AB (Km (T.drop k))).toList== [83,67,79,80,69])=false:=by rw[TC,Aa C];exact zK (RZ (Aa ao)).2.1
       rw[show g0 .scope=⟨#[83,67,79,80,69]⟩ from rfl];by_cases Y:F.kind=2
       ·have e1:((AB (Km (T.drop k))).toList== [84,69,88,84])=true:=by rw[TC,Aa C];exact zR (by simp[tk,Y,Fe])
        have e2:F.text=⟨#[]⟩:=Classical.byContradiction fun h=>K ⟨Y,h⟩;rw[e2] at bZ;clear Y K I e2;go_wp2_with fail
        go_ret
        exact ⟨by rw[Aa aq];rfl,H⟩
       ·have e1:((AB (Km (T.drop k))).toList== [84,69,88,84])=false:=by rw[TC,Aa C];exact zK (fun h=>Y ((RZ (Aa ao)).2.2 h))
        clear Y K I;go_wp2_with fail
        go_ret
        exact ⟨by rw[Aa aq];rfl,H⟩
      ·have aU:((AB (Km (T.drop k))).toList==(g0 (.t s)).toList)=false:=by rw[Aa C,show g0 (.t s)=AB s from rfl,TC,zZ];exact zK K
       have e1:((AB (Km (T.drop k))).toList== [])=false:=by rw[TC,Aa C];exact zK (RZ (Aa ao)).1
       have e2:((g0 (.t s)).toList== [83,67,79,80,69])=false:=by rw[show g0 (.t s)=AB s from rfl,TC];exact zK (Us (Aa W _ (zQ ..)))
       clear K I;go_wp2_with fail
       go_ret
       exact ⟨by rw[Aa aq];rfl,H⟩
   ·have bN: ¬ ((k:Int) < (T.length:Int)):=by omega
    have aV:=Ab (show k=T.length by omega);have bk:=Ab (show T.drop k= [] by rw[Aa aV,List.drop_length]);have C:=Ab (show Km (T.drop k)= [] by rw[Aa bk];rfl);clear aj;have P:=O;have B:=ai;have M:=Ab (show Calls Tryz.prog 36 #[.string (g0 x),.string ⟨#[]⟩] wr (ExA (An x (Km (T.drop k))) wr) from by rw[Aa C];exact ML x (Aa W x (zQ ..)) [] wr);clear ai;cases E:An x (Km (T.drop k)) with
    |some b=>
     rw[E] at M;have z:=Ab E;clear E;go_wp2_with fail
     refine (Aa M).mono ?_;rintro r A ⟨⟨am,bR,rfl,Z⟩,N⟩;have H:=P.trans (N.mono P.size);have I:=Ac B (fun q hq=>N.block q (B.lt q hq).2);dsimp only;go_wp2_with fail
     obtain ⟨aa,rfl⟩:∃ aa,aa=wr:=⟨_,rfl⟩
     obtain ⟨J,ax,ay⟩:=(Aa aT).exp_inv (Aa z);have az:=Ab (And.intro ax ay);have ab:=Ab ((Aa a0).exp (Aa z));have a5:=Ab (show ∀ y∈b ++st,okY y from fun y hy=>by
      rcases zH.1 hy with h | h
      ·exact YI (Aa z) y h
      ·exact Aa W y (zS _ h))
     have bS:b.length≤70000:=by have:=(Aa ab).len;simp at this;omega
     have a6:=Ab (show b.length+st.length≤70000 by have:=(Aa ab).len;simp at this;omega);have aA:wrap64 ((b.length:Int) - 1)=(b.length:Int) - 1:=by simp[wrap64];omega
     have a7:∃ d,(b.length≠0→am=some ⟨d,0,none⟩)∧d≠g∧(∀ j (f:j < b.length),A.cell? ⟨d,j,none⟩=some (.string (g0 b[j]))):=by
      have bT:g < aa.heap.size:=(B.lt g rfl).2;rcases Z.2 with ⟨_,h0⟩ | ⟨d,cap,bA,X,h1,h2,_⟩
      ·exact ⟨aa.heap.size,fun h=>absurd h0 h,by omega,fun j f=>absurd f (by omega)⟩
      ·simp only[Value.slice.injEq] at X;obtain ⟨aB,_,_⟩:=X;refine ⟨d,fun _=>aB,by omega,fun j f=>?_⟩;subst aB;rw[Z.cellAt j (by omega),zd,zM f];rfl
     obtain ⟨d,aC,a8,aD⟩:=a7;have ac:=Ab (And.intro aC aD);have aE:A.ownsRow w.heap.size 9 1 (.slice (some ⟨g,0,none⟩) (b.drop b.length ++st).length V) (b.drop b.length ++st).length (Of (b.drop b.length ++st)):=by rw[List.drop_length];exact I
     rw[aA];clear aC aD Z ax ay B I aA;go_loopw [3,9] (fun v ad Q=>∃ (p o L:Nat),p≤b.length∧ad= .int .i64 ((p:Int) - 1)∧v= .slice (some ⟨o,0,none⟩) (b.drop p ++st).length L∧Q.ownsRow w.heap.size 9 1 (.slice (some ⟨o,0,none⟩) (b.drop p ++st).length L) (b.drop p ++st).length (Of (b.drop p ++st))∧d≠o∧(∀ j (f:j < b.length),Q.cell? ⟨d,j,none⟩=some (.string (g0 b[j]))∧d < Q.heap.size)∧Below w.heap.size w Q) (fun _ ad _=>(intOf ad+1).toNat)
     case atStart=>exact ⟨b.length,g,V,NLN,rfl,by rw[List.drop_length];rfl,aE,a8,fun j f=>⟨(Aa ac).2 j f,by
       have:=(Aa ac).2 j f;unfold World.cell? at this;by_cases hq:d < A.heap.size
       ·exact hq
       ·rw[Array.getElem?_eq_none (by show A.heap.size≤d;omega)] at this;cases this⟩,H⟩
     case round=>
      obtain ⟨p,o,L,hp,rfl,rfl,R,a9,aF,ae⟩:=hrel;have aG:=Ab aF;clear aE aF;by_cases aH:p=0
      ·subst aH;have af: ¬ ((0 :Int)≤((0 :Nat):Int) - 1):=by omega
       have aI:=Ab (show YK T l (3+14 * T.length) w J (.slice (some ⟨o,0,none⟩) (b ++st).length L) (.int .i64 ((k:Nat):Int)) wr from ⟨b ++st,k,o,L,rfl,rfl,by simpa using R,(Aa az).2,hk,Aa ab,Aa a5,ae⟩);go_wp2_with fail
       rw[zm];exact ⟨⟨J,Aa aI⟩,by rw[Aa ar];exact Aa ah J _ _ _ (by have:=(Aa az).1;omega) (Aa aI)⟩
      ·have af:(0 :Int)≤(p:Int) - 1:=by omega
       obtain ⟨q,rfl⟩:∃ q,p=q+1:=⟨p - 1,by omega⟩
       have hq:q < b.length:=by omega
       obtain ⟨ba,bb⟩:=Aa aG q hq;have bc:=(Aa ac).1 (by omega);have bd:=Ab (zq hq);have bf:(((q+1 :Nat):Int) - 1)=(q:Int):=by omega
       have bU:(q:Int) < (b.length:Int):=by omega
       have bV:wrap64 ((q:Int) - 1)=(q:Int) - 1:=by simp[wrap64];omega
       subst bc;have aJ:=R.alloc (.cells #[.string (g0 b[q])] 9);have bg:=Ab (show (b.drop (q+1) ++st).length≤70000 by have:=Aa a6;simp;omega);have bW:=Aa bg;have bh:=ae.size;generalize aK:b.drop (q+1) ++st=aL at *;have bi:=Ab aK;generalize aM:b[q]=ag at *;have bX:=Ab aM;clear aK aM aH af;rw[bf];have af:(0 :Int)≤(q:Int):=by omega
       go_wp2_with (at_builtin;refine wpList_append_lies _ rfl _ _ 47 rfl w.heap.size 9 i (.string ByteArray.empty) 1 16 Tryz.underlying47 hi bo bp bq rfl (by decide) _ _ _ rfl aJ ⟨wr.heap.size,0,none⟩ 1 1 [.string (g0 ag)] rfl rfl (cell_one_new wr _ _) ?d2 (by decide) ?d3 ?d4 ?d5 (wr.heap.size+1) (by simp) ?_)
       case d2=>rfl
       case d3=>unfold maxLen;omega
       case d4=>omega
       case d5=>omega
       intro gk aN S aO U aP bY;have aQ:=(ae.alloc bh (.cells #[.string (g0 ag)] 9)).grown U (by simp;omega) (fun q hq=>(R.lt q hq).1);have aR:∃ (p g2 c2:Nat),p≤b.length∧Value.int .i64 ((q:Int) - 1)= .int .i64 ((p:Int) - 1)∧Value.slice (some ⟨gk,0,none⟩) (aL.length+1) aN= .slice (some ⟨g2,0,none⟩) (b.drop p ++st).length c2∧S.ownsRow w.heap.size 9 1 (.slice (some ⟨g2,0,none⟩) (b.drop p ++st).length c2) (b.drop p ++st).length (Of (b.drop p ++st))∧d≠g2∧(∀ j (f:j < b.length),S.cell? ⟨d,j,none⟩=some (.string (g0 b[j]))∧d < S.heap.size)∧Below w.heap.size w S:=by
        have e:b.drop q ++st=ag ::aL:=by rw[Aa bd,← Aa bi];rfl
        refine ⟨q,gk,aN,by omega,rfl,by rw[e];rfl, ?_, ?_,fun j f=>⟨?_, ?_⟩,aQ⟩
        ·rw[e,MM,List.length_cons];exact aO
        ·rcases aP with h | h
         ·have:o=gk:=by simpa[Value.ownBlock] using h
          omega
         ·omega
        ·have hx:=U.block d (by simp;omega) (fun h=>a9 (by simpa[Value.ownBlock] using h));have hy:=hx.trans (Below.heap_alloc wr _ d bb);have aS:=(Aa aG j f).1;unfold World.cell? at aS ⊢;rw[hy];exact aS
        ·have:=U.size;simp at this;omega
       have bj:=Ab aR;clear aR aO U aP R aJ aQ ba;go_wp2_with fail
       go_roundw
       case rel=>exact Aa bj
       case measure=>simp[intOf]
    |none=>
     rw[E] at M;have z:=Ab E;clear E;have aq:=Ab (show YJ T l=(k:Int) by
      have h:=Aa aT;rw[Aa bk] at h;rw[h.nil_inv (by have:=Aa z;rw[Aa bk] at this;exact this)];have:=Aa aV;simp[YJ];omega)
     go_wp2_with fail
     refine (Aa M).mono ?_;rintro r A ⟨rfl,N⟩;have H:=P.trans (N.mono P.size);dsimp only;clear B;rcases Qn (Aa z) with rfl | ⟨s,rfl⟩
     ·rw[show g0 .scope=⟨#[83,67,79,80,69]⟩ from rfl];go_wp2_with fail
      go_ret
      exact ⟨by rw[Aa aq];rfl,H⟩
     ·have e2:((g0 (.t s)).toList== [83,67,79,80,69])=false:=by rw[show g0 (.t s)=AB s from rfl,TC];exact zK (Us (Aa W _ (zQ ..)))
      go_wp2_with fail
      go_ret
      exact ⟨by rw[Aa aq];rfl,H⟩
set_option maxHeartbeats 1600000
structure Ls (w:World) (nb ga c:Nat) (T:List Ae):Prop where
 at0:w.cell? ⟨nb,0,none⟩=some (.slice (some ⟨ga,0,none⟩) T.length c)
 cells:∀ j u,(EN T)[j]? =some u→w.cell? ⟨ga,j,none⟩=some u
 lt:nb < w.heap.size∧ga < w.heap.size
theorem Ls.below {w w':World}{a b c:Nat}{T:List Ae}(h:Ls w a b c T)(d:Below w.heap.size w w'):Ls w' a b c T:=
 ⟨(d.cell (p:=⟨a,0,none⟩) h.lt.1).trans h.at0,fun j u hu=>(d.cell (p:=⟨b,j,none⟩) h.lt.2).trans (h.cells j u hu),by have:=d.size;have:=h.lt;omega⟩
theorem Ls.at4 {w:World}{b a c:Nat}{T:List Ae}(h:Ls w b a c T)(i:Nat)(hi:i < T.length):w.cell? ⟨a,i * 4,none⟩=some (.int .i64 T[i].kind)∧w.cell? ⟨a,i * 4+1,none⟩=some (.int .i64 T[i].num)∧w.cell? ⟨a,i * 4+2,none⟩=some (.string T[i].text)∧w.cell? ⟨a,i * 4+3,none⟩=some (.int .i64 (T[i].at_:Int)):=by
 obtain ⟨d,e1,e2,e3⟩:=Im T i hi;exact ⟨h.cells _ _ d,h.cells _ _ e1,h.cells _ _ e2,h.cells _ _ e3⟩
theorem eqB (t:ByteArray)(u:List UInt8):(t.toList==(AB u).toList)=decide (t=AB u):=by
 have h:=TC (Aj t) (AB u).toList;rw[Bn] at h;rw[h];by_cases e:t=AB u
 ·rw[zR e,e];simp[ByteArray.toList_eq];rfl
 ·rw[zK e,zK];intro h2;apply e;rw[← Bn t,h2,zZ];rfl
theorem G6 {w:World}{f j c:Nat}{T:List Ae}(h:Ls w f j c T)(i:Nat)(hi:i < T.length)(s:List UInt8)(a:ByteArray)(hs:a=AB s):
  Calls Tryz.prog 13 #[.pointer (some ⟨f,0,none⟩),.int .i64 (i:Int),.string a] w fun r w'=>r= .returned (.bool (see s T[i]))∧Below w.heap.size w w':=by
 obtain ⟨k,g,q2,q3⟩:=h.at4 i hi;have l:=h.at0;have m:(i:Int) < (T.length:Int):=by omega
 have d:=Ab (show see s T[i]=((T[i].kind== 4 || T[i].kind== 5) && (T[i].text.toList== a.toList)) by rw[hs,eqB];simp[see];grind);generalize see s T[i]=b at d ⊢;generalize T[i]=t at k g q2 q3 d;clear h hs hi g q3;cases h4:(t.kind== 4) <;> cases h5:(t.kind== 5) <;> cases hx:(t.text.toList== a.toList) <;> rw[h4,h5,hx] at d
 all_goals
  go_enter Tryz.func13,Tryz.ntmps13
  go_wp2_with fail
  go_ret
  exact ⟨by rw[Aa d];rfl,BRN⟩
theorem YN {w:World}{l o c:Nat}{T:List Ae}(h:Ls w l o c T)(i:Nat)(hi:i < T.length):
  Calls Tryz.prog 117 #[.pointer (some ⟨l,0,none⟩),.int .i64 (i:Int)] w fun r w'=>r= .returned (.bool (EM T[i]))∧Below w.heap.size w w':=by
 obtain ⟨p,m,q2,q3⟩:=h.at4 i hi;have A:=h.at0;have B:(i:Int) < (T.length:Int):=by omega
 have f:=Ab (fun (w':World) (q:Below w.heap.size w w') (s:List UInt8)=>G6 (h.below q) i hi s (AB s) rfl);have a:=Ab (show EM T[i]=((T[i].kind != 4 && T[i].kind != 5) || see AS T[i] || see Bp T[i] || see BS T[i] || see Bl T[i]) by
  rw[EM,show (T[i].kind != 4)= !decide (T[i].kind=4) from by rw[bne];congr 1,show (T[i].kind != 5)= !decide (T[i].kind=5) from by rw[bne];congr 1])
 generalize EM T[i]=b at a ⊢;generalize T[i]=t at p m q2 q3 a f;have n:=Below.refl w.heap.size w;clear h hi m q3 q2;cases h4:(t.kind != 4) <;> cases h5:(t.kind != 5) <;> rw[h4,h5] at a
 case true.true=>
  go_enter Tryz.func117,Tryz.ntmps117
  go_wp2_with fail
  go_ret
  exact ⟨by rw[Aa a];rfl,BRN⟩
 all_goals
  go_enter Tryz.func117,Tryz.ntmps117
  go_wp2_with fail
  refine (Aa f _ n AS).mono ?_;rintro r C ⟨rfl,u⟩;have g:=n.trans u;dsimp only;generalize see AS t=d at a ⊢;cases d
  case true=>
   go_wp2_with fail
   go_ret
   exact ⟨by rw[Aa a];rfl,g⟩
  go_wp2_with fail
  refine (Aa f _ g Bp).mono ?_;rintro r E ⟨rfl,v⟩;have j:=g.trans (v.mono g.size);dsimp only;generalize see Bp t=d at a ⊢;cases d
  case true=>
   go_wp2_with fail
   go_ret
   exact ⟨by rw[Aa a];rfl,j⟩
  go_wp2_with fail
  refine (Aa f _ j BS).mono ?_;rintro r F ⟨rfl,x⟩;have k:=j.trans (x.mono j.size);dsimp only;generalize see BS t=d at a ⊢;cases d
  case true=>
   go_wp2_with fail
   go_ret
   exact ⟨by rw[Aa a];rfl,k⟩
  go_wp2_with fail
  refine (Aa f _ k Bl).mono ?_;rintro r H ⟨rfl,y⟩;have z:=k.trans (y.mono k.size);dsimp only;generalize see Bl t=d at a ⊢;cases d
  all_goals
   go_wp2_with fail
   go_ret
   exact ⟨by rw[Aa a];rfl,z⟩
set_option maxHeartbeats 6400000
def MaI (T:List Ae) (wd:List UInt8) (lo:Nat) (R:Int) (w:World) (vo vd vi:Value) (wr:World):Prop:=
 ∃ (k:Nat) (o d:Int),lo≤k∧k≤T.length∧vo= .int .i64 o∧vd= .int .i64 d∧vi= .int .i64 (k:Int)∧-(k:Int)≤d∧d≤k∧1 - (k:Int)≤o∧o≤k+1∧Ci wd (T.drop k) o d k=R∧Below w.heap.size w wr
theorem MN {w:World}{U aa c:Nat}{T:List Ae}(h:Ls w U aa c T)(hl:T.length≤4000)(lo:Nat)(ab:lo≤T.length)(f:List UInt8)(V:ByteArray)(ac:V=AB f):
  Calls Tryz.prog 78 #[.pointer (some ⟨U,0,none⟩),.int .i64 (lo:Int),.string V] w fun r w'=>r= .returned (.int .i64 (Ci f (T.drop lo) 1 0 lo))∧Below w.heap.size w w':=by
 have ad:=Ab (fun (w':World) (j:Below w.heap.size w w') (i:Nat) (hi:i < T.length) (s:List UInt8)=>G6 (h.below j) i hi s (AB s) rfl);have ae:=Ab (fun (w':World) (j:Below w.heap.size w w')=>(h.below j).at0);have O:=Ab (show MaI T f lo (Ci f (T.drop lo) 1 0 lo) w (.int .i64 1) (.int .i64 0) (.int .i64 (lo:Int)) w from ⟨lo,1,0,NLN,ab,rfl,rfl,rfl,by omega,by omega,by omega,by omega,rfl,BRN⟩);generalize Ci f (T.drop lo) 1 0 lo=R at O ⊢;subst ac;clear h;go_enter Tryz.func78,Tryz.ntmps78
 go_wp2_with fail
 go_loopw [7,8,9] (fun af ag P wr=>MaI T f lo R w af ag P wr) (fun _ _ P _=>T.length - (intOf P).toNat)
 case atStart=>exact Aa O
 case round=>
  clear O;obtain ⟨k,b,d,h1,h2,rfl,rfl,rfl,h3,h4,h5,h6,I,B⟩:=hrel;have av:=Aa ae wr B;by_cases hk:k < T.length
  ·have ah:(k:Int) < (T.length:Int):=by omega
   have g:=Ab (zq hk);have l:=Ab I;have aw:=Ab (And.intro h1 (And.intro h3 (And.intro h4 (And.intro h5 h6))));have ax:wrap64 ((k:Int)+1)=(k:Int)+1:=by simp[wrap64];omega
   have m:wrap64 (d+1)=d+1:=by simp[wrap64];omega
   have n:wrap64 (d - 1)=d - 1:=by simp[wrap64];omega
   have o:wrap64 (b+1)=b+1:=by simp[wrap64];omega
   have p:wrap64 (b - 1)=b - 1:=by simp[wrap64];omega
   have C:=Ab (fun (w':World) (j:Below w.heap.size w w') (s:List UInt8)=>Aa ad w' j k hk s);have q:=Ab (fun (u v:Int) (w':World) (j:Below w.heap.size w w') (hm:Ci f (T.drop (k+1)) u v ((k:Int)+1)=R) (e1:v=d∨v=d+1∨v=d - 1) (e2:u=b∨u=b+1∨u=b - 1)=>show MaI T f lo R w (.int .i64 u) (.int .i64 v) (.int .i64 ((k:Int)+1)) w' from ⟨k+1,u,v,by omega,by omega,rfl,rfl,by rw[zU];rfl,by omega,by omega,by omega,by omega,by rw[zU];exact hm,j⟩);have x:Hid (T.length - ((k:Int)+1).toNat < T.length - (k:Int).toNat):=Ab (by omega);generalize T[k]=t at g C;clear I h1 h2 h3 h4 h5 h6 hk;go_wp2_with fail
   refine (Aa C _ B AH).mono ?_;rintro r ai ⟨rfl,aj⟩;have J:=B.trans (aj.mono B.size);dsimp only;cases K:see AH t
   case true=>
    have a:=Ab (Aa q b (d+1) ai J (by rw[← Aa l,Aa g,Mz K]) (by omega) (by omega));clear K;go_wp2_with fail
    exact ⟨by first | exact Aa a | (rw[m];exact Aa a) | (rw[n];exact Aa a) | (rw[o];exact Aa a) | (rw[p];exact Aa a),Aa x⟩
   have ak:=Ab K;clear K;go_wp2_with fail
   refine (Aa C _ J AS).mono ?_;rintro r W ⟨rfl,al⟩;have E:=J.trans (al.mono J.size);dsimp only;cases L:see AS t
   case true=>
    have a:=Ab (Aa q b (d - 1) W E (by rw[← Aa l,Aa g,Kw L]) (by omega) (by omega));clear L;go_wp2_with fail
    exact ⟨by first | exact Aa a | (rw[m];exact Aa a) | (rw[n];exact Aa a) | (rw[o];exact Aa a) | (rw[p];exact Aa a),Aa x⟩
   have ao:=Ab L;clear L;have F:=Ab (show Ci f (t ::T.drop (k+1)) b d k=if d=0∧see DO t=true then Ci f (T.drop (k+1)) (b+1) d (k+1) else if d=0∧see f t=true then (if b - 1=0 then (k:Int) else Ci f (T.drop (k+1)) (b - 1) d (k+1)) else Ci f (T.drop (k+1)) b d (k+1) by
    rw[Ci,Aa ak,Aa ao,if_neg (by decide),if_neg (by decide)])
   cases X:(d== 0)
   ·have y: ¬ d=0:=by simpa using X
    have a:=Ab (Aa q b d W E (by rw[← Aa l,Aa g,Aa F,if_neg (fun e=>y e.1),if_neg (fun e=>y e.1)]) (by omega) (by omega));clear y;go_wp2_with fail
    exact ⟨by first | exact Aa a | (rw[m];exact Aa a) | (rw[n];exact Aa a) | (rw[o];exact Aa a) | (rw[p];exact Aa a),Aa x⟩
   have y:d=0:=by simpa using X
   have Q:=Ab y;clear y;go_wp2_with fail
   refine (Aa C _ E DO).mono ?_;rintro r ap ⟨rfl,aq⟩;have M:=E.trans (aq.mono E.size);dsimp only;cases N:see DO t
   case true=>
    have a:=Ab (Aa q (b+1) d ap M (by rw[← Aa l,Aa g,Aa F,if_pos ⟨Aa Q,N⟩]) (by omega) (by omega));clear N;go_wp2_with fail
    exact ⟨by first | exact Aa a | (rw[m];exact Aa a) | (rw[n];exact Aa a) | (rw[o];exact Aa a) | (rw[p];exact Aa a),Aa x⟩
   have ar:=Ab N;clear N;go_wp2_with fail
   refine (Aa C _ M f).mono ?_;rintro r Y ⟨rfl,au⟩;have S:=M.trans (au.mono M.size);dsimp only;have z: ¬ (d=0∧see DO t=true):=fun e=>by rw[Aa ar] at e;cases e.2
   cases A:see f t
   case false=>
    have a:=Ab (Aa q b d Y S (by rw[← Aa l,Aa g,Aa F,if_neg z,if_neg (fun e=>by rw[A] at e;cases e.2)]) (by omega) (by omega));clear A z;go_wp2_with fail
    exact ⟨by first | exact Aa a | (rw[m];exact Aa a) | (rw[n];exact Aa a) | (rw[o];exact Aa a) | (rw[p];exact Aa a),Aa x⟩
   cases Z:(b - 1== 0)
   ·have H: ¬ b - 1=0:=by simpa using Z
    have a:=Ab (Aa q (b - 1) d Y S (by rw[← Aa l,Aa g,Aa F,if_neg z,if_pos ⟨Aa Q,A⟩,if_neg H]) (by omega) (by omega));clear A z H;go_wp2_with fail
    exact ⟨by first | exact Aa a | (rw[m];exact Aa a) | (rw[n];exact Aa a) | (rw[o];exact Aa a) | (rw[p];exact Aa a),Aa x⟩
   ·have H:b - 1=0:=by simpa using Z
    have a:=Ab (show R=(k:Int) by rw[← Aa l,Aa g,Aa F,if_neg z,if_pos ⟨Aa Q,A⟩,if_pos H]);clear A z H;go_wp2_with fail
    go_ret
    exact ⟨by rw[Aa a];rfl,S⟩
  ·have ah: ¬ ((k:Int) < (T.length:Int)):=by omega
   have a:=Ab (show R=(T.length:Int) by rw[← I,List.drop_eq_nil_of_le (by omega),Ci];omega);clear I hk;go_wp2_with fail
   go_ret
   exact ⟨by rw[Aa a];rfl,B⟩
set_option maxHeartbeats 12800000
def LaI (T:List Ae) (of:List (List UInt8)) (lo hi:Nat) (R:Int) (w:World) (va vd vi:Value) (wr:World):Prop:=
 ∃ (k:Nat) (pe:Bool) (d acc:Int),lo≤k∧k≤hi∧va= .int .i64 acc∧vd= .int .i64 d∧vi= .int .i64 (k:Int)∧-(k:Int)≤d∧d≤k∧(k=lo→pe=false)∧(∀ j (hj:j < T.length),k=j+1→lo < k→pe=EM T[j])∧(((T.take hi).drop k).foldl (CL of) ⟨pe,d,k,acc⟩).acc=R∧Below w.heap.size w wr
theorem YO (x:List UInt8)(of:List (List UInt8))(t:Ae)(k acc:Int):(if (x ::of).any (fun y=>see y t) then k else acc)=(if of.any (fun y=>see y t) then k else if see x t then k else acc):=by
 rw[List.any_cons];cases see x t <;> cases of.any (fun y=>see y t) <;> rfl
def LaJ (of:List (List UInt8)) (t:Ae) (k A:Int) (n:Nat) (w:World) (va vp:Value) (wi:World):Prop:=
 ∃ (p:Nat) (av:Int),p≤n∧vp= .int .i64 (p:Int)∧va= .int .i64 av∧(if (of.drop p).any (fun x=>see x t) then k else av)=A∧Below w.heap.size w wi
theorem laj {of:List (List UInt8)}{t:Ae}{k b c:Int}{n p:Nat}{w:World}(h:p < n){x:List UInt8}(d:of.drop p=x ::of.drop (p+1))(f:(if (of.drop p).any (fun x=>see x t) then k else c)=b)(a:Int)(w':World)(g:Below w.heap.size w w')(e:a=if see x t then k else c):LaJ of t k b n w (.int .i64 a) (.int .i64 ((p:Int)+1)) w':=by
 refine ⟨p+1,a,by omega,by rw[zU];rfl,rfl, ?_,g⟩;rw[← f,d,YO,e]
theorem AaC {b:Bool}(h:b=false): ¬ b=true:=by rw[h];decide
theorem lak {of:List (List UInt8)}{t:Ae}{k a b:Int}{n p:Nat}(hl:of.length=n)(hp: ¬ p < n)(c:(if (of.drop p).any (fun x=>see x t) then k else b)=a):a=b:=by
 rw[List.drop_eq_nil_of_le (by omega)] at c;exact c.symm
theorem FJ (n p:Nat)(h:p < n):n - ((p:Int)+1).toNat < n - (p:Int).toNat:=by omega
theorem WP {w:World}{av aM c:Nat}{T:List Ae}(h:Ls w av aM c T)(hl:T.length≤4000)(lo hi:Nat)(aN:lo≤hi)(bc:hi≤T.length)(W X n aw:Nat)(of:List (List UInt8))(F:BL w (some ⟨W,X,none⟩) n aw (of.map AB)):
  Calls Tryz.prog 80 #[.pointer (some ⟨av,0,none⟩),.int .i64 (lo:Int),.int .i64 (hi:Int),.slice (some ⟨W,X,none⟩) n aw] w fun r w'=>r= .returned (.int .i64 (((T.take hi).drop lo).foldl (CL of) ⟨false,0,lo,-1⟩).acc)∧Below w.heap.size w w':=by
 have ax:=Ab (fun (w':World) (a:Below w.heap.size w w') (i:Nat) (hi:i < T.length) (s:List UInt8) (H:ByteArray) (hs:H=AB s)=>G6 (h.below a) i hi s H hs);have aO:=Ab (fun (w':World) (a:Below w.heap.size w w') (i:Nat) (hi:i < T.length)=>YN (h.below a) i hi);have aP:=Ab (fun (w':World) (a:Below w.heap.size w w') (p:Nat) (hp:p < n) (I:p < of.length)=>show w'.cell? ⟨W,X+p,none⟩=some (.string (AB of[p])) from by
  obtain ⟨b,bd,e,_,hc⟩:=(F.below a NLN).cells p hp;injection e with e;injection e with e1 e2;subst e1 e2;rw[hc,Cw _ _ (by simpa using I)];simp)
 have Y:=Ab (show LaI T of lo hi (((T.take hi).drop lo).foldl (CL of) ⟨false,0,lo,-1⟩).acc w (.int .i64 (-1)) (.int .i64 0) (.int .i64 (lo:Int)) w from ⟨lo,false,0,-1,NLN,aN,rfl,rfl,rfl,by omega,by omega,fun _=>rfl,fun j aQ h1 h2=>by omega,rfl,BRN⟩);generalize (((T.take hi).drop lo).foldl (CL of) ⟨false,0,lo,-1⟩).acc=R at Y ⊢;have bf:n≤9223372036854775807:=by have:=F.cap;have:=F.small;unfold maxLen at this;omega
 have ay:=Ab (show of.length=n by have:=F.len;simp at this;omega);clear h F;go_enter Tryz.func80,Tryz.ntmps80
 go_wp2_with fail
 go_loopw [9,10,11] (fun Z aR aa wr=>LaI T of lo hi R w Z aR aa wr) (fun _ _ aa _=>hi - (intOf aa).toNat)
 case atStart=>exact Aa Y
 case round=>
  clear Y;obtain ⟨k,pe,d,acc,h1,h2,rfl,rfl,rfl,h3,h4,ab,ac,M,N⟩:=hrel;by_cases hk:k < hi
  ·have aS:(k:Int) < (hi:Int):=by omega
   have O:k < T.length:=by omega
   have az:=Ab (show (T.take hi).drop k=T[k] ::(T.take hi).drop (k+1) by rw[zq (by simp;omega)];simp);have y:wrap64 (d+1)=d+1:=by simp[wrap64];omega
   have P:wrap64 (d - 1)=d - 1:=by simp[wrap64];omega
   have m:=Ab (fun (w':World) (a:Below w.heap.size w w') (s:List UInt8)=>Aa ax w' a k O s (AB s) rfl);have aA:=Ab (fun (w':World) (a:Below w.heap.size w w') (s:List UInt8) (H:ByteArray) (hs:H=AB s)=>Aa ax w' a k O s H hs);have aT:=Ab ab;have aU:=Ab ac;have z:=Ab (fun (u A:Int) (w':World) (a:Below w.heap.size w w') (e1:dL d T[k]=u) (e2:(if u > 0∨pe=false then acc else if of.any (fun x=>see x T[k]) then (k:Int) else acc)=A) (e3:u=d∨u=d+1∨u=d - 1)=>show LaI T of lo hi R w (.int .i64 A) (.int .i64 u) (.int .i64 ((k:Int)+1)) w' from ⟨k+1,EM T[k],u,A,by omega,by omega,rfl,rfl,by rw[zU];rfl,by omega,by omega,fun h=>by omega,fun j aQ h5 h6=>by
     have e:k=j:=by omega
     subst e;rfl,by
     rw[← M,Aa az,List.foldl_cons,CL,zU];dsimp only;rw[e1,e2];rfl,a⟩)
   have Q:Hid (hi - ((k:Int)+1).toNat < hi - (k:Int).toNat):=Ab (by omega);have ad:=Ab (And.intro h1 (And.intro h2 (And.intro hk O)));generalize T[k]=t at m aA z;clear M h3 h4 ab ac az h1 h2 hk O;go_wp2_with fail
   refine (Aa m _ N AH).mono ?_;rintro r bg ⟨rfl,aV⟩;have B:=N.trans (aV.mono N.size);dsimp only;cases C:see AH t
   case' true=>
    have ae:=Ag C (s':=AS) (by decide);have af:=Ag C (s':=Bp) (by decide);have g:=Ab (FF (.inl C) d);clear C;go_wp2_with fail
    rw[y];refine (Aa m _ B AS).mono ?_;rintro r aW ⟨rfl,ag⟩;have l:=B.trans (ag.mono B.size);dsimp only;rw[ae];go_wp2_with fail
    refine (Aa m _ l Bp).mono ?_;rintro r aB ⟨rfl,J⟩;have o:=l.trans (J.mono l.size);dsimp only;rw[af]
   case' false=>
    have aX:=Ab C;clear C;go_wp2_with fail
    refine (Aa m _ B Ch).mono ?_;rintro r aW ⟨rfl,ag⟩;have l:=B.trans (ag.mono B.size);dsimp only;cases E:see Ch t
    case' true=>
     have ae:=Ag E (s':=AS) (by decide);have af:=Ag E (s':=Bp) (by decide);have g:=Ab (FF (.inr E) d);clear E;go_wp2_with fail
     rw[y];refine (Aa m _ l AS).mono ?_;rintro r aB ⟨rfl,ah⟩;have q:=l.trans (ah.mono l.size);dsimp only;rw[ae];go_wp2_with fail
     refine (Aa m _ q Bp).mono ?_;rintro r aY ⟨rfl,J⟩;have o:=q.trans (J.mono q.size);dsimp only;rw[af]
    case' false=>
     have aZ:=Ab E;clear E;go_wp2_with fail
     refine (Aa m _ l AS).mono ?_;rintro r aB ⟨rfl,ah⟩;have q:=l.trans (ah.mono l.size);dsimp only;cases S:see AS t
     case' true=>
      have g:=Ab (Ey (.inl S) d);have o:=q;clear S
     case' false=>
      have a0:=Ab S;clear S;go_wp2_with fail
      refine (Aa m _ q Bp).mono ?_;rintro r aY ⟨rfl,J⟩;have o:=q.trans (J.mono q.size);dsimp only;cases ai:see Bp t
      case' true=>have g:=Ab (Ey (.inr ai) d)
      case' false=>have g:=Ab (show dL d t=d by simp[dL,PT,Ro,Aa aX,Aa aZ,Aa a0,ai])
      all_goals clear ai
   all_goals
    by_cases aj:(0 :Int) < dL d t <;> rw[Aa g] at aj
    ·have f:=Ab (Aa z _ acc _ o (Aa g) (by rw[if_pos (.inl aj)]) (by omega));go_wp2_with fail
     exact ⟨by first | exact Aa f | (rw[y];exact Aa f) | (rw[P];exact Aa f),Aa Q⟩
    by_cases U:k=lo
    ·have f:=Ab (Aa z _ acc _ o (Aa g) (by rw[if_pos (.inr (Aa aT U))]) (by omega));have a1:((k:Int)==(lo:Int))=true:=by rw[U];simp
     clear U;go_wp2_with fail
     exact ⟨by first | exact Aa f | (rw[y];exact Aa f) | (rw[P];exact Aa f),Aa Q⟩
    have a1:((k:Int)==(lo:Int))=false:=by
     rw[zA];omega
    obtain ⟨v,ak⟩:∃ v,k=v+1:=⟨k - 1,by have:=(Aa ad).1;omega⟩
    have bh:=Ab ak;have a2:=Ab (show (k:Int) - 1=(v:Int) by omega);have aC:v < T.length:=by have:=(Aa ad).2.2.2;omega
    have al:=Ab (Aa aU v aC ak (by have:=(Aa ad).1;omega));have ao:=Ab (fun (w':World) (a:Below w.heap.size w w')=>Aa aO w' a v aC);generalize EM T[v]=a3 at al ao;clear ak U;go_wp2_with fail
    rw[Aa a2];refine (Aa ao _ o).mono ?_;rintro r a4 ⟨rfl,a5⟩;have aD:=o.trans (a5.mono o.size);dsimp only;cases a3
    ·have f:=Ab (Aa z _ acc a4 aD (Aa g) (by rw[if_pos (.inr (Aa al))]) (by omega));go_wp2_with fail
     exact ⟨by first | exact Aa f | (rw[y];exact Aa f) | (rw[P];exact Aa f),Aa Q⟩
    have aE:=Ab (fun (A:Int) (w':World) (a:Below w.heap.size w w') (e:(if of.any (fun x=>see x t) then (k:Int) else acc)=A)=>Aa z _ A w' a (Aa g) (by rw[if_neg (by rintro (h | h);omega;rw[Aa al] at h;cases h)];exact e) (by omega));clear z;have ap:=Ab (show (if (of.drop 0).any (fun x=>see x t) then (k:Int) else acc)=(if of.any (fun x=>see x t) then (k:Int) else acc) from rfl);generalize (if of.any (fun x=>see x t) then (k:Int) else acc)=a6 at aE ap;clear aj g ao y P;go_wp2_with fail
    go_loopw [9,13,56] (fun Z _ aq a7=>LaJ of t (k:Int) a6 n w Z aq a7) (fun _ _ aq _=>n - (intOf aq).toNat)
    case atStart=>exact ⟨0,acc,zN _,rfl,rfl,Aa ap,aD⟩
    case round=>
     clear ap;obtain ⟨p,aF,hp,rfl,rfl,aG,K⟩:=hrel;have aH:=Ab aG;clear aG;by_cases L:p < n
     ·have a8:(p:Int) < (n:Int):=by omega
      have I:p < of.length:=by have:=Aa ay;omega
      have ar:=zq I;have hc:=Aa aP wr K p L I;obtain ⟨x,hx⟩:∃ x,x=of[p]:=⟨_,rfl⟩
      rw[← hx] at hc ar;have a9:=Ab ar;clear hx ar;have aI:=Ab (FJ n p L);have aJ:=Ab (fun (ba:Int) (w':World) (a:Below w.heap.size w w')=>laj (w:=w) L (Aa a9) (Aa aH) ba w' a);clear I;go_wp2_with fail
      refine (Aa aA _ K x _ rfl).mono ?_;rintro r aK ⟨rfl,bb⟩;have aL:=K.trans (bb.mono K.size);dsimp only;cases V:see x t
      ·have au:=Ab (Aa aJ aF aK aL (if_neg (AaC V)).symm);clear V;go_wp2_with fail
       exact ⟨Aa au,Aa aI⟩
      ·have au:=Ab (Aa aJ k aK aL (if_pos V).symm);clear V;go_wp2_with fail
       exact ⟨Aa au,Aa aI⟩
     ·have a8: ¬ ((p:Int) < (n:Int)):=by omega
      have f:=Ab (Aa aE aF _ K (lak (Aa ay) L (Aa aH)));clear L;go_wp2_with fail
      exact ⟨Aa f,Aa Q⟩
  ·have aS: ¬ ((k:Int) < (hi:Int)):=by omega
   have f:=Ab (show R=acc by rw[← M,List.drop_eq_nil_of_le (by simp;omega)];rfl);clear M hk ab ac;go_wp2_with fail
   go_ret
   exact ⟨by rw[Aa f];rfl,N⟩
set_option maxHeartbeats 6400000
def ScI (T:List Ae) (lo:Nat) (R:List ByteArray) (w:World) (vo vi:Value) (wr:World):Prop:=
 ∃ (k:Nat) (acc:List ByteArray) (x:Option Addr) (cx:Nat),lo < k∧k≤T.length∧vo= .slice x acc.length cx∧vi= .int .i64 (k:Int)∧acc.length≤k∧wr.ownsRow w.heap.size 9 1 (.slice x acc.length cx) acc.length (acc.map Value.string)∧acc ++Kx (T.drop k)=R∧Below w.heap.size w wr
theorem Lt {w:World}{K X c:Nat}{T:List Ae}(h:Ls w K X c T)(hl:T.length≤4000)(lo:Nat)(ap:lo < T.length):
  Calls Tryz.prog 15 #[.pointer (some ⟨K,0,none⟩),.int .i64 (lo:Int)] w fun r w'=>(∃ x g,r= .returned (.slice x (Kx (T.drop (lo+1))).length g)∧w'.ownsRow w.heap.size 9 1 (.slice x (Kx (T.drop (lo+1))).length g) (Kx (T.drop (lo+1))).length ((Kx (T.drop (lo+1))).map Value.string))∧Below w.heap.size w w':=by
 obtain ⟨i,hi,Y,Z,aa⟩:=info_parts Mf;have ab:=Ab (fun (w':World) (b:Below w.heap.size w w') (i:Nat) (hi:i < T.length) (s:List UInt8)=>G6 (h.below b) i hi s (AB s) rfl);have o:=Ab (fun (w':World) (b:Below w.heap.size w w')=>h.below b);have z:=Ab (show ScI T lo (Kx (T.drop (lo+1))) w (.slice none 0 0) (.int .i64 ((lo:Int)+1)) w from ⟨lo+1, [],none,0,by omega,by omega,rfl,by rw[zU];rfl,by simp,World.ownsRow_nil _ _ _ _,rfl,BRN⟩);generalize Kx (T.drop (lo+1))=R at z ⊢;clear h;go_enter Tryz.func15,Tryz.ntmps15
 go_wp2_with fail
 go_loopw [5,6] (fun ac A wr=>ScI T lo R w ac A wr) (fun _ A _=>T.length - (intOf A).toNat)
 case atStart=>exact Aa z
 case round=>
  clear z;obtain ⟨k,acc,x,g,h1,h2,rfl,rfl,h3,p,v,j⟩:=hrel;have ad:=(Aa o wr j).at0;by_cases hk:k < T.length
  ·have ae:(k:Int) < (T.length:Int):=by omega
   obtain ⟨B,C,q2,q3⟩:=(Aa o wr j).at4 k hk;have L:=Ab (fun (w':World) (b:Below w.heap.size w w')=>(Aa o w' b).at4 k hk);have E:=zq hk;have M:=Ab (fun (w':World) (b:Below w.heap.size w w') (s:List UInt8)=>Aa ab w' b k hk s);generalize T[k]=t at E M L B C q2 q3;have F:=Ab E;have H:=Ab v;have N:=Ab (FJ T.length k hk);have O:=Ab (fun (d:List ByteArray) (I:Option Addr) (J:Nat) (w':World) (b:Below w.heap.size w w') (e:d ++Kx (T.drop (k+1))=R) (af:d.length≤k+1) (ag:w'.ownsRow w.heap.size 9 1 (.slice I d.length J) d.length (d.map Value.string))=>show ScI T lo R w (.slice I d.length J) (.int .i64 ((k:Int)+1)) w' from ⟨k+1,d,I,J,by omega,by omega,rfl,by rw[zU];rfl,af,ag,e,b⟩);clear E v hk C q2 q3 B;go_wp2_with fail
   refine (Aa M _ j Bp).mono ?_;rintro r f ⟨rfl,P⟩;have l:=j.trans (P.mono j.size);have n:=Ac (w':=f) p (fun q hq=>P.block q (p.lt q hq).2);obtain ⟨B,C,q2,q3⟩:=Aa L f l;have a1:=(Aa o f l).at0;dsimp only;clear p ad;cases y:see Bp t
   ·have Q:=Ab y;clear y;by_cases m:t.kind=2
    ·have e2:(t.kind== 2)=true:=by rw[m];rfl
     have ah:=Ab m;have S:=n.alloc (.cells #[.string t.text] 9);have ai:=l.size;clear m;go_wp2_with (at_builtin;refine wpList_append_lies _ rfl _ _ 47 rfl w.heap.size 9 i (.string ByteArray.empty) 1 16 Tryz.underlying47 hi Y Z aa rfl (by decide) _ _ _ rfl S ⟨f.heap.size,0,none⟩ 1 1 [.string t.text] rfl rfl (cell_one_new f _ _) ?c2 (by decide) ?c3 ?c4 ?c5 (f.heap.size+1) (by simp) ?_)
     case c2=>intro u hu;rw[zJ.1 hu];rfl
     case c3=>unfold maxLen;omega
     case c4=>omega
     case c5=>simp;omega
     intro gk aj ak U V al ao;have W:=(l.alloc ai (.cells #[.string t.text] 9)).grown V (by simp;omega) (fun q hq=>(n.lt q hq).1);have a:=Ab (Aa O (acc ++ [t.text]) (some ⟨gk,0,none⟩) aj ak W (by rw[← Aa H,Aa F,Kx,Aa Q,if_neg (by decide),if_pos (Aa ah),zC];rfl) (by simp;omega) (by rw[zB,zl];exact U));rw[zB] at a;clear U V al ao n S W;go_wp2_with fail
     exact ⟨Aa a,Aa N⟩
    ·have e2:(t.kind== 2)=false:=by simpa using m
     have a:=Ab (Aa O acc x g f l (by rw[← Aa H,Aa F,Kx,Aa Q,if_neg (by decide),if_neg m]) (by omega) n);clear m;go_wp2_with fail
     exact ⟨Aa a,Aa N⟩
   ·have a:=Ab (show R=acc by rw[← Aa H,Aa F,Kx,y,if_pos rfl,zp]);clear y;go_wp2_with fail
    go_ret
    exact ⟨⟨x,g,by rw[Aa a];rfl,by rw[Aa a];exact n⟩,l⟩
  ·have ae: ¬ ((k:Int) < (T.length:Int)):=by omega
   have a:=Ab (show R=acc by rw[← v,List.drop_eq_nil_of_le (by omega),Kx,zp]);clear v hk;go_wp2_with fail
   go_ret
   exact ⟨⟨x,g,by rw[Aa a];rfl,by rw[Aa a];exact p⟩,j⟩
def FV:List (List UInt8):= [[43], [45], [42], [47], [37], [124], [38], [92], [61,61], [33,61], [60], [60,61], [105,110], [119,105,116,104,105,110], [97,110,100], [111,114]]
def OpI (w W:World) (s:List UInt8) (p0:Nat) (vi:Value) (wr:World):Prop:=∃ p:Nat,p≤p0∧vi= .int .i64 (p:Int)∧wr=W
theorem YP (s:List UInt8)(a:Nat)(h0:FV[a]? =some s)(hf:∀ j,j < a→FV[j]? ≠some s)(w:World):
  Calls Tryz.prog 81 #[.string (AB s)] w fun r w'=>r= .returned (.int .i64 (11+(a:Int)))∧Below w.heap.size w w':=by
 have k:a < 16:=(zX.1 h0).1;have d:=Ab (And.intro h0 hf);have f:=(Below.refl w.heap.size w).alloc NLN (.cells #[.string ⟨#[43]⟩,.string ⟨#[45]⟩,.string ⟨#[42]⟩,.string ⟨#[47]⟩,.string ⟨#[37]⟩,.string ⟨#[124]⟩,.string ⟨#[38]⟩,.string ⟨#[92]⟩,.string ⟨#[61,61]⟩,.string ⟨#[33,61]⟩,.string ⟨#[60]⟩,.string ⟨#[60,61]⟩,.string ⟨#[105,110]⟩,.string ⟨#[119,105,116,104,105,110]⟩,.string ⟨#[97,110,100]⟩,.string ⟨#[111,114]⟩] 9);have g:=Ab (fun (p:Nat) (y:List UInt8) (hy:FV[p]? =some y)=>show (w.alloc (.cells #[.string ⟨#[43]⟩,.string ⟨#[45]⟩,.string ⟨#[42]⟩,.string ⟨#[47]⟩,.string ⟨#[37]⟩,.string ⟨#[124]⟩,.string ⟨#[38]⟩,.string ⟨#[92]⟩,.string ⟨#[61,61]⟩,.string ⟨#[33,61]⟩,.string ⟨#[60]⟩,.string ⟨#[60,61]⟩,.string ⟨#[105,110]⟩,.string ⟨#[119,105,116,104,105,110]⟩,.string ⟨#[97,110,100]⟩,.string ⟨#[111,114]⟩] 9)).cell? ⟨w.heap.size,p,none⟩=some (.string (AB y)) from by
  have hp:p < 16:=(zX.1 hy).1;rw[(Gx w #[.string ⟨#[43]⟩,.string ⟨#[45]⟩,.string ⟨#[42]⟩,.string ⟨#[47]⟩,.string ⟨#[37]⟩,.string ⟨#[124]⟩,.string ⟨#[38]⟩,.string ⟨#[92]⟩,.string ⟨#[61,61]⟩,.string ⟨#[33,61]⟩,.string ⟨#[60]⟩,.string ⟨#[60,61]⟩,.string ⟨#[105,110]⟩,.string ⟨#[119,105,116,104,105,110]⟩,.string ⟨#[97,110,100]⟩,.string ⟨#[111,114]⟩] 16 rfl (by unfold maxLen;omega)).cellAt p hp];show (FV.map fun x=>Value.string (AB x))[p]? =_;rw[zd,hy];rfl)
 clear h0 hf;go_enter Tryz.func81,Tryz.ntmps81
 go_wp2_with fail
 generalize w.alloc (.cells #[.string ⟨#[43]⟩,.string ⟨#[45]⟩,.string ⟨#[42]⟩,.string ⟨#[47]⟩,.string ⟨#[37]⟩,.string ⟨#[124]⟩,.string ⟨#[38]⟩,.string ⟨#[92]⟩,.string ⟨#[61,61]⟩,.string ⟨#[33,61]⟩,.string ⟨#[60]⟩,.string ⟨#[60,61]⟩,.string ⟨#[105,110]⟩,.string ⟨#[119,105,116,104,105,110]⟩,.string ⟨#[97,110,100]⟩,.string ⟨#[111,114]⟩] 9)=l at f g ⊢;go_loopw [3,4,7] (fun _ _ b wr=>OpI w l s a b wr) (fun _ _ b _=>16 - (intOf b).toNat)
 case atStart=>exact ⟨0,zN _,rfl,rfl⟩
 case round=>
  obtain ⟨p,hp,rfl,rfl⟩:=hrel;have c:p < FV.length:=Nat.lt_of_le_of_lt hp k;obtain ⟨y,hy⟩:∃ y,FV[p]? =some y:=⟨_,zM c⟩
  have hc:=Aa g p y hy;have o:(p:Int) < 16:=by omega
  have m:=Ab (FJ 16 p (by omega));by_cases e:p=a
  ·subst e;have i:y=s:=by
    have:=(Aa d).1;rw[hy] at this;injection this
   rw[i] at hc;clear i hy c;go_wp2_with fail
   go_ret
   exact ⟨rfl,f⟩
  ·have q:((AB s).toList==(AB y).toList)=false:=by
    rw[TC,zZ];refine zK (fun h=>(Aa d).2 p (by omega) ?_);rw[hy,h];rfl
   have n:=Ab (show OpI w wr s a (.int .i64 ((p:Int)+1)) wr from ⟨p+1,by omega,by rw[zU];rfl,rfl⟩);clear hy c e;go_wp2_with fail
   exact ⟨Aa n,Aa m⟩
structure FK (w:World) (B nb:Nat) (tv:Value) (N:List Nd) (P:List Int) (nd pl:Value) (nv kv:List Value):Prop where
 row:Am w nb #[tv,nd,pl] 45
 nodes:Cj w B nd N nv kv
 places:w.ownsRow B 3 1 pl P.length (AF P)
 apart:∀ q,pl.ownBlock=some q→∀ j,(hj:j < kv.length)→kv[j].ownBlock≠some q
 low:B≤nb
theorem FK.below {w w':World}{B b:Nat}{c:Value}{N:List Nd}{P:List Int}{nd d:Value}{f g:List Value}(h:FK w B b c N P nd d f g)(a:Below w.heap.size w w'):FK w' B b c N P nd d f g:=
 ⟨h.row.after a NLN,h.nodes.blocks (fun k _ hk=>a.block k hk),Ac h.places (fun q hq=>a.block q (h.places.lt q hq).2),h.apart,h.low⟩
theorem FK.pushN {b c:World}{B a g7 c7:Nat}{s:Value}{N:List Nd}{P:List Int}{nd f u k:Value}{i g:List Value}{x:Nd}(C:FK b B a s N P nd f i g)(o:Obj)(w:B≤b.heap.size)(hu:b.ownsRow B 9 1 u x.names.length (x.names.map Value.string))(hk:b.ownsRow B 3 1 k x.kids.length (AF x.kids))
  (y:∀ j,(d:j < i.length)→∀ q,i[j].ownBlock=some q→u.ownBlock≠some q)(z:∀ j,(d:j < g.length)→∀ q,g[j].ownBlock=some q→k.ownBlock≠some q)(A:∀ q,k.ownBlock=some q→f.ownBlock≠some q)
  (l:(b.alloc o).grownBy c nd.ownBlock)(E:c.ownsRow B 124 5 (.slice (some ⟨g7,0,none⟩) (N.length+1) c7) (N.length+1) (JM N i g ++MI x u k))(F:nd.ownBlock=some g7∨g7=b.heap.size+1):
  FK (c.setCell ⟨a,1,none⟩ (.slice (some ⟨g7,0,none⟩) (N.length+1) c7)) B a s (N ++ [x]) P (.slice (some ⟨g7,0,none⟩) (N.length+1) c7) f (i ++ [u]) (g ++ [k])∧Nk B a nd f b (.slice (some ⟨g7,0,none⟩) (N.length+1) c7) f (c.setCell ⟨a,1,none⟩ (.slice (some ⟨g7,0,none⟩) (N.length+1) c7)):=by
 have r:=(Below.refl b.heap.size b).alloc NLN o;have H:=C.below r;have I:=Ac (w':=b.alloc o) hu (fun q hq=>r.block q (hu.lt q hq).2);have J:=Ac (w':=b.alloc o) hk (fun q hq=>r.block q (hk.lt q hq).2);have K:nd.ownBlock≠some a:=Ad C.row C.nodes.own (by decide);have m:Am c a #[s,nd,f] 45:=⟨(Ax l a C.row.lt K).trans C.row.out⟩
 have h:=H.nodes.snoc I J y z E l;have t:c.ownsRow B 3 1 f P.length (AF P):=Ac C.places (fun q hq=>Ax l q (C.places.lt q hq).2 (fun e=>Ap C.places C.nodes.own (by decide) q hq e));have n:∀ q,q≠a→(c.setCell ⟨a,1,none⟩ (.slice (some ⟨g7,0,none⟩) (N.length+1) c7)).heap[q]? =c.heap[q]? :=fun q hq=>heap_setCell_other c ⟨a,1,none⟩ q _ hq;refine ⟨⟨m.set 1 _,h.upto (fun q hq=>n q (fun e=>Ad m h.own (by decide) (by rw[hq,e]))) (fun j d q hq=>n q (fun e=>Ad m (h.names j (by rw[← h.len];exact d) d) (by decide) (by rw[hq,e]))) (fun j d q hq=>n q (fun e=>Ad m (h.kids j (by rw[← h.lenk];exact d) d) (by decide) (by rw[hq,e]))),Ac t (fun q hq=>n q (fun e=>Ad m t (by decide) (by rw[hq,e]))),fun q hq j d e=>?_,C.low⟩,⟨?_,fun q h1 h2 h3 h4=>(n q h2).trans (Ax l q h1 h3),fun q hq=>?_,fun q hq=> .inl hq⟩⟩
 ·by_cases v:j < g.length
  ·rw[zu v] at e;exact C.apart q hq j v e
  ·have L:j=g.length:=by simp at d;omega
   subst L;simp at e;exact A q e hq
 ·exact ((r.mono w).grown l (by simp;omega) (fun q hq=>(C.nodes.lts.1 q hq).1)).setCell (p:=⟨a,1,none⟩) C.low _
 ·have e:g7=q:=by simpa[Value.ownBlock] using hq
  subst e;exact F.imp id (fun e=>by omega)
theorem FK.pushP {f d:World}{B c g7 c7:Nat}{m:Value}{N:List Nd}{P:List Int}{nd g:Value}{n o:List Value}(C:FK f B c m N P nd g n o)(r:Obj)(a:Int)(u:B≤f.heap.size)
  (h:(f.alloc r).grownBy d g.ownBlock)(s:d.ownsRow B 3 1 (.slice (some ⟨g7,0,none⟩) (P.length+1) c7) (P.length+1) (AF P ++ [.int .i64 a]))(t:g.ownBlock=some g7∨g7=f.heap.size+1):
  FK (d.setCell ⟨c,2,none⟩ (.slice (some ⟨g7,0,none⟩) (P.length+1) c7)) B c m N (P ++ [a]) nd (.slice (some ⟨g7,0,none⟩) (P.length+1) c7) n o∧Nk B c nd g f nd (.slice (some ⟨g7,0,none⟩) (P.length+1) c7) (d.setCell ⟨c,2,none⟩ (.slice (some ⟨g7,0,none⟩) (P.length+1) c7)):=by
 have v:=(Below.refl f.heap.size f).alloc NLN r;have w:g.ownBlock≠some c:=Ad C.row C.places (by decide);have k:Am d c #[m,nd,g] 45:=⟨(Ax h c C.row.lt w).trans C.row.out⟩
 have l:∀ q,q≠c→(d.setCell ⟨c,2,none⟩ (.slice (some ⟨g7,0,none⟩) (P.length+1) c7)).heap[q]? =d.heap[q]? :=fun q hq=>heap_setCell_other d ⟨c,2,none⟩ q _ hq;have i:Cj d B nd N n o:=C.nodes.upto (fun q hq=>Ax h q (C.nodes.lts.1 q hq).2 (fun e=>Ap C.places C.nodes.own (by decide) q e hq)) (fun j b q hq=>Ax h q (C.nodes.lts.2.1 j b q hq).2 (fun e=>Ap C.places (C.nodes.names j (by rw[← C.nodes.len];exact b) b) (by decide) q e hq)) (fun j b q hq=>Ax h q (C.nodes.lts.2.2 j b q hq).2 (fun e=>C.apart q e j b hq));refine ⟨⟨k.set 2 _,i.upto (fun q hq=>l q (fun e=>Ad k i.own (by decide) (by rw[hq,e]))) (fun j b q hq=>l q (fun e=>Ad k (i.names j (by rw[← i.len];exact b) b) (by decide) (by rw[hq,e]))) (fun j b q hq=>l q (fun e=>Ad k (i.kids j (by rw[← i.lenk];exact b) b) (by decide) (by rw[hq,e]))), ?_,fun q hq j b e=>?_,C.low⟩,⟨?_,fun q h1 h2 h3 h4=>(l q h2).trans (Ax h q h1 h4),fun q hq=> .inl hq,fun q hq=>?_⟩⟩
 ·have:=Ac (w':=d.setCell ⟨c,2,none⟩ (.slice (some ⟨g7,0,none⟩) (P.length+1) c7)) s (fun q hq=>l q (fun e=>Ad k s (by decide) (by rw[hq,e])));simpa[AF] using this
 ·have x:g7=q:=by simpa[Value.ownBlock] using hq
  subst x;rcases t with h1 | h1
  ·exact C.apart g7 h1 j b e
  ·have:=(C.nodes.lts.2.2 j b g7 e).2;omega
 ·exact ((v.mono u).grown h (by simp;omega) (fun q hq=>(C.places.lt q hq).1)).setCell (p:=⟨c,2,none⟩) C.low _
 ·have e:g7=q:=by simpa[Value.ownBlock] using hq
  subst e;exact t.imp id (fun e=>by omega)
theorem Ls.of {w w':World}{B d a c:Nat}{T:List Ae}{N:List Nd}{P:List Int}{nd f:Value}{g h:List Value}(i:Ls w d a c T)(b:FK w' B d (.slice (some ⟨a,0,none⟩) T.length c) N P nd f g h)(k:Below B w w')(l:a < B):Ls w' d a c T:=
 ⟨b.row.cell 0,fun j u hu=>(k.cell (p:=⟨a,j,none⟩) l).trans (i.cells j u hu),b.row.lt,by have:=b.row.lt;have:=b.low;omega⟩
def L2A (B nb:Nat) (tv:Value) (N M:List Nd) (P Q:List Int) (nd pl:Value) (nv kv:List Value) (w:World) (r:Ending) (w':World):Prop:=
 r= .returned (.int .i64 ((N.length+M.length - 1 :Nat):Int))∧∃ nd' pl' nv' kv',FK w' B nb tv (N ++M) (P ++Q) nd' pl' (nv ++nv') (kv ++kv')∧Nk B nb nd pl w nd' pl' w'∧∀ j,(hj:j < kv'.length)→∀ q,kv'[j].ownBlock=some q→w.heap.size≤q
theorem KH {w:World}{B d p c:Nat}{T:List Ae}{N:List Nd}{P:List Int}{nd s:Value}{A C:List Value}(au:Ls w d p c T)(aM:p < B)(W:FK w B d (.slice (some ⟨p,0,none⟩) T.length c) N P nd s A C)(a7:N.length+1≤65535)(a8:P.length+1≤65535)
  (x:Nd)(a:Option Addr)(g:Nat)(b:Option Addr)(f lo:Nat)(aN:B≤lo)(hu:w.ownsRow B 9 1 (.slice a x.names.length g) x.names.length (x.names.map Value.string))(hk:w.ownsRow lo 3 1 (.slice b x.kids.length f) x.kids.length (AF x.kids))
  (av:∀ j,(aO:j < A.length)→∀ q,A[j].ownBlock=some q→(Value.slice a x.names.length g).ownBlock≠some q)(aw:∀ j,(aO:j < C.length)→∀ q,C[j].ownBlock=some q→(Value.slice b x.kids.length f).ownBlock≠some q)(ax:∀ q,(Value.slice b x.kids.length f).ownBlock=some q→s.ownBlock≠some q)(i:Nat)(hi:i < T.length):
  Calls Tryz.prog 79 #[.pointer (some ⟨d,0,none⟩),.agg #[.int .i64 x.op,.int .i64 x.num,.string x.text,.slice a x.names.length g,.slice b x.kids.length f],.int .i64 (i:Int)] w fun r w'=>r= .returned (.int .i64 (N.length:Int))∧∃ ay az,FK w' B d (.slice (some ⟨p,0,none⟩) T.length c) (N ++ [x]) (P ++ [(T[i].at_:Int)]) ay az (A ++ [.slice a x.names.length g]) (C ++ [.slice b x.kids.length f])∧Nk B d nd s w ay az w':=by
 obtain ⟨o,X⟩:∃ o:Int,o=(T[i].at_:Int):=⟨_,rfl⟩
 rw[← X];have aP:=Ab X;clear X;have aA:=W.row.lt;have Y:B≤w.heap.size:=by have:=W.low;omega
 obtain ⟨aQ,aR,aS,aT,aU⟩:=info_parts KI;obtain ⟨aV,aW,aX,aY,aZ⟩:=info_parts MO;have a0:=Ab au;have Z:=Ab (And.intro av (And.intro aw ax));have F:=(Below.refl w.heap.size w).alloc NLN (.cells #[.int .i64 x.op,.int .i64 x.num,.string x.text,.slice a x.names.length g,.slice b x.kids.length f] 124);have S:=Am.new w #[.int .i64 x.op,.int .i64 x.num,.string x.text,.slice a x.names.length g,.slice b x.kids.length f] 124;have n:=W.below F;have aa:Nk B d nd s w nd s (w.alloc (.cells #[.int .i64 x.op,.int .i64 x.num,.string x.text,.slice a x.names.length g,.slice b x.kids.length f] 124)):=Nk.of_all F Y;have ab:=Ac (w':=w.alloc (.cells #[.int .i64 x.op,.int .i64 x.num,.string x.text,.slice a x.names.length g,.slice b x.kids.length f] 124)) hu (fun q hq=>F.block q (hu.lt q hq).2);have ac:=Ac (w':=w.alloc (.cells #[.int .i64 x.op,.int .i64 x.num,.string x.text,.slice a x.names.length g,.slice b x.kids.length f] 124)) hk (fun q hq=>F.block q (hk.lt q hq).2);have ad:w.heap.size < (w.alloc (.cells #[.int .i64 x.op,.int .i64 x.num,.string x.text,.slice a x.names.length g,.slice b x.kids.length f] 124)).heap.size:=by simp
 clear au av aw ax hu hk F;go_enter Tryz.func79,Tryz.ntmps79
 go_wp2_with fail
 generalize w.alloc (.cells #[.int .i64 x.op,.int .i64 x.num,.string x.text,.slice a x.names.length g,.slice b x.kids.length f] 124)=h at n aa ab ac S ad ⊢;generalize w.heap.size=H at S ad aA Y ⊢;obtain ⟨I,J,v,_⟩:=Af n.nodes.own;have ae:=Ab v;clear v;apply Ut
 ·intro a1;have v:=Aa ae;obtain ⟨aB,e1,e2,e3,e4⟩:=Lu S;have af:h.cell? ⟨d,1,none⟩=some (nd):=n.row.cell 1;rw[v] at af;have aC:=n.row.frozen 1;have K:=World.news_of_block (heap_alloc_new h (.cells #[.int .i64 x.op,.int .i64 x.num,.string x.text,.slice a x.names.length g,.slice b x.kids.length f] 124));have ag:h.drew.cell? ⟨d,1,none⟩=some (.slice I (N).length J)∧h.drew.frozen? ⟨d,1,none⟩=false:=⟨af,aC⟩
  have d1:h.drew.cell? ⟨H,0,none⟩=some (.int .i64 x.op):=aB;have d2:h.drew.cell? ⟨H,1,none⟩=some (.int .i64 x.num):=e1;have d3:h.drew.cell? ⟨H,2,none⟩=some (.string x.text):=e2;have d4:h.drew.cell? ⟨H,3,none⟩=some (.slice a x.names.length g):=e3;have d5:h.drew.cell? ⟨H,4,none⟩=some (.slice b x.kids.length f):=e4;have L:(h.alloc (.cells #[.int .i64 x.op,.int .i64 x.num,.string x.text,.slice a x.names.length g,.slice b x.kids.length f] 124)).drew.ownsRow B 124 5 (.slice I (N).length J) (N).length (JM (N) (A) (C)):=by
   have:=n.nodes.own;rw[v] at this;exact (World.ownsRow.alloc this _).drew
  have t:Am (h.alloc (.cells #[.int .i64 x.op,.int .i64 x.num,.string x.text,.slice a x.names.length g,.slice b x.kids.length f] 124)).drew d #[.slice (some ⟨p,0,none⟩) T.length c,nd,s] 45:=⟨(n.row.alloc (.cells #[.int .i64 x.op,.int .i64 x.num,.string x.text,.slice a x.names.length g,.slice b x.kids.length f] 124)).out⟩
  have ah:(h.alloc (.cells #[.int .i64 x.op,.int .i64 x.num,.string x.text,.slice a x.names.length g,.slice b x.kids.length f] 124)).drew.cell? ⟨d,1,none⟩=some (.slice I (N).length J):=by
   have:=t.cell 1;rw[v] at this;exact this
  have U:(Value.slice I (N).length J).ownBlock≠some d:=by rw[← v];exact Ad n.row n.nodes.own (by decide)
  have a2:B≤h.heap.size:=by have:=n.row.lt;have:=n.low;omega
  clear aB e1 e2 e3 e4 af aC v;go_region_law (refine step_append_lies _ rfl _ _ 24 rfl B 124 aQ (.agg #[.int .i64 0,.int .i64 0,.string ByteArray.empty,.slice none 0 0,.slice none 0 0]) 5 80 Tryz.underlying24 aR aS aT aU rfl (by decide) (.slice I (N).length J) (N).length (JM (N) (A) (C)) rfl L ⟨h.heap.size,0,none⟩ 1 1 [.int .i64 x.op,.int .i64 x.num,.string x.text,.slice a x.names.length g,.slice b x.kids.length f] rfl rfl K (by intro u hu;simp at hu;rcases hu with rfl | rfl | rfl | rfl | rfl <;> rfl) (by decide) (by unfold maxLen;omega) (by omega) (by simp;omega) _ rfl ?_;intro g7 c7 ai aD y aE a3;have aj:Am ai d #[.slice (some ⟨p,0,none⟩) T.length c,nd,s] 45:=⟨(y.block d t.lt (fun e=>U e.symm)).trans t.out⟩;have V:=aj.cell 1;have ak:=aj.frozen 1)
  all_goals
   have aF:(h.alloc (.cells #[.int .i64 x.op,.int .i64 x.num,.string x.text,.slice a x.names.length g,.slice b x.kids.length f] 124)).grownBy ai (nd).ownBlock:=by rw[Aa ae];exact ⟨y.os,y.tape,y.output,y.size,y.block⟩
   obtain ⟨l,M⟩:=n.pushN (g7:=g7) (c7:=c7) (x:=x) (u:= .slice a x.names.length g) (k:= .slice b x.kids.length f) _ a2 ab (Cx ac aN) (Aa Z).1 (Aa Z).2.1 (Aa Z).2.2 aF aD (by rw[Aa ae];exact aE.imp id (fun e=>by rw[e];show (h.alloc _).heap.size=_;simp));have O:=aa.trans M;clear aD y aE a3 aj t ah ag d1 d2 d3 d4 d5 K L aF M;clear V ak;generalize ai.setCell ⟨d,1,none⟩ (.slice (some ⟨g7,0,none⟩) ((N).length+1) c7)=m at l O ⊢;clear U;revert O;revert l;revert m;revert c7;revert g7;exact a1.out
 intro g7 c7 m l O;clear S n aa ab ac;go_wp2_with fail
 have al:=(Aa a0).of l O.low aM;obtain ⟨_,_,_,ao⟩:=al.at4 i hi;have a9:(i:Int) < (T.length:Int):=by omega
 have a4:B≤m.heap.size:=by have:=l.row.lt;have:=l.low;omega
 rw[← Aa aP] at ao;obtain ⟨Q,R,E,_⟩:=Af l.places;have aG:=Ab E;have ag:m.drew.cell? ⟨d,2,none⟩=some (.slice Q (P).length R)∧m.drew.frozen? ⟨d,2,none⟩=false:=⟨by have:=l.row.cell 2;rw[E] at this;exact this,l.row.frozen 2⟩
 have d1:m.drew.cell? ⟨d,0,none⟩=some (.slice (some ⟨p,0,none⟩) T.length c):=al.at0;have d2:m.drew.cell? ⟨p,i * 4+3,none⟩=some (.int .i64 o):=ao;have K:=World.news_of_block (heap_alloc_new m (.cells #[.int .i64 o] 3));have L:(m.alloc (.cells #[.int .i64 o] 3)).drew.ownsRow B 3 1 (.slice Q (P).length R) (P).length (AF P):=by
  have:=l.places;rw[E] at this;exact (World.ownsRow.alloc this _).drew
 have t:Am (m.alloc (.cells #[.int .i64 o] 3)).drew d #[.slice (some ⟨p,0,none⟩) T.length c,.slice (some ⟨g7,0,none⟩) (N.length+1) c7,s] 45:=⟨(l.row.alloc (.cells #[.int .i64 o] 3)).out⟩
 have ah:(m.alloc (.cells #[.int .i64 o] 3)).drew.cell? ⟨d,2,none⟩=some (.slice Q (P).length R):=by
  have:=t.cell 2;rw[E] at this;exact this
 have U:(Value.slice Q (P).length R).ownBlock≠some d:=by rw[← E];exact Ad l.row l.places (by decide)
 clear E ao al aA Y ad;go_region_law (refine step_append_lies _ rfl _ _ 28 rfl B 3 aV (.int .i64 0) 1 8 Tryz.underlying28 aW aX aY aZ rfl (by decide) (.slice Q (P).length R) (P).length (AF P) rfl L ⟨m.heap.size,0,none⟩ 1 1 [.int .i64 o] rfl rfl K (by intro u hu;simp at hu;rcases hu with rfl;rfl) (by decide) (by unfold maxLen;omega) (by omega) (by simp;omega) _ rfl ?_;intro g6 aH ap aI z aJ a5;have aq:Am ap d #[.slice (some ⟨p,0,none⟩) T.length c,.slice (some ⟨g7,0,none⟩) (N.length+1) c7,s] 45:=⟨(z.block d t.lt (fun e=>U e.symm)).trans t.out⟩;have V:=aq.cell 2;have ak:=aq.frozen 2)
 all_goals
  have aK:(m.alloc (.cells #[.int .i64 o] 3)).grownBy ap (s).ownBlock:=by rw[Aa aG];exact ⟨z.os,z.tape,z.output,z.size,z.block⟩
  obtain ⟨ar,aL⟩:=l.pushP (g7:=g6) (c7:=aH) _ o a4 aK aI (by rw[Aa aG];exact aJ.imp id (fun e=>by rw[e];show (m.alloc _).heap.size=_;simp));have M:=O.trans aL;clear aI z aJ a5 aK V ak aq t K L aL ag d1 d2 ah;generalize ap.setCell ⟨d,2,none⟩ (.slice (some ⟨g6,0,none⟩) ((P).length+1) aH)=a6 at ar M ⊢;have V:a6.cell? ⟨d,1,none⟩=some (.slice (some ⟨g7,0,none⟩) ((N).length+1) c7):=ar.row.cell 1;go_wp2_with fail
  go_ret
  exact ⟨by simp,_,_,ar,M⟩
end Go.Proofs.YtffkofkjpckmpaaGreatDoor
