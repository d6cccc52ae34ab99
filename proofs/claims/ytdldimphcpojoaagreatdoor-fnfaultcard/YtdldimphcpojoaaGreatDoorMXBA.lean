/-
  HF, HH, HI. Own work.
-/
import Derived.Test.YtdldimphcpojoaaGreatDoorHD
import Derived.Test.YtdldimphcpojoaaGreatDoorMXAO
import Derived.Deep.AppendLies
namespace Go.Proofs.YtdldimphcpojoaaGreatDoor
set_option maxRecDepth 100000
set_option maxHeartbeats 6400000
open Go.RowKit
set_option linter.unusedVariables false
def LV (st:List Sy):List Value:=st.reverse.map fun y=>Value.string (ER y)
theorem KQ (x:Sy)(st:List Sy):LV (x ::st)=LV st ++ [.string (ER x)]:=by simp[LV]
def Vg (T:List Af) (res:Option (List Af)) (B:Nat) (w:World) (n:Nat) (v a:Value) (wr:World):Prop:=
 ∃ st k g c,v= .slice (some ⟨g,0,none⟩) st.length c∧a= .int .i64 ((k:Nat):Int)∧wr.ownsRow w.heap.size 9 1 v st.length (LV st)∧G6 n st (T.drop k) res∧k≤T.length∧Nh B st (T.drop k)∧(∀ y∈st,WL y)∧Below w.heap.size w wr
theorem Vh {w:World}{B n g c:Nat}{e:TypeId}{a:List Value}{x:Value}(h:w.ownsRow B e 1 (.slice (some ⟨g,0,none⟩) (n+1) c) (n+1) (a ++ [x])):w.ownsRow B e 1 (.slice (some ⟨g,0,none⟩) n c) n a:=by
 have hl:a.length=n:=by have:=h.1;simp at this;omega
 refine ⟨by simp[hl], ?_⟩;rcases h.2 with ⟨h0,_⟩ | ⟨f,cap,d,b,h1,h2,h3,h4,h5,h6⟩
 ·cases h0
 ·simp only[Value.slice.injEq,Option.some.injEq,Addr.mk.injEq,and_true,true_and] at b;obtain ⟨rfl,rfl⟩:=b;refine .inr ⟨g,c,d,rfl,h1,h2,by omega,h4,h5, ?_⟩;rw[Nat.mul_one] at h6 ⊢;have:=congrArg (List.take n) h6;rw[List.take_take,Nat.min_eq_left (by omega),List.take_left' hl] at this;exact this
theorem Vi {w:World}{B n g c:Nat}{e:TypeId}{a:List Value}{x:Value}(h:w.ownsRow B e 1 (.slice (some ⟨g,0,none⟩) (n+1) c) (n+1) (a ++ [x])):w.cell? ⟨g,n,none⟩=some x:=by
 have hl:a.length=n:=by have:=h.1;simp at this;omega
 rw[h.cellAt n (by omega),List.getElem?_append_right (by omega),hl];simp
theorem G6.exp_inv {n:Nat}{x:Sy}{st m:List Sy}{a:List Af}{b:Option (List Af)}(h:G6 n (x ::st) a b)(he:Ae x (G8 a)=some m):∃ c,n=c+1∧G6 c (m ++st) a b:=by
 cases h with
 | exp h d=>rw[h] at he;injection he with he;rw[← he];exact ⟨_,rfl,d⟩
 | scope=>cases he
 | scope_nil=>cases he
 | scope_no=>cases he
 | term=>cases he
 | term_nil=>cases he
 | term_no=>cases he
def X4 (x:Sy) (t:Af):Prop:=match x with
 | .scope=>FM t
 | .t s=>tk t=s
 | _=>False
theorem G6.none_inv {n:Nat}{x:Sy}{st:List Sy}{t:Af}{a:List Af}{b:Option (List Af)}(h:G6 n (x ::st) (t ::a) b)(he:Ae x (tk t)=none):(X4 x t∧∃ c,n=c+1∧G6 c st a b)∨(¬ X4 x t∧b=some (t ::a)):=by
 cases h with
 | exp h d=>rw[show G8 (t ::a)=tk t from rfl,he] at h;cases h
 | scope h d=>exact .inl ⟨h,_,rfl,d⟩
 | scope_no h=>exact .inr ⟨h,rfl⟩
 | term h d=>exact .inl ⟨h,_,rfl,d⟩
 | term_no h=>exact .inr ⟨h,rfl⟩
theorem G6.nil_inv {n:Nat}{x:Sy}{st:List Sy}{a:Option (List Af)}(h:G6 n (x ::st) [] a)(he:Ae x []=none):a=some []:=by
 cases h with
 | exp h d=>rw[show G8 []= [] from rfl,he] at h;cases h
 | scope_nil=>rfl
 | term_nil=>rfl
theorem Ni {x:Sy}{t:List UInt8}(h:Ae x t=none):x= .scope∨∃ s,x= .t s:=by
 cases x <;> first | exact .inl rfl | exact .inr ⟨_,rfl⟩ | (exfalso;revert h;simp only[Ae];(repeat' split) <;> simp)
theorem OI {t:Af}(h:BL t):tk t≠ []∧tk t≠ [83,67,79,80,69]∧(tk t=EC→t.kind=2):=by
 rcases h with h | h | h | ⟨h,a⟩
 ·simp[tk,h,Kk,EC]
 ·simp[tk,h,EC]
 ·simp[tk,h,DW,EC]
 ·have e:tk t=Ak t.text:=by unfold tk;rw[if_neg (by omega),if_neg (by omega),if_neg (by omega)]
  rw[e];have b:∀ s∈Ck,s≠ []∧s≠ [83,67,79,80,69]∧s≠EC:=by decide
  have:=b _ a;exact ⟨this.1,this.2.1,fun h=>absurd h this.2.2⟩
theorem QM {s:List UInt8}(h:WL (.t s)):s≠ [83,67,79,80,69]:=by
 rcases h with h | rfl | rfl | rfl
 ·have a:∀ s∈Ck,s≠ [83,67,79,80,69]:=by decide
  exact a _ h
 ·decide
 ·decide
 ·decide
theorem I9 (T:List Af)(a:Option Addr)(c lo:Nat)(w:World)(bl:w.ownsRow lo 41 4 (.slice a T.length c) T.length (Ef T))(bm:∀ t∈T,BL t)(hl:T.length≤4000)(l:Option (List Af))(bn:Ru [.policy] T l):
  Calls Tryz.prog 10 #[.slice a T.length c] w fun r w'=>r= .returned (.int .i64 (Vf T l))∧Below w.heap.size w w':=by
 obtain ⟨i,hi,bo,bp,bq⟩:=info_parts Kc;have br:=(Below.refl w.heap.size w).alloc NLN (.cells #[.string ⟨#[80,111,108,105,99,121]⟩] 9);have bs:Hid (∃ n,Vg T l (3+14 * T.length) w n (.slice (some ⟨w.heap.size,0,none⟩) 1 1) (.int .i64 0) (w.alloc (.cells #[.string ⟨#[80,111,108,105,99,121]⟩] 9))):=by
  obtain ⟨n,bI⟩:=bn;exact Ab ⟨n, [.policy],0,w.heap.size,1,rfl,rfl,AJ w #[.string ⟨#[80,111,108,105,99,121]⟩] 1 rfl (by unfold maxLen;omega),by simpa using bI,Nat.zero_le _,.inl (by simp[LH,Sy.wt]),fun y hy=>by rw[List.mem_singleton.1 hy];trivial,br⟩
 have bt:=Ab bl;have bJ:=Ab bm;clear bn bl bm br;go_enter Tryz.func10,Tryz.ntmps10
 go_wp2_with fail
 go_loopw [3,4] (fun v a wr=>∃ n,Vg T l (3+14 * T.length) w n v a wr) (fun v a wr=>Bu (fun n=>Vg T l (3+14 * T.length) w n v a wr))
 case atStart=>exact Aa bs
 case round=>
  clear bs;have bu:=EY hrel;have ah:=Ab (show ∀ n aW aX w',n < Bu (fun n=>Vg T l (3+14 * T.length) w n u3 u4 wr)→Vg T l (3+14 * T.length) w n aW aX w'→Bu (fun n=>Vg T l (3+14 * T.length) w n aW aX w') < Bu (fun n=>Vg T l (3+14 * T.length) w n u3 u4 wr) from fun n aW aX w' h1 h2=>Gp h1 h2);generalize bv:Bu (fun n=>Vg T l (3+14 * T.length) w n u3 u4 wr)=m at bu ah;have ar:=Ab bv;clear bv hrel;obtain ⟨st,k,g,V,rfl,rfl,au,av,hk,hinv,aY,O⟩:=bu;have bw:=Ab hinv.len;cases st with
  | nil=>
   have bK:(k < T.length∧Vf T l=(k:Int))∨(¬ k < T.length∧Vf T l= -1):=by
    generalize bx:T.drop k=q at av;cases av with
    | fin=>right;exact ⟨by have:=congrArg List.length bx;simp at this;omega,rfl⟩
    | @over t r=>left;have:=congrArg List.length bx;simp at this;exact ⟨by omega,by simp[Vf];omega⟩
   clear av hinv aY ah ar bw;rcases bK with ⟨h1,h2⟩ | ⟨h1,h2⟩
   ·have bL:(k:Int) < (T.length:Int):=by omega
    have aZ:=Ab h2;clear h2 h1;go_wp2_with fail
    go_ret
    exact ⟨by rw[Aa aZ];rfl,O⟩
   ·have bL: ¬ ((k:Int) < (T.length:Int)):=by omega
    have aZ:=Ab h2;clear h2 h1;go_wp2_with fail
    go_ret
    exact ⟨by rw[Aa aZ];rfl,O⟩
  | cons x st=>
   rw[KQ] at au;have bz:=Vi au;have ai:=Vh au;have bM:=Ab (show st.length≤60000 by have:=Aa bw;simp at this;omega);have b2:=Aa bM;have b3:wrap64 (((st.length+1 :Nat):Int) - 1)=(st.length:Int):=by simp[wrap64];omega
   have aT:=Ab av;have a0:=Ab hinv;have W:=Ab aY;have b4:st.length+1≤V:=by
    rcases au.2 with ⟨h0,_⟩ | ⟨o,cap,bA,X,h1,h2,h3,_⟩
    ·cases h0
    ·simp only[Value.slice.injEq] at X;obtain ⟨_,_,rfl⟩:=X;simpa using h3
   have b5:V≠0:=by omega
   clear av hinv aY au;by_cases aj:k < T.length
   ·have bN:(k:Int) < (T.length:Int):=by omega
    have bB:=List.drop_eq_getElem_cons aj;obtain ⟨aU,e1,e2,e3⟩:=Gl T k aj;obtain ⟨b6,b7,bC,bD⟩:=Ah (Aa bt);obtain ⟨ak,bO,_,bE⟩:=bD (by omega);have bP:a=some ⟨ak,0,none⟩:=by injection bC with h1;rw[h1];exact bO
    subst bP;have bQ:ak < w.heap.size:=((Aa bt).lt ak rfl).2;have al:∀ w',Below w.heap.size w w'→∀ j u,(Ef T)[j]? =some u→w'.cell? ⟨ak,j,none⟩=some u:=fun w' a1 j u hu=>(a1.cell (p:=⟨ak,j,none⟩) bQ).trans (bE j u hu);have a2:=al wr O _ _ aU;have a3:=al wr O _ _ e1;have q2:=al wr O _ _ e2;have q3:=al wr O _ _ e3;have bF:=Ab (fun w' a1=>al w' a1 _ _ e2);clear aU e1 e2 e3 al bE bC bD;have aw:=Ab bB;have ao:=Ab (Aa bJ T[k] (List.getElem_mem aj));clear bB;generalize T[k]=F at a2 a3 q2 q3 bF aw ao;have aV:=Ab aj;clear aj;go_wp2_with fail
    refine (QF F wr).mono ?_;rintro r a4 ⟨rfl,bG⟩;have P:=O.trans (bG.mono O.size);have B:=Ac ai (fun q hq=>bG.block q (ai.lt q hq).2);have C:=Ab (show G8 (T.drop k)=tk F by rw[Aa aw];rfl);have M:=Ab (KO x (Aa W x (List.mem_cons_self ..)) (tk F) a4);rw[← Aa C] at M ⊢;cases E:Ae x (G8 (T.drop k)) with
    | some b=>
     rw[E] at M;have z:=Ab E;clear E ai bz a2 a3 q2 q3;dsimp only;go_wp2_with fail
     refine (Aa M).mono ?_;rintro r A ⟨⟨am,bR,rfl,Z⟩,N⟩;have H:=P.trans (N.mono P.size);have I:=Ac B (fun q hq=>N.block q (B.lt q hq).2);dsimp only;go_wp2_with fail
     obtain ⟨aa,rfl⟩:∃ aa,aa=wr:=⟨_,rfl⟩
     obtain ⟨J,ax,ay⟩:=(Aa aT).exp_inv (Aa z);have az:=Ab (And.intro ax ay);have ab:=Ab ((Aa a0).exp (Aa z));have a5:=Ab (show ∀ y∈b ++st,WL y from fun y hy=>by
      rcases List.mem_append.1 hy with h | h
      ·exact Ve (Aa z) y h
      ·exact Aa W y (List.mem_cons_of_mem _ h))
     have bS:b.length≤70000:=by have:=(Aa ab).len;simp at this;omega
     have a6:=Ab (show b.length+st.length≤70000 by have:=(Aa ab).len;simp at this;omega);have aA:wrap64 ((b.length:Int) - 1)=(b.length:Int) - 1:=by simp[wrap64];omega
     have a7:∃ d,(b.length≠0→am=some ⟨d,0,none⟩)∧d≠g∧(∀ j (f:j < b.length),A.cell? ⟨d,j,none⟩=some (.string (ER b[j]))):=by
      have bT:g < a4.heap.size:=(B.lt g rfl).2;rcases Z.2 with ⟨_,h0⟩ | ⟨d,cap,bA,X,h1,h2,_⟩
      ·exact ⟨a4.heap.size,fun h=>absurd h0 h,by omega,fun j f=>absurd f (by omega)⟩
      ·simp only[Value.slice.injEq] at X;obtain ⟨aB,_,_⟩:=X;refine ⟨d,fun _=>aB,by omega,fun j f=>?_⟩;subst aB;rw[Z.cellAt j (by omega),List.getElem?_map,List.getElem?_eq_getElem f];rfl
     obtain ⟨d,aC,a8,aD⟩:=a7;have ac:=Ab (And.intro aC aD);have aE:A.ownsRow w.heap.size 9 1 (.slice (some ⟨g,0,none⟩) (b.drop b.length ++st).length V) (b.drop b.length ++st).length (LV (b.drop b.length ++st)):=by rw[List.drop_length];exact I
     rw[aA];clear aC aD Z ax ay B I aA;go_loopw [3,9] (fun v ad Q=>∃ (p o L:Nat),p≤b.length∧ad= .int .i64 ((p:Int) - 1)∧v= .slice (some ⟨o,0,none⟩) (b.drop p ++st).length L∧Q.ownsRow w.heap.size 9 1 (.slice (some ⟨o,0,none⟩) (b.drop p ++st).length L) (b.drop p ++st).length (LV (b.drop p ++st))∧d≠o∧(∀ j (f:j < b.length),Q.cell? ⟨d,j,none⟩=some (.string (ER b[j]))∧d < Q.heap.size)∧Below w.heap.size w Q) (fun _ ad _=>(intOf ad+1).toNat)
     case atStart=>exact ⟨b.length,g,V,NLN,rfl,by rw[List.drop_length];rfl,aE,a8,fun j f=>⟨(Aa ac).2 j f,by
       have:=(Aa ac).2 j f;unfold World.cell? at this;by_cases hq:d < A.heap.size
       ·exact hq
       ·rw[Array.getElem?_eq_none (by show A.heap.size≤d;omega)] at this;cases this⟩,H⟩
     case round=>
      obtain ⟨p,o,L,bU,rfl,rfl,R,a9,aF,ae⟩:=hrel;have aG:=Ab aF;clear aE aF;by_cases aH:p=0
      ·subst aH;have af: ¬ ((0 :Int)≤((0 :Nat):Int) - 1):=by omega
       have aI:=Ab (show Vg T l (3+14 * T.length) w J (.slice (some ⟨o,0,none⟩) (b ++st).length L) (.int .i64 ((k:Nat):Int)) wr from ⟨b ++st,k,o,L,rfl,rfl,by simpa using R,(Aa az).2,hk,Aa ab,Aa a5,ae⟩);go_wp2_with fail
       rw[List.drop_zero];exact ⟨⟨J,Aa aI⟩,by rw[Aa ar];exact Aa ah J _ _ _ (by have:=(Aa az).1;omega) (Aa aI)⟩
      ·have af:(0 :Int)≤(p:Int) - 1:=by omega
       obtain ⟨q,rfl⟩:∃ q,p=q+1:=⟨p - 1,by omega⟩
       have hq:q < b.length:=by omega
       obtain ⟨ba,bb⟩:=Aa aG q hq;have bc:=(Aa ac).1 (by omega);have bd:=Ab (List.drop_eq_getElem_cons hq);have bf:(((q+1 :Nat):Int) - 1)=(q:Int):=by omega
       have bV:(q:Int) < (b.length:Int):=by omega
       have bW:wrap64 ((q:Int) - 1)=(q:Int) - 1:=by simp[wrap64];omega
       subst bc;have aJ:=R.alloc (.cells #[.string (ER b[q])] 9);have bg:=Ab (show (b.drop (q+1) ++st).length≤70000 by have:=Aa a6;simp;omega);have bX:=Aa bg;have bh:=ae.size;generalize aK:b.drop (q+1) ++st=aL at *;have bi:=Ab aK;generalize aM:b[q]=ag at *;have bY:=Ab aM;clear aK aM aH af;rw[bf];have af:(0 :Int)≤(q:Int):=by omega
       go_wp2_with (at_builtin;refine wpList_append_lies _ rfl _ _ 34 rfl w.heap.size 9 i (.string ByteArray.empty) 1 16 Tryz.underlying34 hi bo bp bq rfl (by decide) _ _ _ rfl aJ ⟨wr.heap.size,0,none⟩ 1 1 [.string (ER ag)] rfl rfl (cell_one_new wr _ _) ?c2 (by decide) ?c3 ?c4 ?c5 (wr.heap.size+1) (by simp) ?_)
       case c2=>rfl
       case c3=>unfold maxLen;omega
       case c4=>omega
       case c5=>omega
       intro gk aN S aO U aP bZ;have aQ:=(ae.alloc bh (.cells #[.string (ER ag)] 9)).grown U (by simp;omega) (fun q hq=>(R.lt q hq).1);have aR:∃ (p g2 c2:Nat),p≤b.length∧Value.int .i64 ((q:Int) - 1)= .int .i64 ((p:Int) - 1)∧Value.slice (some ⟨gk,0,none⟩) (aL.length+1) aN= .slice (some ⟨g2,0,none⟩) (b.drop p ++st).length c2∧S.ownsRow w.heap.size 9 1 (.slice (some ⟨g2,0,none⟩) (b.drop p ++st).length c2) (b.drop p ++st).length (LV (b.drop p ++st))∧d≠g2∧(∀ j (f:j < b.length),S.cell? ⟨d,j,none⟩=some (.string (ER b[j]))∧d < S.heap.size)∧Below w.heap.size w S:=by
        have e:b.drop q ++st=ag ::aL:=by rw[Aa bd,← Aa bi];rfl
        refine ⟨q,gk,aN,by omega,rfl,by rw[e];rfl, ?_, ?_,fun j f=>⟨?_, ?_⟩,aQ⟩
        ·rw[e,KQ,List.length_cons];exact aO
        ·rcases aP with h | h
         ·have:o=gk:=by simpa[Value.ownBlock] using h
          omega
         ·omega
        ·have hx:=U.block d (by simp;omega) (fun h=>a9 (by simpa[Value.ownBlock] using h));have hy:=hx.trans (Below.heap_alloc wr _ d bb);have aS:=(Aa aG j f).1;unfold World.cell? at aS ⊢;rw[hy];exact aS
        ·have:=U.size;simp at this;omega
       have bj:=Ab aR;clear aR aO U aP R aJ aQ ba;go_wp2_with fail
       go_roundw
       case rel=>exact ⟨_,_,_,_,_,_,_,_,_,_,_,_,_,Aa bj,rfl⟩
       case measure=>simp[intOf]
    | none=>
     rw[E] at M;have z:=Ab E;clear E ai bz a2 a3 q2 q3;have bH:=Ab ((show G6 _ _ _ _ from by have:=Aa aT;rw[Aa aw] at this;exact this).none_inv (show Ae x (tk F)=none by rw[← Aa C];exact Aa z));dsimp only;go_wp2_with fail
     refine (Aa M).mono ?_;rintro r A ⟨rfl,N⟩;have H:=P.trans (N.mono P.size);have I:=Ac B (fun q hq=>N.block q (B.lt q hq).2);have b0:A.cell? ⟨ak,k * 4+2,none⟩=some (.string F.text):=Aa bF A H;dsimp only;clear B;by_cases K:X4 x F
     ·have ap:=Ab (show ∃ J,J < m∧Vg T l (3+14 * T.length) w J (.slice (some ⟨g,0,none⟩) st.length V) (.int .i64 ((k:Int)+1)) A by
       rcases Aa bH with ⟨_,J,hm,b1⟩ | h
       ·refine ⟨J,by omega,st,k+1,g,V,rfl,by rw[Int.natCast_add];rfl,I,b1,by have:=Aa aV;omega, ?_,fun y hy=>Aa W y (List.mem_cons_of_mem _ hy),H⟩;have:=Aa a0;rw[Aa aw] at this;exact this.pop
       ·exact absurd K h.1)
      rcases Ni (Aa z) with rfl | ⟨s,rfl⟩
      ·have Y:=K.1;have e1:((Ax (G8 (T.drop k))).toList== [84,69,88,84])=true:=by rw[CI,Aa C];exact decide_eq_true (by simp[tk,Y,EC])
       have e2:(F.text.toList== [])=false:=by
        have:=K.2;rw[← BE F.text,CI];exact decide_eq_false (fun e=>this (by rw[← BE F.text,e]))
       clear Y K I;rw[show ER .scope=⟨#[83,67,79,80,69]⟩ from rfl];go_wp2_with fail
       exact ⟨⟨_,(Aa ap).choose_spec.2⟩,by rw[Aa ar];exact Aa ah _ _ _ _ (Aa ap).choose_spec.1 (Aa ap).choose_spec.2⟩
      ·have aU:((Ax (G8 (T.drop k))).toList==(ER (.t s)).toList)=true:=by rw[Aa C,show ER (.t s)=Ax s from rfl,show tk F=s from K];simp
       have e1:((Ax (G8 (T.drop k))).toList== [])=false:=by rw[CI,Aa C];exact decide_eq_false (OI (Aa ao)).1
       have e2:((ER (.t s)).toList== [83,67,79,80,69])=false:=by rw[show ER (.t s)=Ax s from rfl,CI];exact decide_eq_false (QM (Aa W _ (List.mem_cons_self ..)))
       clear K I;go_wp2_with fail
       exact ⟨⟨_,(Aa ap).choose_spec.2⟩,by rw[Aa ar];exact Aa ah _ _ _ _ (Aa ap).choose_spec.1 (Aa ap).choose_spec.2⟩
     ·have aq:=Ab (show Vf T l=(k:Int) by
       rcases Aa bH with h | h
       ·exact absurd h.1 K
       ·rw[h.2,← Aa aw];simp[Vf];omega)
      rcases Ni (Aa z) with rfl | ⟨s,rfl⟩
      ·have e3:((Ax (G8 (T.drop k))).toList== [])=false:=by rw[CI,Aa C];exact decide_eq_false (OI (Aa ao)).1
       have e4:((Ax (G8 (T.drop k))).toList== [83,67,79,80,69])=false:=by rw[CI,Aa C];exact decide_eq_false (OI (Aa ao)).2.1
       rw[show ER .scope=⟨#[83,67,79,80,69]⟩ from rfl];by_cases Y:F.kind=2
       ·have e1:((Ax (G8 (T.drop k))).toList== [84,69,88,84])=true:=by rw[CI,Aa C];exact decide_eq_true (by simp[tk,Y,EC])
        have e2:F.text=⟨#[]⟩:=Classical.byContradiction fun h=>K ⟨Y,h⟩;rw[e2] at b0;clear Y K I e2;go_wp2_with fail
        go_ret
        exact ⟨by rw[Aa aq];rfl,H⟩
       ·have e1:((Ax (G8 (T.drop k))).toList== [84,69,88,84])=false:=by rw[CI,Aa C];exact decide_eq_false (fun h=>Y ((OI (Aa ao)).2.2 h))
        clear Y K I;go_wp2_with fail
        go_ret
        exact ⟨by rw[Aa aq];rfl,H⟩
      ·have aU:((Ax (G8 (T.drop k))).toList==(ER (.t s)).toList)=false:=by rw[Aa C,show ER (.t s)=Ax s from rfl,CI,ByteArray.toList_eq];exact decide_eq_false K
       have e1:((Ax (G8 (T.drop k))).toList== [])=false:=by rw[CI,Aa C];exact decide_eq_false (OI (Aa ao)).1
       have e2:((ER (.t s)).toList== [83,67,79,80,69])=false:=by rw[show ER (.t s)=Ax s from rfl,CI];exact decide_eq_false (QM (Aa W _ (List.mem_cons_self ..)))
       clear K I;go_wp2_with fail
       go_ret
       exact ⟨by rw[Aa aq];rfl,H⟩
   ·have bN: ¬ ((k:Int) < (T.length:Int)):=by omega
    have aV:=Ab (show k=T.length by omega);have bk:=Ab (show T.drop k= [] by rw[Aa aV,List.drop_length]);have C:=Ab (show G8 (T.drop k)= [] by rw[Aa bk];rfl);clear aj;have P:=O;have B:=ai;have M:=Ab (show Calls Tryz.prog 28 #[.string (ER x),.string ⟨#[]⟩] wr (FY (Ae x (G8 (T.drop k))) wr) from by rw[Aa C];exact KO x (Aa W x (List.mem_cons_self ..)) [] wr);clear ai;cases E:Ae x (G8 (T.drop k)) with
    | some b=>
     rw[E] at M;have z:=Ab E;clear E;go_wp2_with fail
     refine (Aa M).mono ?_;rintro r A ⟨⟨am,bR,rfl,Z⟩,N⟩;have H:=P.trans (N.mono P.size);have I:=Ac B (fun q hq=>N.block q (B.lt q hq).2);dsimp only;go_wp2_with fail
     obtain ⟨aa,rfl⟩:∃ aa,aa=wr:=⟨_,rfl⟩
     obtain ⟨J,ax,ay⟩:=(Aa aT).exp_inv (Aa z);have az:=Ab (And.intro ax ay);have ab:=Ab ((Aa a0).exp (Aa z));have a5:=Ab (show ∀ y∈b ++st,WL y from fun y hy=>by
      rcases List.mem_append.1 hy with h | h
      ·exact Ve (Aa z) y h
      ·exact Aa W y (List.mem_cons_of_mem _ h))
     have bS:b.length≤70000:=by have:=(Aa ab).len;simp at this;omega
     have a6:=Ab (show b.length+st.length≤70000 by have:=(Aa ab).len;simp at this;omega);have aA:wrap64 ((b.length:Int) - 1)=(b.length:Int) - 1:=by simp[wrap64];omega
     have a7:∃ d,(b.length≠0→am=some ⟨d,0,none⟩)∧d≠g∧(∀ j (f:j < b.length),A.cell? ⟨d,j,none⟩=some (.string (ER b[j]))):=by
      have bT:g < aa.heap.size:=(B.lt g rfl).2;rcases Z.2 with ⟨_,h0⟩ | ⟨d,cap,bA,X,h1,h2,_⟩
      ·exact ⟨aa.heap.size,fun h=>absurd h0 h,by omega,fun j f=>absurd f (by omega)⟩
      ·simp only[Value.slice.injEq] at X;obtain ⟨aB,_,_⟩:=X;refine ⟨d,fun _=>aB,by omega,fun j f=>?_⟩;subst aB;rw[Z.cellAt j (by omega),List.getElem?_map,List.getElem?_eq_getElem f];rfl
     obtain ⟨d,aC,a8,aD⟩:=a7;have ac:=Ab (And.intro aC aD);have aE:A.ownsRow w.heap.size 9 1 (.slice (some ⟨g,0,none⟩) (b.drop b.length ++st).length V) (b.drop b.length ++st).length (LV (b.drop b.length ++st)):=by rw[List.drop_length];exact I
     rw[aA];clear aC aD Z ax ay B I aA;go_loopw [3,9] (fun v ad Q=>∃ (p o L:Nat),p≤b.length∧ad= .int .i64 ((p:Int) - 1)∧v= .slice (some ⟨o,0,none⟩) (b.drop p ++st).length L∧Q.ownsRow w.heap.size 9 1 (.slice (some ⟨o,0,none⟩) (b.drop p ++st).length L) (b.drop p ++st).length (LV (b.drop p ++st))∧d≠o∧(∀ j (f:j < b.length),Q.cell? ⟨d,j,none⟩=some (.string (ER b[j]))∧d < Q.heap.size)∧Below w.heap.size w Q) (fun _ ad _=>(intOf ad+1).toNat)
     case atStart=>exact ⟨b.length,g,V,NLN,rfl,by rw[List.drop_length];rfl,aE,a8,fun j f=>⟨(Aa ac).2 j f,by
       have:=(Aa ac).2 j f;unfold World.cell? at this;by_cases hq:d < A.heap.size
       ·exact hq
       ·rw[Array.getElem?_eq_none (by show A.heap.size≤d;omega)] at this;cases this⟩,H⟩
     case round=>
      obtain ⟨p,o,L,bU,rfl,rfl,R,a9,aF,ae⟩:=hrel;have aG:=Ab aF;clear aE aF;by_cases aH:p=0
      ·subst aH;have af: ¬ ((0 :Int)≤((0 :Nat):Int) - 1):=by omega
       have aI:=Ab (show Vg T l (3+14 * T.length) w J (.slice (some ⟨o,0,none⟩) (b ++st).length L) (.int .i64 ((k:Nat):Int)) wr from ⟨b ++st,k,o,L,rfl,rfl,by simpa using R,(Aa az).2,hk,Aa ab,Aa a5,ae⟩);go_wp2_with fail
       rw[List.drop_zero];exact ⟨⟨J,Aa aI⟩,by rw[Aa ar];exact Aa ah J _ _ _ (by have:=(Aa az).1;omega) (Aa aI)⟩
      ·have af:(0 :Int)≤(p:Int) - 1:=by omega
       obtain ⟨q,rfl⟩:∃ q,p=q+1:=⟨p - 1,by omega⟩
       have hq:q < b.length:=by omega
       obtain ⟨ba,bb⟩:=Aa aG q hq;have bc:=(Aa ac).1 (by omega);have bd:=Ab (List.drop_eq_getElem_cons hq);have bf:(((q+1 :Nat):Int) - 1)=(q:Int):=by omega
       have bV:(q:Int) < (b.length:Int):=by omega
       have bW:wrap64 ((q:Int) - 1)=(q:Int) - 1:=by simp[wrap64];omega
       subst bc;have aJ:=R.alloc (.cells #[.string (ER b[q])] 9);have bg:=Ab (show (b.drop (q+1) ++st).length≤70000 by have:=Aa a6;simp;omega);have bX:=Aa bg;have bh:=ae.size;generalize aK:b.drop (q+1) ++st=aL at *;have bi:=Ab aK;generalize aM:b[q]=ag at *;have bY:=Ab aM;clear aK aM aH af;rw[bf];have af:(0 :Int)≤(q:Int):=by omega
       go_wp2_with (at_builtin;refine wpList_append_lies _ rfl _ _ 34 rfl w.heap.size 9 i (.string ByteArray.empty) 1 16 Tryz.underlying34 hi bo bp bq rfl (by decide) _ _ _ rfl aJ ⟨wr.heap.size,0,none⟩ 1 1 [.string (ER ag)] rfl rfl (cell_one_new wr _ _) ?d2 (by decide) ?d3 ?d4 ?d5 (wr.heap.size+1) (by simp) ?_)
       case d2=>rfl
       case d3=>unfold maxLen;omega
       case d4=>omega
       case d5=>omega
       intro gk aN S aO U aP bZ;have aQ:=(ae.alloc bh (.cells #[.string (ER ag)] 9)).grown U (by simp;omega) (fun q hq=>(R.lt q hq).1);have aR:∃ (p g2 c2:Nat),p≤b.length∧Value.int .i64 ((q:Int) - 1)= .int .i64 ((p:Int) - 1)∧Value.slice (some ⟨gk,0,none⟩) (aL.length+1) aN= .slice (some ⟨g2,0,none⟩) (b.drop p ++st).length c2∧S.ownsRow w.heap.size 9 1 (.slice (some ⟨g2,0,none⟩) (b.drop p ++st).length c2) (b.drop p ++st).length (LV (b.drop p ++st))∧d≠g2∧(∀ j (f:j < b.length),S.cell? ⟨d,j,none⟩=some (.string (ER b[j]))∧d < S.heap.size)∧Below w.heap.size w S:=by
        have e:b.drop q ++st=ag ::aL:=by rw[Aa bd,← Aa bi];rfl
        refine ⟨q,gk,aN,by omega,rfl,by rw[e];rfl, ?_, ?_,fun j f=>⟨?_, ?_⟩,aQ⟩
        ·rw[e,KQ,List.length_cons];exact aO
        ·rcases aP with h | h
         ·have:o=gk:=by simpa[Value.ownBlock] using h
          omega
         ·omega
        ·have hx:=U.block d (by simp;omega) (fun h=>a9 (by simpa[Value.ownBlock] using h));have hy:=hx.trans (Below.heap_alloc wr _ d bb);have aS:=(Aa aG j f).1;unfold World.cell? at aS ⊢;rw[hy];exact aS
        ·have:=U.size;simp at this;omega
       have bj:=Ab aR;clear aR aO U aP R aJ aQ ba;go_wp2_with fail
       go_roundw
       case rel=>exact Aa bj
       case measure=>simp[intOf]
    | none=>
     rw[E] at M;have z:=Ab E;clear E;have aq:=Ab (show Vf T l=(k:Int) by
      have h:=Aa aT;rw[Aa bk] at h;rw[h.nil_inv (by have:=Aa z;rw[Aa bk] at this;exact this)];have:=Aa aV;simp[Vf];omega)
     go_wp2_with fail
     refine (Aa M).mono ?_;rintro r A ⟨rfl,N⟩;have H:=P.trans (N.mono P.size);dsimp only;clear B;rcases Ni (Aa z) with rfl | ⟨s,rfl⟩
     ·rw[show ER .scope=⟨#[83,67,79,80,69]⟩ from rfl];go_wp2_with fail
      go_ret
      exact ⟨by rw[Aa aq];rfl,H⟩
     ·have e2:((ER (.t s)).toList== [83,67,79,80,69])=false:=by rw[show ER (.t s)=Ax s from rfl,CI];exact decide_eq_false (QM (Aa W _ (List.mem_cons_self ..)))
      go_wp2_with fail
      go_ret
      exact ⟨by rw[Aa aq];rfl,H⟩
set_option maxHeartbeats 1600000
structure Ja (w:World) (nb ga c:Nat) (T:List Af):Prop where
 at0:w.cell? ⟨nb,0,none⟩=some (.slice (some ⟨ga,0,none⟩) T.length c)
 cells:∀ j u,(Ef T)[j]? =some u→w.cell? ⟨ga,j,none⟩=some u
 lt:nb < w.heap.size∧ga < w.heap.size
theorem Ja.below {w w':World}{a b c:Nat}{T:List Af}(h:Ja w a b c T)(d:Below w.heap.size w w'):Ja w' a b c T:=
 ⟨(d.cell (p:=⟨a,0,none⟩) h.lt.1).trans h.at0,fun j u hu=>(d.cell (p:=⟨b,j,none⟩) h.lt.2).trans (h.cells j u hu),by have:=d.size;have:=h.lt;omega⟩
theorem Ja.at4 {w:World}{b a c:Nat}{T:List Af}(h:Ja w b a c T)(i:Nat)(hi:i < T.length):w.cell? ⟨a,i * 4,none⟩=some (.int .i64 T[i].kind)∧w.cell? ⟨a,i * 4+1,none⟩=some (.int .i64 T[i].num)∧w.cell? ⟨a,i * 4+2,none⟩=some (.string T[i].text)∧w.cell? ⟨a,i * 4+3,none⟩=some (.int .i64 (T[i].at_:Int)):=by
 obtain ⟨d,e1,e2,e3⟩:=Gl T i hi;exact ⟨h.cells _ _ d,h.cells _ _ e1,h.cells _ _ e2,h.cells _ _ e3⟩
theorem Zk (t:ByteArray)(u:List UInt8):(t.toList==(Ax u).toList)=decide (t=Ax u):=by
 have h:=CI (Ak t) (Ax u).toList;rw[BE] at h;rw[h];by_cases e:t=Ax u
 ·rw[decide_eq_true e,e];simp[ByteArray.toList_eq];rfl
 ·rw[decide_eq_false e,decide_eq_false];intro h2;apply e;rw[← BE t,h2,ByteArray.toList_eq];rfl
theorem Ga {w:World}{f j c:Nat}{T:List Af}(h:Ja w f j c T)(i:Nat)(hi:i < T.length)(s:List UInt8)(a:ByteArray)(hs:a=Ax s):
  Calls Tryz.prog 11 #[.pointer (some ⟨f,0,none⟩),.int .i64 (i:Int),.string a] w fun r w'=>r= .returned (.bool (see s T[i]))∧Below w.heap.size w w':=by
 obtain ⟨k,g,q2,q3⟩:=h.at4 i hi;have l:=h.at0;have m:(i:Int) < (T.length:Int):=by omega
 have d:=Ab (show see s T[i]=((T[i].kind== 4 || T[i].kind== 5) && (T[i].text.toList== a.toList)) by rw[hs,Zk];simp[see];grind);generalize see s T[i]=b at d ⊢;generalize T[i]=t at k g q2 q3 d;clear h hs hi g q3;cases h4:(t.kind== 4) <;> cases h5:(t.kind== 5) <;> cases hx:(t.text.toList== a.toList) <;> rw[h4,h5,hx] at d
 all_goals
  go_enter Tryz.func11,Tryz.ntmps11
  go_wp2_with fail
  go_ret
  exact ⟨by rw[Aa d];rfl,BRN⟩
theorem Vj {w:World}{l o c:Nat}{T:List Af}(h:Ja w l o c T)(i:Nat)(hi:i < T.length):
  Calls Tryz.prog 83 #[.pointer (some ⟨l,0,none⟩),.int .i64 (i:Int)] w fun r w'=>r= .returned (.bool (Dv T[i]))∧Below w.heap.size w w':=by
 obtain ⟨p,m,q2,q3⟩:=h.at4 i hi;have A:=h.at0;have B:(i:Int) < (T.length:Int):=by omega
 have f:=Ab (fun (w':World) (q:Below w.heap.size w w') (s:List UInt8)=>Ga (h.below q) i hi s (Ax s) rfl);have a:=Ab (show Dv T[i]=((T[i].kind != 4 && T[i].kind != 5) || see AT T[i] || see BK T[i] || see Ca T[i] || see Bs T[i]) by
  rw[Dv,show (T[i].kind != 4)= !decide (T[i].kind=4) from by rw[bne];congr 1,show (T[i].kind != 5)= !decide (T[i].kind=5) from by rw[bne];congr 1])
 generalize Dv T[i]=b at a ⊢;generalize T[i]=t at p m q2 q3 a f;have n:=Below.refl w.heap.size w;clear h hi m q3 q2;cases h4:(t.kind != 4) <;> cases h5:(t.kind != 5) <;> rw[h4,h5] at a
 case true.true=>
  go_enter Tryz.func83,Tryz.ntmps83
  go_wp2_with fail
  go_ret
  exact ⟨by rw[Aa a];rfl,BRN⟩
 all_goals
  go_enter Tryz.func83,Tryz.ntmps83
  go_wp2_with fail
  refine (Aa f _ n AT).mono ?_;rintro r C ⟨rfl,u⟩;have g:=n.trans u;dsimp only;generalize see AT t=d at a ⊢;cases d
  case true=>
   go_wp2_with fail
   go_ret
   exact ⟨by rw[Aa a];rfl,g⟩
  go_wp2_with fail
  refine (Aa f _ g BK).mono ?_;rintro r E ⟨rfl,v⟩;have j:=g.trans (v.mono g.size);dsimp only;generalize see BK t=d at a ⊢;cases d
  case true=>
   go_wp2_with fail
   go_ret
   exact ⟨by rw[Aa a];rfl,j⟩
  go_wp2_with fail
  refine (Aa f _ j Ca).mono ?_;rintro r F ⟨rfl,x⟩;have k:=j.trans (x.mono j.size);dsimp only;generalize see Ca t=d at a ⊢;cases d
  case true=>
   go_wp2_with fail
   go_ret
   exact ⟨by rw[Aa a];rfl,k⟩
  go_wp2_with fail
  refine (Aa f _ k Bs).mono ?_;rintro r H ⟨rfl,y⟩;have z:=k.trans (y.mono k.size);dsimp only;generalize see Bs t=d at a ⊢;cases d
  all_goals
   go_wp2_with fail
   go_ret
   exact ⟨by rw[Aa a];rfl,z⟩
set_option maxHeartbeats 6400000
def YP (T:List Af) (wd:List UInt8) (lo:Nat) (R:Int) (w:World) (vo vd vi:Value) (wr:World):Prop:=
 ∃ (k:Nat) (o d:Int),lo≤k∧k≤T.length∧vo= .int .i64 o∧vd= .int .i64 d∧vi= .int .i64 (k:Int)∧-(k:Int)≤d∧d≤k∧1 - (k:Int)≤o∧o≤k+1∧BW wd (T.drop k) o d k=R∧Below w.heap.size w wr
theorem KR {w:World}{U aa c:Nat}{T:List Af}(h:Ja w U aa c T)(hl:T.length≤4000)(lo:Nat)(ab:lo≤T.length)(f:List UInt8)(V:ByteArray)(ac:V=Ax f):
  Calls Tryz.prog 57 #[.pointer (some ⟨U,0,none⟩),.int .i64 (lo:Int),.string V] w fun r w'=>r= .returned (.int .i64 (BW f (T.drop lo) 1 0 lo))∧Below w.heap.size w w':=by
 have ad:=Ab (fun (w':World) (j:Below w.heap.size w w') (i:Nat) (hi:i < T.length) (s:List UInt8)=>Ga (h.below j) i hi s (Ax s) rfl);have ae:=Ab (fun (w':World) (j:Below w.heap.size w w')=>(h.below j).at0);have O:=Ab (show YP T f lo (BW f (T.drop lo) 1 0 lo) w (.int .i64 1) (.int .i64 0) (.int .i64 (lo:Int)) w from ⟨lo,1,0,NLN,ab,rfl,rfl,rfl,by omega,by omega,by omega,by omega,rfl,BRN⟩);generalize BW f (T.drop lo) 1 0 lo=R at O ⊢;subst ac;clear h;go_enter Tryz.func57,Tryz.ntmps57
 go_wp2_with fail
 go_loopw [7,8,9] (fun af ag P wr=>YP T f lo R w af ag P wr) (fun _ _ P _=>T.length - (intOf P).toNat)
 case atStart=>exact Aa O
 case round=>
  clear O;obtain ⟨k,b,d,h1,h2,rfl,rfl,rfl,h3,h4,h5,h6,I,B⟩:=hrel;have av:=Aa ae wr B;by_cases hk:k < T.length
  ·have ah:(k:Int) < (T.length:Int):=by omega
   have g:=Ab (List.drop_eq_getElem_cons hk);have l:=Ab I;have aw:=Ab (And.intro h1 (And.intro h3 (And.intro h4 (And.intro h5 h6))));have ax:wrap64 ((k:Int)+1)=(k:Int)+1:=by simp[wrap64];omega
   have m:wrap64 (d+1)=d+1:=by simp[wrap64];omega
   have n:wrap64 (d - 1)=d - 1:=by simp[wrap64];omega
   have o:wrap64 (b+1)=b+1:=by simp[wrap64];omega
   have p:wrap64 (b - 1)=b - 1:=by simp[wrap64];omega
   have C:=Ab (fun (w':World) (j:Below w.heap.size w w') (s:List UInt8)=>Aa ad w' j k hk s);have q:=Ab (fun (u v:Int) (w':World) (j:Below w.heap.size w w') (hm:BW f (T.drop (k+1)) u v ((k:Int)+1)=R) (e1:v=d∨v=d+1∨v=d - 1) (e2:u=b∨u=b+1∨u=b - 1)=>show YP T f lo R w (.int .i64 u) (.int .i64 v) (.int .i64 ((k:Int)+1)) w' from ⟨k+1,u,v,by omega,by omega,rfl,rfl,by rw[Int.natCast_add];rfl,by omega,by omega,by omega,by omega,by rw[Int.natCast_add];exact hm,j⟩);have x:Hid (T.length - ((k:Int)+1).toNat < T.length - (k:Int).toNat):=Ab (by omega);generalize T[k]=t at g C;clear I h1 h2 h3 h4 h5 h6 hk;go_wp2_with fail
   refine (Aa C _ B AD).mono ?_;rintro r ai ⟨rfl,aj⟩;have J:=B.trans (aj.mono B.size);dsimp only;cases K:see AD t
   case true=>
    have a:=Ab (Aa q b (d+1) ai J (by rw[← Aa l,Aa g,Kx K]) (by omega) (by omega));clear K;go_wp2_with fail
    exact ⟨by first | exact Aa a | (rw[m];exact Aa a) | (rw[n];exact Aa a) | (rw[o];exact Aa a) | (rw[p];exact Aa a),Aa x⟩
   have ak:=Ab K;clear K;go_wp2_with fail
   refine (Aa C _ J AT).mono ?_;rintro r W ⟨rfl,al⟩;have E:=J.trans (al.mono J.size);dsimp only;cases L:see AT t
   case true=>
    have a:=Ab (Aa q b (d - 1) W E (by rw[← Aa l,Aa g,I0 L]) (by omega) (by omega));clear L;go_wp2_with fail
    exact ⟨by first | exact Aa a | (rw[m];exact Aa a) | (rw[n];exact Aa a) | (rw[o];exact Aa a) | (rw[p];exact Aa a),Aa x⟩
   have ao:=Ab L;clear L;have F:=Ab (show BW f (t ::T.drop (k+1)) b d k=if d=0∧see Du t=true then BW f (T.drop (k+1)) (b+1) d (k+1) else if d=0∧see f t=true then (if b - 1=0 then (k:Int) else BW f (T.drop (k+1)) (b - 1) d (k+1)) else BW f (T.drop (k+1)) b d (k+1) by
    rw[BW,Aa ak,Aa ao,if_neg (by decide),if_neg (by decide)])
   cases X:(d== 0)
   ·have y: ¬ d=0:=by simpa using X
    have a:=Ab (Aa q b d W E (by rw[← Aa l,Aa g,Aa F,if_neg (fun e=>y e.1),if_neg (fun e=>y e.1)]) (by omega) (by omega));clear y;go_wp2_with fail
    exact ⟨by first | exact Aa a | (rw[m];exact Aa a) | (rw[n];exact Aa a) | (rw[o];exact Aa a) | (rw[p];exact Aa a),Aa x⟩
   have y:d=0:=by simpa using X
   have Q:=Ab y;clear y;go_wp2_with fail
   refine (Aa C _ E Du).mono ?_;rintro r ap ⟨rfl,aq⟩;have M:=E.trans (aq.mono E.size);dsimp only;cases N:see Du t
   case true=>
    have a:=Ab (Aa q (b+1) d ap M (by rw[← Aa l,Aa g,Aa F,if_pos ⟨Aa Q,N⟩]) (by omega) (by omega));clear N;go_wp2_with fail
    exact ⟨by first | exact Aa a | (rw[m];exact Aa a) | (rw[n];exact Aa a) | (rw[o];exact Aa a) | (rw[p];exact Aa a),Aa x⟩
   have ar:=Ab N;clear N;go_wp2_with fail
   refine (Aa C _ M f).mono ?_;rintro r Y ⟨rfl,au⟩;have S:=M.trans (au.mono M.size);dsimp only;have z: ¬ (d=0∧see Du t=true):=fun e=>by rw[Aa ar] at e;cases e.2
   cases A:see f t
   case false=>
    have a:=Ab (Aa q b d Y S (by rw[← Aa l,Aa g,Aa F,if_neg z,if_neg (fun e=>by rw[A] at e;cases e.2)]) (by omega) (by omega));clear A z;go_wp2_with fail
    exact ⟨by first | exact Aa a | (rw[m];exact Aa a) | (rw[n];exact Aa a) | (rw[o];exact Aa a) | (rw[p];exact Aa a),Aa x⟩
   cases Z:(b - 1== 0)
   ·have H: ¬ b - 1=0:=by simpa using Z
    have a:=Ab (Aa q (b - 1) d Y S (by rw[← Aa l,Aa g,Aa F,if_neg z,if_pos ⟨Aa Q,A⟩,if_neg H]) (by omega) (by omega));clear A z H;go_wp2_with fail
    exact ⟨by first | exact Aa a | (rw[m];exact Aa a) | (rw[n];exact Aa a) | (rw[o];exact Aa a) | (rw[p];exact Aa a),Aa x⟩
   ·have H:b - 1=0:=by simpa using Z
    have a:=Ab (show R=(k:Int) by rw[← Aa l,Aa g,Aa F,if_neg z,if_pos ⟨Aa Q,A⟩,if_pos H]);clear A z H;go_wp2_with fail
    go_ret
    exact ⟨by rw[Aa a];rfl,S⟩
  ·have ah: ¬ ((k:Int) < (T.length:Int)):=by omega
   have a:=Ab (show R=(T.length:Int) by rw[← I,List.drop_eq_nil_of_le (by omega),BW];omega);clear I hk;go_wp2_with fail
   go_ret
   exact ⟨by rw[Aa a];rfl,B⟩
end Go.Proofs.YtdldimphcpojoaaGreatDoor
