/-
  VPM0, VPM, GP, GQ. Own work.
-/
import Derived.Test.YtffkofkjpckmpaaGreatDoorMXAW
import Derived.Test.YtffkofkjpckmpaaGreatDoorMXBC
import Derived.Test.YtffkofkjpckmpaaGreatDoorMXAG
namespace Go.Proofs.YtffkofkjpckmpaaGreatDoor
open Go.RowKit
set_option linter.unusedVariables false
def EF (N:List Nd) (L:List St):Bool:=match CJ (N.map Nd.kids) N.length [] 0 with
 |none=>false
 |some S=>decide (Av S=L.flatMap As)
theorem KW {w:World}{b:Nat}{a c:Value}{t:TypeId}(R:Am w b #[a,c] t):w.cell? ⟨b,0,none⟩=some a∧w.cell? ⟨b,1,none⟩=some c:=⟨R.cell 0,R.cell 1⟩
theorem Tt {K:List (List Int)} :∀ {k:Nat} {S:List (Nat × Nat)},CJ K k [] 0=some S→S.length≤k∧k≤K.length∨k=0∧S= []
 | 0,S,h=>by right;rw[CJ] at h;cases h;exact ⟨rfl,rfl⟩
 |k+1,S,h=>by
  left;rw[Gq K k 1 [] 0] at h;cases h1:CJ K k [] 0 with
  |none=>rw[h1] at h;cases h
  |some b=>
   rw[h1] at h
   change CJ K 1 b (0+k)=some S at h
   rw[zW,CJ] at h;cases h2:K[k]? with
   |none=>rw[h2] at h;cases h
   |some ks=>
    rw[h2] at h;dsimp only at h;cases h3:Dv b k ks with
    |none=>rw[h3] at h;cases h
    |some d=>
     rw[h3] at h
     change some d=some S at h
     cases h;have hl:=(zX.1 h2).1;obtain ⟨g,B,e1,_,_,e2⟩:=NH h3;have f:=Tt h1;rw[e2,zB,z9];rcases f with ⟨c,a⟩ | ⟨c,a⟩
     ·rw[e1,zB] at c;omega
     ·rw[e1] at a;have:=List.append_eq_nil_iff.1 a;rw[this.1];simp;omega
set_option maxRecDepth 100000
set_option maxHeartbeats 3200000
def By (N:List Nd) (L:List St):Bool:=decide (N.length≤4000) && (decide (1≤L.length∧L.length≤600) && BK L) && N.all Aw && EF N L
theorem NJ (a b:Option Addr)(n c m d:Nat)(N:List Nd)(L:List St)(w:World)(h1:IZ w a n c N)(h2:PO w b m d L)(aa:CU w):
  Calls Tryz.prog 22 #[.agg #[.slice a n c,.slice b m d],.func (.func 23) #[] #[]] w fun e w'=>e= .returned (.bool (By N L))∧Below w.heap.size w w':=by
 have aq:=h1.small;have ar:=h2.small;have ab:=Ab h1.len;have ac:=Ab h2.len;have x:=Ab (show By N L=(decide (n≤4000) && (decide (1≤m∧m≤600) && BK L) && N.all Aw && EF N L) by rw[By,h1.len,h2.len]);have j:=Am.new w #[.slice a n c,.slice b m d] 27;have g:=(Below.refl w.heap.size w).alloc NLN (.cells #[.slice a n c,.slice b m d] 27);have l:=h1.below g NLN;have o:=h2.below g NLN;have y:=aa.below g NLN;go_enter Tryz.func22,Tryz.ntmps22
 by_cases J: 4000 < n
 ·have ad:(4000 :Int) < (n:Int):=by omega
  have h:=Ab (show By N L=false by rw[Aa x,zK (by omega)];rfl);clear J;go_wp2_with fail
  go_ret
  exact ⟨Ah (Aa h).symm,g⟩
 have ad: ¬ ((4000 :Int) < (n:Int)):=by omega
 have s:=Ab (show By N L=((decide (1≤m∧m≤600) && BK L) && N.all Aw && EF N L) by rw[Aa x,zR (by omega)];rfl);clear J x;generalize M:(decide (1≤m∧m≤600) && BK L)=ae at s;have p:=Ab M;clear M;cases ae
 ·have h:=Ab (show By N L=false by rw[Aa s];rfl);go_wp2_with (go_at_call 51;refine (DY _ _ _ _ _ o).mono ?_;rintro e z ⟨rfl,f⟩;rw[Aa p])
  go_ret
  exact ⟨Ah (Aa h).symm,g.trans (f.mono g.size)⟩
 ·have t:=Ab (show By N L=(N.all Aw && EF N L) by rw[Aa s,z2]);clear s;generalize O:N.all Aw=af at t;have A:=Ab O;clear O;cases af
  ·have h:=Ab (show By N L=false by rw[Aa t];rfl);go_wp2_with (first
    |(go_at_call 51;refine (DY _ _ _ _ _ o).mono ?_;rintro e z ⟨rfl,f⟩;rw[Aa p];obtain ⟨P,Q⟩:=KW (j.after f NLN))
    |(go_at_call 52;refine (Fv _ _ _ _ _ (l.below f NLN) (y.below f NLN)).mono ?_;rintro e R ⟨rfl,q⟩;rw[Aa A]))
   go_ret
   exact ⟨Ah (Aa h).symm,g.trans ((f.trans (q.mono f.size)).mono g.size)⟩
  ·have T:=Ab (show By N L=EF N L by rw[Aa t,z2]);clear t;have B:=Ab (show EF N L=match CJ (N.map Nd.kids) n [] 0 with | none=>false | some S=>decide (Av S=L.flatMap As) by rw[EF,Aa ab];try rfl)
   have U:=Ab (fun S=>(Tt (K:=N.map Nd.kids) (k:=n) (S:=S)));generalize V:CJ (N.map Nd.kids) n [] 0=ag at B U;have W:=Ab V;clear V;cases ag with
   |none=>
    have h:=Ab (show By N L=false by rw[Aa T,Aa B]);go_wp2_with (first
     |(go_at_call 51;refine (DY _ _ _ _ _ o).mono ?_;rintro e z ⟨rfl,f⟩;rw[Aa p];obtain ⟨P,Q⟩:=KW (j.after f NLN))
     |(go_at_call 52;refine (Fv _ _ _ _ _ (l.below f NLN) (y.below f NLN)).mono ?_;rintro e R ⟨rfl,q⟩;rw[Aa A];have i:=f.trans (q.mono f.size);obtain ⟨ah,ai⟩:=KW (j.after i NLN))
     |(go_at_call 53;refine (NI _ _ _ _ _ (l.below i NLN)).mono ?_;rw[Aa W];rintro e aj ⟨he,C⟩;change e=_ at he;subst he))
    go_ret
    exact ⟨Ah (Aa h).symm,g.trans ((i.trans (C.mono i.size)).mono g.size)⟩
   |some S=>
    obtain ⟨r,E⟩:∃ r,Hid (L.flatMap As=r):=⟨_,Ab rfl⟩
    obtain ⟨F,X⟩:∃ F,Hid (Av S=F):=⟨_,Ab rfl⟩
    have h:=Ab (show By N L=decide (F=r) by rw[Aa T,Aa B,Aa E];show decide (Av S=r)=_;rw[Aa X]);have au:S.length≤n:=by
     rcases Aa U S rfl with k | ⟨_,k⟩
     ·exact k.1
     ·subst k;simp
    have av:m≤600:=(of_decide_eq_true (zE _ _ ▸ Aa p).1).2;have aw:r.length≤2 * m:=by have:=Lb L;rw[Aa ac,Aa E] at this;exact this
    go_wp2_with (first
     |(go_at_call 51;refine (DY _ _ _ _ _ o).mono ?_;rintro e z ⟨rfl,f⟩;rw[Aa p];obtain ⟨P,Q⟩:=KW (j.after f NLN))
     |(go_at_call 52;refine (Fv _ _ _ _ _ (l.below f NLN) (y.below f NLN)).mono ?_;rintro e R ⟨rfl,q⟩;rw[Aa A];have i:=f.trans (q.mono f.size);obtain ⟨ah,ai⟩:=KW (j.after i NLN))
     |(go_at_call 53;refine (NI _ _ _ _ _ (l.below i NLN)).mono ?_;rw[Aa W];rintro e aj ⟨⟨v,he,H⟩,C⟩;subst he;rw[Aa X] at H;obtain ⟨ax,ay,rfl,_⟩:=Af H;have u:=i.trans (C.mono i.size);obtain ⟨az,aA⟩:=KW (j.after u NLN);have ak:=LM H (by omega))
     |(go_at_call 55;refine (OB _ _ _ _ _ (o.below u NLN)).mono ?_;rintro e aB ⟨v,rfl,I,Y⟩;rw[Aa E] at I;obtain ⟨aC,aD,rfl,_⟩:=Af I;have al:=LM I (by omega);have ao:=ak.below Y NLN;have Z:=u.trans (Y.mono u.size))
     |(go_at_call 54;refine (Uw _ _ _ _ _ _ _ _ _ ao al).mono ?_;rintro e aE ⟨rfl,ap⟩))
    go_ret
    exact ⟨Ah (Aa h).symm,g.trans ((Z.trans (ap.mono Z.size)).mono g.size)⟩
theorem Gd (a b:Option Addr)(n c m d:Nat)(N:List Nd)(L:List St)(w:World)(h1:IZ w a n c N)(h2:PO w b m d L)(g:CU w):
  Calls Tryz.prog 8 #[.agg #[.slice a n c,.slice b m d]] w fun e w'=>e= .returned (.bool (By N L))∧Below w.heap.size w w':=by
 have f:=(Below.refl w.heap.size w).alloc NLN (.cells #[.slice a n c,.slice b m d] 27);go_enter Tryz.func8,Tryz.ntmps8
 go_wp2_with (go_at_call 22;refine (NJ _ _ _ _ _ _ _ _ _ (h1.below f NLN) (h2.below f NLN) (g.below f NLN)).mono ?_;rintro e i ⟨rfl,h⟩)
 go_ret
 exact ⟨rfl,f.trans (h.mono f.size)⟩
end Go.Proofs.YtffkofkjpckmpaaGreatDoor
namespace Go.Proofs.YtffkofkjpckmpaaGreatDoor
set_option maxRecDepth 100000
set_option maxHeartbeats 6400000
open Go.RowKit
set_option linter.unusedVariables false
variable {aY : Addr} {pb g c : Nat} {T : List Ae} {tl : Nat}
def ScO (aY:Addr) (pb g c:Nat) (T:List Ae) (tl:Nat) (R:List ByteArray × Bool × List Ae) (w:World) (r:Ending) (w':World):Prop:=
 ((R.2.1=true∧∃ a cx k,r= .returned (.tuple #[.slice a R.1.length cx,.nilIface])∧w'.ownsRow w.heap.size 9 1 (.slice a R.1.length cx) R.1.length (R.1.map Value.string)∧Pp w' pb g c T tl R.2.2 k∧R.1.length≤4000)∨
   (R.2.1=false∧∃ b,r= .returned (.tuple #[.slice none 0 0,Ck b])∧XR aY tl R.2.2 b w'))∧Ak pb (pb+1) w w'
def ScN (pb g c:Nat) (T:List Ae) (tl:Nat) (R:List ByteArray × Bool × List Ae) (w:World) (n:Nat) (v:Value) (wr:World):Prop:=
 ∃ a cx A r k,v= .slice a A.length cx∧wr.ownsRow w.heap.size 9 1 v A.length (A.map Value.string)∧Pp wr pb g c T tl r k∧GO r A=R∧n=r.length∧A.length+r.length≤T.length∧Ak pb (pb+1) w wr
theorem AbV {r:List Ae}{b:Nat}(h: ¬ FU (Dw b r))(a:List ByteArray):GO r a=(a,false,r):=by
 match r with
 | []=>rfl
 | [t]=>rw[GO,if_neg (show ¬ FU t from h)]
 |t ::u ::q=>rw[GO,if_neg (show ¬ FU t from h)]
theorem Aav {t:Ae}{r:List Ae}(h:FU t)(hs:AM Dy r=false)(a:List ByteArray):GO (t ::r) a=(a ++ [t.text],true,r):=by
 match r with
 | []=>rw[GO,if_pos h]
 |u ::q=>rw[GO,if_pos h,if_neg (by rw[show see Dy u=false from hs];decide)]
theorem AbW {t u:Ae}{r:List Ae}(h:FU t)(hs:see Dy u=true)(a:List ByteArray):GO (t ::u ::r) a=GO r (a ++ [t.text]):=by
 rw[GO,if_pos h,if_pos hs]
theorem RA (a b c d:Value)(w:World):(Instr.field 42 (.agg #[a,b,c,d]) 2).run Tryz.prog w= .ok c w:=by
 simp[Instr.field,run_underlying Tryz.underlying42,Sem.run_bind,part,asAgg,isAgg,go_sem]
theorem Ak.grownP {lo hi:Nat}{w b c:World}{d:Obj}{row:Option Nat}(t:Ak lo hi w b)(a:(b.alloc d).grownBy c row)(f:∀ k,row=some k→w.heap.size≤k):Ak lo hi w c:=by
 have h0:=t.allP ((Below.refl b.heap.size b).alloc NLN d);exact ⟨a.os.trans h0.os,a.tape.trans h0.tape,a.output.trans h0.output,zL h0.size a.size,fun k h1 h2=>(a.block k (zY h1 h0.size) (fun e=>by have:=f k e.symm;omega)).trans (h0.block k h1 h2)⟩
theorem Pp.grownP {w a:World}{k:Nat}{ts:List Ae}{lo n:Nat}{v:Value}{i:List Value}{b:Obj}(h:Pp w pb g c T tl ts k)(l:∀ q,v.ownBlock=some q→lo≤q)(j:(w.alloc b).grownBy a v.ownBlock)(d:w.ownsRow lo 9 1 v n i):Pp a pb g c T tl ts k:=by
 have f:∀ q,q < w.heap.size→v.ownBlock≠some q→a.heap[q]? =w.heap[q]? :=fun q h1 h2=>(j.block q (by simp;omega) (fun e=>h2 e.symm)).trans (Below.heap_alloc w b q h1);exact ⟨⟨(f pb h.row.lt (Ad h.row d (by decide))).trans h.row.out⟩,Ac h.toks (fun q hq=>f q (h.toks.lt q hq).2 (fun e=>Ap d h.toks (by decide) q e hq)),h.drop,h.len,h.small⟩
theorem Uf (hp: 17≤pb)(ts:List Ae)(w:World)(k:Nat)(h:Pp w pb g c T tl ts k)(Q:Gy w aY):
  Calls Tryz.prog 197 #[.pointer (some ⟨pb,0,none⟩)] w (ScO aY pb g c T tl (Ga ts) w):=by
 have A:=Ab (AW h Bp);have R:=Ab h;have aB:=Ab Q;have aN:=h.row.lt;have ag:=h.len;cases hs:AM Bp ts
 case true=>
  have J:=Ab hs;have f:=Ab (show Ga ts=([],true,ts) by rw[Ga,hs];rfl);clear hs h Q ag;go_enter Tryz.func197,Tryz.ntmps197
  go_wp2_with fail
  refine (Aa A).mono ?_;rintro e aC ⟨rfl,l⟩;rw[Aa J];dsimp only;go_wp2_with fail
  go_ret2
  rw[Aa f];exact ⟨.inl ⟨rfl,none,0,k,rfl,World.ownsRow_nil _ _ _ _,(Aa R).below l,by simp⟩,Ak.of_below l NLN⟩
 case false=>
  have J:=Ab hs;have f:=Ab (show GO ts []=Ga ts by rw[Ga,hs];rfl);have aD:=Ab (show ts.length≤T.length by omega);have ah:=Ab h.small;clear hs h Q ag;obtain ⟨i,hi,aE,aF,aG⟩:=info_parts Mf;go_enter Tryz.func197,Tryz.ntmps197
  go_wp2_with fail
  refine (Aa A).mono ?_;rintro e aC ⟨rfl,l⟩;rw[Aa J];dsimp only;go_wp2_with fail
  go_loopw [4] (fun v wr=>∃ n,ScN pb g c T tl (Ga ts) w n v wr) (fun v wr=>Bu (fun n=>ScN pb g c T tl (Ga ts) w n v wr))
  case atStart=>exact ⟨ts.length,none,0, [],ts,k,rfl,World.ownsRow_nil _ _ _ _,(Aa R).below l,Aa f,rfl,by simpa using Aa aD,Ak.of_below l NLN⟩
  case round=>
   clear R A J f l;have hl:=FI hrel;have ai:=Ab (show ∀ n K w',n < Bu (fun n=>ScN pb g c T tl (Ga ts) w n u4 wr)→ScN pb g c T tl (Ga ts) w n K w'→Bu (fun n=>ScN pb g c T tl (Ga ts) w n K w') < Bu (fun n=>ScN pb g c T tl (Ga ts) w n u4 wr) from fun n K w' h1 h2=>Ip h1 h2);generalize aj:Bu (fun n=>ScN pb g c T tl (Ga ts) w n u4 wr)=m at hl ai;have aH:=Ab aj;clear aj hrel;obtain ⟨a,ak,d,r,aO,rfl,S,U,al,hm,ao,y⟩:=hl;have V:=Ab (BN U);have ap:=Ab U;have W:=Ab al;have L:=Ab (And.intro hm ao);have aI:=Ab ((Aa aB).touch y hp);have aP:=y.size;clear U al hm ao;by_cases s:FU (Dw tl r)
   ·obtain ⟨t,p,rfl⟩:∃ t p,r=t ::p:=by
     cases r with
     |nil=>exact absurd s.1 (show ¬ (0 :Int)=2 by decide)
     |cons t p=>exact ⟨t,p,rfl⟩
    have M:FU t:=s;have e1:(t.kind != 2)=false:=by rw[M.1];rfl
    have e2:(t.text.toList== [])=false:=by
     cases hc:(t.text.toList== [])
     ·rfl
     ·have:t.text.toList=(AB []).toList:=by rw[zI] at hc;rw[hc,zZ];rfl
      exact absurd ((FG _ _).1 (zI.2 this)) M.2
    have aq:=Ab M;clear s M;go_wp2_with fail
    refine (Aa V).mono ?_;rintro e N ⟨rfl,o⟩;dsimp only[Dc,Dw];have j:=o.alloc o.size (.cells #[.int .i64 t.kind,.int .i64 t.num,.string t.text,.int .i64 (t.at_:Int)] 42);have ar:=Ab (Cc ((Aa ap).below j));have X:=y.allP j;have B:(N.alloc (.cells #[.int .i64 t.kind,.int .i64 t.num,.string t.text,.int .i64 (t.at_:Int)] 42)).ownsRow w.heap.size 9 1 (.slice a d.length ak) d.length (d.map Value.string):=Ac S (fun q hq=>j.block q (S.lt q hq).2);have aQ:=RA (.int .i64 t.kind) (.int .i64 t.num) (.string t.text) (.int .i64 (t.at_:Int));go_wp2_with fail
    generalize N.alloc (.cells #[.int .i64 t.kind,.int .i64 t.num,.string t.text,.int .i64 (t.at_:Int)] 42)=aR at ar X B ⊢;refine (Aa ar).mono ?_;rintro e O ⟨rfl,au,Y⟩;have Z:=X.trans Y;have C:O.ownsRow w.heap.size 9 1 (.slice a d.length ak) d.length (d.map Value.string):=Ac B (fun q hq=>Y.block q (B.lt q hq).2 (.inr (by have:=(B.lt q hq).1;omega)));clear S B j o X Y y;have aS:=Z.size;have aT:d.length≤4000:=by have:=(Aa L).2;have:=Aa ah;simp at *;omega
    dsimp only[Dc];go_wp2_with (at_builtin;refine wpList_append_own _ rfl _ _ 47 rfl w.heap.size 9 i (.string ByteArray.empty) 1 16 Tryz.underlying47 hi aE aF aG rfl (by decide) _ _ _ rfl (C.alloc _) ⟨O.heap.size,0,none⟩ 1 1 [.string t.text] rfl rfl ?c1 ?c2 ?c3 ?c4 ?c5 ?_)
    case c1=>exact cell_one_new _ _ _
    case c2=>intro u hu;simp at hu;subst hu;rfl
    case c3=>unfold maxLen;omega
    case c4=>omega
    case c5=>simp;omega
    intro K aU z aa _;have ab:=au.grownP (fun q hq=>(C.lt q hq).1) aa C;have aJ:=Z.grownP aa (fun q hq=>(C.lt q hq).1);obtain ⟨E,F,hf⟩:=DH z;rw[hf] at z ⊢;clear aa C hf au Z;have A:=Ab (AW ab Dy);have av:=Ab ab;clear ab;go_wp2_with fail
    refine (Aa A).mono ?_;rintro e aK ⟨rfl,P⟩;have H:aK.ownsRow w.heap.size 9 1 (.slice E (d.length+1) F) (d.length+1) (d.map Value.string ++ [.string t.text]):=Ac z (fun q hq=>P.block q (z.lt q hq).2);have ac:=aJ.allP P;have aL:=Ab (show d.length+1≤4000 by have:=(Aa L).2;have:=Aa ah;simp at *;omega);cases hs:AM Dy p
    ·have f:=Ab (show Ga ts=(d ++ [t.text],true,p) by rw[← Aa W,Aav (Aa aq) hs]);clear hs z;dsimp only;go_wp2_with fail
     go_ret2
     rw[Aa f];exact ⟨.inl ⟨rfl,E,F,_,by simp,by simpa using H,(Aa av).below P,by simpa using Aa aL⟩,ac⟩
    ·obtain ⟨u,x,rfl⟩:∃ u x,p=u ::x:=by
      cases p with
      |nil=>cases hs
      |cons u x=>exact ⟨u,x,rfl⟩
     have f:=Ab (show GO x (d ++ [t.text])=Ga ts by rw[← Aa W,AbW (Aa aq) hs]);have aM:=Ab (Cc ((Aa av).below P));clear hs z;dsimp only;go_wp2_with fail
     refine (Aa aM).mono ?_;rintro e aw ⟨rfl,ax,ad⟩;have ay:aw.ownsRow w.heap.size 9 1 (.slice E (d.length+1) F) (d.length+1) (d.map Value.string ++ [.string t.text]):=Ac H (fun q hq=>ad.block q (H.lt q hq).2 (.inr (by have:=(H.lt q hq).1;omega)));have az:=Ab (show ScN pb g c T tl (Ga ts) w x.length (.slice E (d.length+1) F) aw from ⟨E,F,d ++ [t.text],x,_,by simp,by simpa using ay,ax,Aa f,rfl,by have:=(Aa L).2;simp at this ⊢;omega,ac.trans ad⟩);clear H ay ax ad ac;dsimp only[Dc];go_wp2_with fail
     go_roundw
     case rel=>exact ⟨_,Aa az⟩
     case measure=>rw[Aa aH];exact Aa ai _ _ _ (by have:=(Aa L).1;simp at this;omega) (Aa az)
   ·have f:=Ab (show Ga ts=(d,false,r) by rw[← Aa W,AbV s]);have aA:=Ab (fun w' (l:Below wr.heap.size wr w')=>EZ ((Aa ap).below l) ((Aa aI).below l));by_cases I:(Dw tl r).kind=2
    ·have e1:((Dw tl r).kind != 2)=false:=by rw[I];rfl
     have e2:((Dw tl r).text.toList== [])=true:=by
      have:(Dw tl r).text=AB []:=by
       by_cases h0:(Dw tl r).text=AB []
       ·exact h0
       ·exact absurd ⟨I,h0⟩ s
      rw[this,zZ];rfl
     clear s I;go_wp2_with fail
     refine (Aa V).mono ?_;rintro e N ⟨rfl,o⟩;generalize Dw tl r=t at e1 e2;have j:=o.alloc o.size (.cells #[.int .i64 t.kind,.int .i64 t.num,.string t.text,.int .i64 (t.at_:Int)] 42);dsimp only[Dc];go_wp2_with fail
     refine (Aa aA _ j).mono ?_;rintro e O ⟨b,rfl,ae,af⟩;dsimp only[Ck];go_wp2_with fail
     go_ret2
     rw[Aa f];exact ⟨.inr ⟨rfl,b,rfl,ae⟩,(y.allP j).allP af⟩
    ·have e1:((Dw tl r).kind != 2)=true:=zw.2 I;clear s I;go_wp2_with fail
     refine (Aa V).mono ?_;rintro e N ⟨rfl,o⟩;generalize Dw tl r=t at e1;have j:=o.alloc o.size (.cells #[.int .i64 t.kind,.int .i64 t.num,.string t.text,.int .i64 (t.at_:Int)] 42);dsimp only[Dc];go_wp2_with fail
     refine (Aa aA _ j).mono ?_;rintro e O ⟨b,rfl,ae,af⟩;dsimp only[Ck];go_wp2_with fail
     go_ret2
     rw[Aa f];exact ⟨.inr ⟨rfl,b,rfl,ae⟩,(y.allP j).allP af⟩
end Go.Proofs.YtffkofkjpckmpaaGreatDoor
namespace Go.Proofs.YtffkofkjpckmpaaGreatDoor
set_option maxRecDepth 100000
set_option maxHeartbeats 3200000
open Go.RowKit Go.Lib Go.Sort
set_option linter.unusedVariables false
variable {aY : Addr} {pb g c : Nat} {T : List Ae} {tl : Nat}
def Kz (t:Ae) (R:List ByteArray × Bool × List Ae):PR:=if R.2.1=true then (match R.2.2 with | []=> .bad [] | u ::q=>if see Bp u=true then .ok (.set t.at_ R.1) q else .bad (u ::q)) else .bad R.2.2
theorem Aaw (d c:Nat)(a:Option Addr)(b:List ByteArray)(w:World)(h:w.ownsRow d 9 1 (.slice a b.length c) b.length (b.map Value.string))(i:b.length≤1048576):
  Calls Tryz.prog 198 #[.slice a b.length c] w fun e w'=>e= .returned (.tuple #[])∧w'.ownsRow d 9 1 (.slice a b.length c) b.length (((b.map Aj).mergeSort fun x y=>decide (x≤y)).map encStr)∧w.grownBy w' (Value.slice a b.length c).ownBlock:=by
 by_cases h0:b.length=0
 ·have e:b= []:=z7 h0;subst e;refine (Tryz.slices_Sort_string_none a c w).mono ?_;rintro e w' ⟨rfl,rfl⟩;exact ⟨rfl,by simpa using h,World.grownBy.refl _ _⟩
 ·obtain ⟨x,o,j,hx⟩:=Af h;obtain ⟨f,k,_⟩:=hx (by omega);have l:a=some ⟨f,0,none⟩:=by
   injection j with h1;rw[h1];exact k
  subst l;have g:=h;rw[← Aac] at g;refine (Yo d f b.length c (b.map Aj) w g i).mono ?_;rintro e w' ⟨rfl,m,n⟩;exact ⟨rfl,m,n⟩
theorem Aax (f c:Nat)(a:Option Addr)(b:List ByteArray)(w:World)(h:w.ownsRow f 9 1 (.slice a b.length c) b.length (((b.map Aj).mergeSort fun x y=>decide (x≤y)).map encStr))(i:b.length≤1048576):
  Calls Tryz.prog 199 #[.slice a b.length c] w fun e w'=>∃ K,Cl b K∧e= .returned (.slice a K.length c)∧w'.ownsRow f 9 1 (.slice a K.length c) K.length (K.map Value.string)∧w.grownBy w' (Value.slice a b.length c).ownBlock:=by
 by_cases h0:b.length=0
 ·have e:b= []:=z7 h0;subst e;refine (Tryz.slices_Compact_string_empty a c w).mono ?_;rintro e w' ⟨rfl,rfl⟩;exact ⟨[],⟨rfl,fun x=>Iff.rfl⟩,rfl,by simpa using h,World.grownBy.refl _ _⟩
 ·obtain ⟨x,n,j,hx⟩:=Af h;obtain ⟨g,k,_⟩:=hx (by omega);have l:a=some ⟨g,0,none⟩:=by
   injection j with h1;rw[h1];exact k
  subst l;refine (RB f g b.length c _ w h i).mono ?_;rintro e w' ⟨rfl,d,m⟩;have hs:=EH b;rw[← Aad] at d
  change Cl b ((Mj b).map AB) at hs
  have e3:(Lib.compact ((b.map Aj).mergeSort fun x y=>decide (x≤y)))=Mj b:=rfl;rw[e3] at d ⊢;have e4:(Mj b).length=((Mj b).map AB).length:=(zv _).symm;rw[e4] at d ⊢;exact ⟨_,hs,rfl,d,m⟩
theorem Cz {w:World}{B a n size:Nat}{e:TypeId}{v:Value}{b:List Value}(h:w.ownsRow B e size v n b)(c:a≤B):w.ownsRow a e size v n b:=by
 refine ⟨h.1, ?_⟩;rcases h.2 with h0 | ⟨g,cap,d,f,h1,h2⟩
 ·exact .inl h0
 ·exact .inr ⟨g,cap,d,f,zL c h1,h2⟩
theorem Ak.grown0 {lo hi:Nat}{w b c:World}{row:Option Nat}(t:Ak lo hi w b)(a:b.grownBy c row)(d:∀ k,row=some k→w.heap.size≤k):Ak lo hi w c:=
 ⟨a.os.trans t.os,a.tape.trans t.tape,a.output.trans t.output,zL t.size a.size,fun k h1 h2=>(a.block k (zY h1 t.size) (fun e=>by have:=d k e.symm;omega)).trans (t.block k h1 h2)⟩
theorem Pp.grown0 {w a:World}{k:Nat}{ts:List Ae}{lo n:Nat}{v:Value}{f:List Value}(h:Pp w pb g c T tl ts k)(i:w.grownBy a v.ownBlock)(b:w.ownsRow lo 9 1 v n f):Pp a pb g c T tl ts k:=by
 have d:∀ q,q < w.heap.size→v.ownBlock≠some q→a.heap[q]? =w.heap[q]? :=fun q h1 h2=>i.block q h1 (fun e=>h2 e.symm);exact ⟨⟨(d pb h.row.lt (Ad h.row b (by decide))).trans h.row.out⟩,Ac h.toks (fun q hq=>d q (h.toks.lt q hq).2 (fun e=>Ap b h.toks (by decide) q e hq)),h.drop,h.len,h.small⟩
theorem Yp (hp: 17≤pb)(t:Ae)(r:List Ae)(w:World)(k:Nat)(h:Pp w pb g c T tl (t ::r) k)(C:Gy w aY):
  Calls Tryz.prog 196 #[.pointer (some ⟨pb,0,none⟩)] w (FH aY pb g c T tl (Kz t (Ga r)) w):=by
 have P:=Ab (Cc h);have E:=Ab C;have af:=CM (.int .i64 t.kind) (.int .i64 t.num) (.string t.text) (.int .i64 (t.at_:Int));have ag:=h.row.lt;rcases hR:Ga r with ⟨f,ah,q⟩
 have Q:=Ab hR;clear h C hR;go_enter Tryz.func196,Tryz.ntmps196
 go_wp2_with fail
 refine (Aa P).mono ?_;rintro e s ⟨rfl,F,m⟩;have H:=Ab (Uf (aY:=aY) hp r s _ F ((Aa E).touch m hp));have ai:=m.size;rw[Aa Q] at H;clear F;dsimp only[Dc];go_wp2_with fail
 refine (Aa H).mono ?_;rintro e R ⟨⟨i,a,j,aj,rfl,l,v,hl⟩ | ⟨i,b,rfl,n⟩,I⟩
 ·dsimp only at i l v hl;subst i;have J:=m.trans I;have S:=Ab (Aaw s.heap.size j a f R l (by omega));have U:=Ab v;clear v;dsimp only;go_wp2_with fail
  refine (Aa S).mono ?_;rintro e V ⟨rfl,o,x⟩;have W:=Ab ((Aa U).grown0 x l);have L:=J.grown0 x (fun q hq=>by have:=(l.lt q hq).1;omega);have X:=Ab (Aax s.heap.size j a f V o (by omega));clear l x J;dsimp only;go_wp2_with fail
  refine (Aa X).mono ?_;rintro e Y ⟨K,M,rfl,N,y⟩;have p:=(Aa W).grown0 y o;have z:=L.grown0 y (fun q hq=>by have:=(o.lt q hq).1;omega);have Z:=Ab ((Aa E).touch z hp);have aa:=Ab M;have ab:Y.ownsRow (pb+1) 9 1 (.slice a K.length j) K.length (K.map Value.string):=Cz N (by omega);clear M o N y L;cases hq:AM Bp q
  ·have A:=Ab (Eh p (Aa Z) Bp hq);have B:=Ab (show Kz t (f,true,q)= .bad q by
    rw[Kz,if_pos rfl];cases q with
    |nil=>rfl
    |cons u q=>exact if_neg (by rw[show see Bp u=false from hq];decide))
   clear p hq;dsimp only;go_wp2_with fail
   refine (Aa A).mono ?_;rintro e ac ⟨b,rfl,n,ad⟩;dsimp only[Ck];go_wp2_with fail
   go_ret2
   rw[Aa B];exact ⟨⟨_,b,rfl,.inr ⟨_,_,rfl⟩,n⟩,z.allP ad⟩
  ·obtain ⟨u,d,rfl⟩:∃ u d,q=u ::d:=by
    cases q with
    |nil=>cases hq
    |cons u d=>exact ⟨u,d,rfl⟩
   have A:=Ab (Dh p Bp hq);have B:=Ab (show Kz t (f,true,u ::d)= .ok (.set t.at_ f) d by rw[Kz,if_pos rfl];exact if_pos hq);clear p hq;dsimp only;go_wp2_with fail
   refine (Aa A).mono ?_;rintro e ac ⟨rfl,ae,O⟩;dsimp only;go_wp2_with fail
   go_ret2
   rw[Aa B];exact ⟨⟨.set t.at_ a K.length j K,_,rfl,⟨rfl,Aa aa⟩,Ex.own_touch O (.set t.at_ a K.length j K) ab,ae⟩,z.trans O⟩
 ·dsimp only at i n;subst i;dsimp only[Ck];go_wp2_with fail
  go_ret2
  exact ⟨⟨.nilIface,b,rfl,.inl rfl,n⟩,m.trans I⟩
end Go.Proofs.YtffkofkjpckmpaaGreatDoor
