/-
  GP, GQ, GN. Own work.
-/
import Derived.Test.YtoplnhndilmlcaaGreatDoorMXAQ
import Derived.Test.YtoplnhndilmlcaaGreatDoorMXAK
namespace Go.Proofs.YtoplnhndilmlcaaGreatDoor
set_option maxRecDepth 100000
set_option maxHeartbeats 6400000
open Go.RowKit
set_option linter.unusedVariables false
variable {aY : Addr} {pb g c : Nat} {T : List Ae} {tl : Nat}
def ScO (aY:Addr) (pb g c:Nat) (T:List Ae) (tl:Nat) (R:List ByteArray × Bool × List Ae) (w:World) (r:Ending) (w':World):Prop:=
 ((R.2.1=true∧∃ a cx k,r= .returned (.tuple #[.slice a R.1.length cx,.nilIface])∧w'.ownsRow w.heap.size 9 1 (.slice a R.1.length cx) R.1.length (R.1.map Value.string)∧Pp w' pb g c T tl R.2.2 k∧R.1.length≤4000)∨
   (R.2.1=false∧∃ b,r= .returned (.tuple #[.slice none 0 0,By b])∧Wx aY tl R.2.2 b w'))∧Ai pb (pb+1) w w'
def ScN (pb g c:Nat) (T:List Ae) (tl:Nat) (R:List ByteArray × Bool × List Ae) (w:World) (n:Nat) (v:Value) (wr:World):Prop:=
 ∃ a cx A r k,v= .slice a A.length cx∧wr.ownsRow w.heap.size 9 1 v A.length (A.map Value.string)∧Pp wr pb g c T tl r k∧H7 r A=R∧n=r.length∧A.length+r.length≤T.length∧Ai pb (pb+1) w wr
theorem AaY {r:List Ae}{b:Nat}(h: ¬ FT (CX b r))(a:List ByteArray):H7 r a=(a,false,r):=by
 match r with
 | []=>rfl
 | [t]=>rw[H7,if_neg (show ¬ FT t from h)]
 | t ::u ::q=>rw[H7,if_neg (show ¬ FT t from h)]
theorem Zg {t:Ae}{r:List Ae}(h:FT t)(hs:Aw Dr r=false)(a:List ByteArray):H7 (t ::r) a=(a ++ [t.text],true,r):=by
 match r with
 | []=>rw[H7,if_pos h]
 | u ::q=>rw[H7,if_pos h,if_neg (by rw[show see Dr u=false from hs];decide)]
theorem AaZ {t u:Ae}{r:List Ae}(h:FT t)(hs:see Dr u=true)(a:List ByteArray):H7 (t ::u ::r) a=H7 r (a ++ [t.text]):=by
 rw[H7,if_pos h,if_pos hs]
theorem Qm (a b c d:Value)(w:World):(Instr.field 93 (.agg #[a,b,c,d]) 2).run Tryz.prog w= .ok c w:=by
 simp[Instr.field,run_underlying Tryz.underlying93,Sem.run_bind,part,asAgg,isAgg,go_sem]
theorem Ai.grownP {lo hi:Nat}{w b c:World}{d:Obj}{row:Option Nat}(t:Ai lo hi w b)(a:(b.alloc d).grownBy c row)(f:∀ k,row=some k→w.heap.size≤k):Ai lo hi w c:=by
 have h0:=t.allP ((Below.refl b.heap.size b).alloc NLN d);exact ⟨a.os.trans h0.os,a.tape.trans h0.tape,a.output.trans h0.output,Nat.le_trans h0.size a.size,fun k h1 h2=>(a.block k (Nat.lt_of_lt_of_le h1 h0.size) (fun e=>by have:=f k e.symm;omega)).trans (h0.block k h1 h2)⟩
theorem Pp.grownP {w a:World}{k:Nat}{b:List Ae}{lo n:Nat}{v:Value}{j:List Value}{d:Obj}(h:Pp w pb g c T tl b k)(m:∀ q,v.ownBlock=some q→lo≤q)(l:(w.alloc d).grownBy a v.ownBlock)(f:w.ownsRow lo 9 1 v n j):Pp a pb g c T tl b k:=by
 have i:∀ q,q < w.heap.size→v.ownBlock≠some q→a.heap[q]? =w.heap[q]? :=fun q h1 h2=>(l.block q (by simp;omega) (fun e=>h2 e.symm)).trans (Below.heap_alloc w d q h1);exact ⟨⟨(i pb h.row.lt (Ad h.row f (by decide))).trans h.row.out⟩,Ac h.toks (fun q hq=>i q (h.toks.lt q hq).2 (fun e=>Ak f h.toks (by decide) q e hq)),h.drop,h.len,h.small⟩
theorem SF (aD: 16≤pb)(d:List Ae)(w:World)(k:Nat)(h:Pp w pb g c T tl d k)(R:Gy w aY):
  Calls Tryz.prog 176 #[.pointer (some ⟨pb,0,none⟩)] w (ScO aY pb g c T tl (FR d) w):=by
 have B:=Ab (AD h BT);have S:=Ab h;have aE:=Ab R;have nz:=h.row.lt;have ah:=h.len;cases hs:Aw BT d
 case true=>
  have K:=Ab hs;have j:=Ab (show FR d=([],true,d) by rw[FR,hs];rfl);clear hs h R ah;go_enter Tryz.func176,Tryz.ntmps176
  go_wp2_with fail
  refine (Aa B).mono ?_;rintro e aF ⟨rfl,o⟩;rw[Aa K];dsimp only;go_wp2_with fail
  go_ret2
  rw[Aa j];exact ⟨.inl ⟨rfl,none,0,k,rfl,World.ownsRow_nil _ _ _ _,(Aa S).below o,by simp⟩,Ai.of_below o NLN⟩
 case false=>
  have K:=Ab hs;have j:=Ab (show H7 d []=FR d by rw[FR,hs];rfl);have aG:=Ab (show d.length≤T.length by omega);have ai:=Ab h.small;clear hs h R ah;obtain ⟨i,hi,aH,aI,aJ⟩:=info_parts La;go_enter Tryz.func176,Tryz.ntmps176
  go_wp2_with fail
  refine (Aa B).mono ?_;rintro e aF ⟨rfl,o⟩;rw[Aa K];dsimp only;go_wp2_with fail
  go_loopw [4] (fun v wr=>∃ n,ScN pb g c T tl (FR d) w n v wr) (fun v wr=>BJ (fun n=>ScN pb g c T tl (FR d) w n v wr))
  case atStart=>exact ⟨d.length,none,0, [],d,k,rfl,World.ownsRow_nil _ _ _ _,(Aa S).below o,Aa j,rfl,by simpa using Aa aG,Ai.of_below o NLN⟩
  case round=>
   clear S B K j o;have aj:=Gu hrel;have ak:=Ab (show ∀ n L w',n < BJ (fun n=>ScN pb g c T tl (FR d) w n u4 wr)→ScN pb g c T tl (FR d) w n L w'→BJ (fun n=>ScN pb g c T tl (FR d) w n L w') < BJ (fun n=>ScN pb g c T tl (FR d) w n u4 wr) from fun n L w' h1 h2=>JB h1 h2);generalize al:BJ (fun n=>ScN pb g c T tl (FR d) w n u4 wr)=m at aj ak;have aK:=Ab al;clear al hrel;obtain ⟨a,ao,f,r,aQ,rfl,U,V,ap,hm,aq,z⟩:=aj;have W:=Ab (Bc V);have ar:=Ab V;have X:=Ab ap;have M:=Ab (And.intro hm aq);have aL:=Ab ((Aa aE).touch z aD);have aR:=z.size;clear V ap hm aq;by_cases x:FT (CX tl r)
   ·obtain ⟨t,s,rfl⟩:∃ t s,r=t ::s:=by
     cases r with
     | nil=>exact absurd x.1 (show ¬ (0 :Int)=2 by decide)
     | cons t s=>exact ⟨t,s,rfl⟩
    have N:FT t:=x;have e1:(t.kind != 2)=false:=by rw[N.1];rfl
    have e2:(t.text.toList== [])=false:=by
     cases hc:(t.text.toList== [])
     ·rfl
     ·have:t.text.toList=(Bg []).toList:=by rw[beq_iff_eq] at hc;rw[hc,ByteArray.toList_eq];rfl
      exact absurd ((KR _ _).1 (beq_iff_eq.2 this)) N.2
    have au:=Ab N;clear x N;go_wp2_with fail
    refine (Aa W).mono ?_;rintro e O ⟨rfl,p⟩;dsimp only[Cf,CX];have l:=p.alloc p.size (.cells #[.int .i64 t.kind,.int .i64 t.num,.string t.text,.int .i64 (t.at_:Int)] 93);have av:=Ab (Bm ((Aa ar).below l));have Y:=z.allP l;have C:(O.alloc (.cells #[.int .i64 t.kind,.int .i64 t.num,.string t.text,.int .i64 (t.at_:Int)] 93)).ownsRow w.heap.size 9 1 (.slice a f.length ao) f.length (f.map Value.string):=Ac U (fun q hq=>l.block q (U.lt q hq).2);have aS:=Qm (.int .i64 t.kind) (.int .i64 t.num) (.string t.text) (.int .i64 (t.at_:Int));go_wp2_with fail
    generalize O.alloc (.cells #[.int .i64 t.kind,.int .i64 t.num,.string t.text,.int .i64 (t.at_:Int)] 93)=aT at av Y C ⊢;refine (Aa av).mono ?_;rintro e P ⟨rfl,aw,Z⟩;have aa:=Y.trans Z;have E:P.ownsRow w.heap.size 9 1 (.slice a f.length ao) f.length (f.map Value.string):=Ac C (fun q hq=>Z.block q (C.lt q hq).2 (.inr (by have:=(C.lt q hq).1;omega)));clear U C l p Y Z z;have aU:=aa.size;have aV:f.length≤4000:=by have:=(Aa M).2;have:=Aa ai;simp at *;omega
    dsimp only[Cf];go_wp2_with (at_builtin;refine wpList_append_own _ rfl _ _ 78 rfl w.heap.size 9 i (.string ByteArray.empty) 1 16 Tryz.underlying78 hi aH aI aJ rfl (by decide) _ _ _ rfl (E.alloc _) ⟨P.heap.size,0,none⟩ 1 1 [.string t.text] rfl rfl ?c1 ?c2 ?c3 ?c4 ?c5 ?_)
    case c1=>exact cell_one_new _ _ _
    case c2=>intro u hu;simp at hu;subst hu;rfl
    case c3=>unfold maxLen;omega
    case c4=>omega
    case c5=>simp;omega
    intro L aW A ab _;have ac:=aw.grownP (fun q hq=>(E.lt q hq).1) ab E;have aM:=aa.grownP ab (fun q hq=>(E.lt q hq).1);obtain ⟨F,H,hf⟩:=AK A;rw[hf] at A ⊢;clear ab E hf aw aa;have B:=Ab (AD ac Dr);have ax:=Ab ac;clear ac;go_wp2_with fail
    refine (Aa B).mono ?_;rintro e aN ⟨rfl,Q⟩;have I:aN.ownsRow w.heap.size 9 1 (.slice F (f.length+1) H) (f.length+1) (f.map Value.string ++ [.string t.text]):=Ac A (fun q hq=>Q.block q (A.lt q hq).2);have ad:=aM.allP Q;have aO:=Ab (show f.length+1≤4000 by have:=(Aa M).2;have:=Aa ai;simp at *;omega);cases hs:Aw Dr s
    ·have j:=Ab (show FR d=(f ++ [t.text],true,s) by rw[← Aa X,Zg (Aa au) hs]);clear hs A;dsimp only;go_wp2_with fail
     go_ret2
     rw[Aa j];exact ⟨.inl ⟨rfl,F,H,_,by simp,by simpa using I,(Aa ax).below Q,by simpa using Aa aO⟩,ad⟩
    ·obtain ⟨u,y,rfl⟩:∃ u y,s=u ::y:=by
      cases s with
      | nil=>cases hs
      | cons u y=>exact ⟨u,y,rfl⟩
     have j:=Ab (show H7 y (f ++ [t.text])=FR d by rw[← Aa X,AaZ (Aa au) hs]);have aP:=Ab (Bm ((Aa ax).below Q));clear hs A;dsimp only;go_wp2_with fail
     refine (Aa aP).mono ?_;rintro e ay ⟨rfl,az,ae⟩;have aA:ay.ownsRow w.heap.size 9 1 (.slice F (f.length+1) H) (f.length+1) (f.map Value.string ++ [.string t.text]):=Ac I (fun q hq=>ae.block q (I.lt q hq).2 (.inr (by have:=(I.lt q hq).1;omega)));have aB:=Ab (show ScN pb g c T tl (FR d) w y.length (.slice F (f.length+1) H) ay from ⟨F,H,f ++ [t.text],y,_,by simp,by simpa using aA,az,Aa j,rfl,by have:=(Aa M).2;simp at this ⊢;omega,ad.trans ae⟩);clear I aA az ae ad;dsimp only[Cf];go_wp2_with fail
     go_roundw
     case rel=>exact ⟨_,Aa aB⟩
     case measure=>rw[Aa aK];exact Aa ak _ _ _ (by have:=(Aa M).1;simp at this;omega) (Aa aB)
   ·have j:=Ab (show FR d=(f,false,r) by rw[← Aa X,AaY x]);have aC:=Ab (fun w' (o:Below wr.heap.size wr w')=>CH ((Aa ar).below o) ((Aa aL).below o));by_cases J:(CX tl r).kind=2
    ·have e1:((CX tl r).kind != 2)=false:=by rw[J];rfl
     have e2:((CX tl r).text.toList== [])=true:=by
      have:(CX tl r).text=Bg []:=by
       by_cases h0:(CX tl r).text=Bg []
       ·exact h0
       ·exact absurd ⟨J,h0⟩ x
      rw[this,ByteArray.toList_eq];rfl
     clear x J;go_wp2_with fail
     refine (Aa W).mono ?_;rintro e O ⟨rfl,p⟩;generalize CX tl r=t at e1 e2;have l:=p.alloc p.size (.cells #[.int .i64 t.kind,.int .i64 t.num,.string t.text,.int .i64 (t.at_:Int)] 93);dsimp only[Cf];go_wp2_with fail
     refine (Aa aC _ l).mono ?_;rintro e P ⟨b,rfl,af,ag⟩;dsimp only[By];go_wp2_with fail
     go_ret2
     rw[Aa j];exact ⟨.inr ⟨rfl,b,rfl,af⟩,(z.allP l).allP ag⟩
    ·have e1:((CX tl r).kind != 2)=true:=bne_iff_ne.2 J;clear x J;go_wp2_with fail
     refine (Aa W).mono ?_;rintro e O ⟨rfl,p⟩;generalize CX tl r=t at e1;have l:=p.alloc p.size (.cells #[.int .i64 t.kind,.int .i64 t.num,.string t.text,.int .i64 (t.at_:Int)] 93);dsimp only[Cf];go_wp2_with fail
     refine (Aa aC _ l).mono ?_;rintro e P ⟨b,rfl,af,ag⟩;dsimp only[By];go_wp2_with fail
     go_ret2
     rw[Aa j];exact ⟨.inr ⟨rfl,b,rfl,af⟩,(z.allP l).allP ag⟩
end Go.Proofs.YtoplnhndilmlcaaGreatDoor
namespace Go.Proofs.YtoplnhndilmlcaaGreatDoor
set_option maxRecDepth 100000
set_option maxHeartbeats 3200000
open Go.RowKit Go.Lib Go.Sort
set_option linter.unusedVariables false
variable {aY : Addr} {pb g c : Nat} {T : List Ae} {tl : Nat}
def JC (t:Ae) (R:List ByteArray × Bool × List Ae):PR:=if R.2.1=true then (match R.2.2 with | []=> .bad [] | u ::q=>if see BT u=true then .ok (.set t.at_ R.1) q else .bad (u ::q)) else .bad R.2.2
theorem Zh (d c:Nat)(a:Option Addr)(b:List ByteArray)(w:World)(h:w.ownsRow d 9 1 (.slice a b.length c) b.length (b.map Value.string))(i:b.length≤1048576):
  Calls Tryz.prog 177 #[.slice a b.length c] w fun e w'=>e= .returned (.tuple #[])∧w'.ownsRow d 9 1 (.slice a b.length c) b.length (((b.map Al).mergeSort fun x y=>decide (x≤y)).map encStr)∧w.grownBy w' (Value.slice a b.length c).ownBlock:=by
 by_cases h0:b.length=0
 ·have e:b= []:=List.eq_nil_of_length_eq_zero h0;subst e;refine (Tryz.slices_Sort_string_none a c w).mono ?_;rintro e w' ⟨rfl,rfl⟩;exact ⟨rfl,by simpa using h,World.grownBy.refl _ _⟩
 ·obtain ⟨x,o,j,hx⟩:=Af h;obtain ⟨f,k,_⟩:=hx (by omega);have l:a=some ⟨f,0,none⟩:=by
   injection j with h1;rw[h1];exact k
  subst l;have g:=h;rw[← Y5] at g;refine (WW d f b.length c (b.map Al) w g i).mono ?_;rintro e w' ⟨rfl,m,n⟩;exact ⟨rfl,m,n⟩
theorem Zi (f c:Nat)(a:Option Addr)(b:List ByteArray)(w:World)(h:w.ownsRow f 9 1 (.slice a b.length c) b.length (((b.map Al).mergeSort fun x y=>decide (x≤y)).map encStr))(i:b.length≤1048576):
  Calls Tryz.prog 178 #[.slice a b.length c] w fun e w'=>∃ K,Bz b K∧e= .returned (.slice a K.length c)∧w'.ownsRow f 9 1 (.slice a K.length c) K.length (K.map Value.string)∧w.grownBy w' (Value.slice a b.length c).ownBlock:=by
 by_cases h0:b.length=0
 ·have e:b= []:=List.eq_nil_of_length_eq_zero h0;subst e;refine (Tryz.slices_Compact_string_empty a c w).mono ?_;rintro e w' ⟨rfl,rfl⟩;exact ⟨[],⟨rfl,fun x=>Iff.rfl⟩,rfl,by simpa using h,World.grownBy.refl _ _⟩
 ·obtain ⟨x,n,j,hx⟩:=Af h;obtain ⟨g,k,_⟩:=hx (by omega);have l:a=some ⟨g,0,none⟩:=by
   injection j with h1;rw[h1];exact k
  subst l;refine (Qn f g b.length c _ w h i).mono ?_;rintro e w' ⟨rfl,d,m⟩;have hs:=FS b;rw[← Y6] at d
  change Bz b ((Li b).map Bg) at hs
  have e3:(Lib.compact ((b.map Al).mergeSort fun x y=>decide (x≤y)))=Li b:=rfl;rw[e3] at d ⊢;have e4:(Li b).length=((Li b).map Bg).length:=(List.length_map _).symm;rw[e4] at d ⊢;exact ⟨_,hs,rfl,d,m⟩
theorem CB {w:World}{B a n size:Nat}{e:TypeId}{v:Value}{b:List Value}(h:w.ownsRow B e size v n b)(c:a≤B):w.ownsRow a e size v n b:=by
 refine ⟨h.1, ?_⟩;rcases h.2 with h0 | ⟨g,cap,d,f,h1,h2⟩
 ·exact .inl h0
 ·exact .inr ⟨g,cap,d,f,Nat.le_trans c h1,h2⟩
theorem Ai.grown0 {lo hi:Nat}{w b c:World}{row:Option Nat}(t:Ai lo hi w b)(a:b.grownBy c row)(d:∀ k,row=some k→w.heap.size≤k):Ai lo hi w c:=
 ⟨a.os.trans t.os,a.tape.trans t.tape,a.output.trans t.output,Nat.le_trans t.size a.size,fun k h1 h2=>(a.block k (Nat.lt_of_lt_of_le h1 t.size) (fun e=>by have:=d k e.symm;omega)).trans (t.block k h1 h2)⟩
theorem Pp.grown0 {w a:World}{k:Nat}{b:List Ae}{lo n:Nat}{v:Value}{i:List Value}(h:Pp w pb g c T tl b k)(j:w.grownBy a v.ownBlock)(d:w.ownsRow lo 9 1 v n i):Pp a pb g c T tl b k:=by
 have f:∀ q,q < w.heap.size→v.ownBlock≠some q→a.heap[q]? =w.heap[q]? :=fun q h1 h2=>j.block q h1 (fun e=>h2 e.symm);exact ⟨⟨(f pb h.row.lt (Ad h.row d (by decide))).trans h.row.out⟩,Ac h.toks (fun q hq=>f q (h.toks.lt q hq).2 (fun e=>Ak d h.toks (by decide) q e hq)),h.drop,h.len,h.small⟩
theorem WX (s: 16≤pb)(t:Ae)(r:List Ae)(w:World)(k:Nat)(h:Pp w pb g c T tl (t ::r) k)(E:Gy w aY):
  Calls Tryz.prog 175 #[.pointer (some ⟨pb,0,none⟩)] w (EW aY pb g c T tl (JC t (FR r)) w):=by
 have Q:=Ab (Bm h);have F:=Ab E;have ah:=Cp (.int .i64 t.kind) (.int .i64 t.num) (.string t.text) (.int .i64 (t.at_:Int));have nz:=h.row.lt;rcases hR:FR r with ⟨f,ai,q⟩
 have R:=Ab hR;clear h E hR;go_enter Tryz.func175,Tryz.ntmps175
 go_wp2_with fail
 refine (Aa Q).mono ?_;rintro e v ⟨rfl,H,m⟩;have I:=Ab (SF (aY:=aY) s r v _ H ((Aa F).touch m s));have aj:=m.size;rw[Aa R] at I;clear H;dsimp only[Cf];go_wp2_with fail
 refine (Aa I).mono ?_;rintro e S ⟨⟨i,a,j,ak,rfl,l,x,U⟩ | ⟨i,b,rfl,n⟩,J⟩
 ·dsimp only at i l x U;subst i;have L:=m.trans J;have V:=Ab (Zh v.heap.size j a f S l (by omega));have W:=Ab x;clear x;dsimp only;go_wp2_with fail
  refine (Aa V).mono ?_;rintro e X ⟨rfl,o,y⟩;have Y:=Ab ((Aa W).grown0 y l);have M:=L.grown0 y (fun q hq=>by have:=(l.lt q hq).1;omega);have Z:=Ab (Zi v.heap.size j a f X o (by omega));clear l y L;dsimp only;go_wp2_with fail
  refine (Aa Z).mono ?_;rintro e aa ⟨K,N,rfl,O,z⟩;have p:=(Aa Y).grown0 z o;have A:=M.grown0 z (fun q hq=>by have:=(o.lt q hq).1;omega);have ab:=Ab ((Aa F).touch A s);have ac:=Ab N;have ad:aa.ownsRow (pb+1) 9 1 (.slice a K.length j) K.length (K.map Value.string):=CB O (by omega);clear N o O z M;cases hq:Aw BT q
  ·have B:=Ab (DF p (Aa ab) BT hq);have C:=Ab (show JC t (f,true,q)= .bad q by
    rw[JC,if_pos rfl];cases q with
    | nil=>rfl
    | cons u q=>exact if_neg (by rw[show see BT u=false from hq];decide))
   clear p hq;dsimp only;go_wp2_with fail
   refine (Aa B).mono ?_;rintro e ae ⟨b,rfl,n,af⟩;dsimp only[By];go_wp2_with fail
   go_ret2
   rw[Aa C];exact ⟨⟨_,b,rfl,.inr ⟨_,_,rfl⟩,n⟩,A.allP af⟩
  ·obtain ⟨u,d,rfl⟩:∃ u d,q=u ::d:=by
    cases q with
    | nil=>cases hq
    | cons u d=>exact ⟨u,d,rfl⟩
   have B:=Ab (CI p BT hq);have C:=Ab (show JC t (f,true,u ::d)= .ok (.set t.at_ f) d by rw[JC,if_pos rfl];exact if_pos hq);clear p hq;dsimp only;go_wp2_with fail
   refine (Aa B).mono ?_;rintro e ae ⟨rfl,ag,P⟩;dsimp only;go_wp2_with fail
   go_ret2
   rw[Aa C];exact ⟨⟨.set t.at_ a K.length j K,_,rfl,⟨rfl,Aa ac⟩,Ex.own_touch P (.set t.at_ a K.length j K) ad,ag⟩,A.trans P⟩
 ·dsimp only at i n;subst i;dsimp only[By];go_wp2_with fail
  go_ret2
  exact ⟨⟨.nilIface,b,rfl,.inl rfl,n⟩,m.trans J⟩
end Go.Proofs.YtoplnhndilmlcaaGreatDoor
namespace Go.Proofs.YtoplnhndilmlcaaGreatDoor
set_option maxRecDepth 100000
set_option maxHeartbeats 3200000
open Go.RowKit
set_option linter.unusedVariables false
variable {aY : Addr} {pb g c : Nat} {T : List Ae} {tl : Nat}
theorem WV (E: 16≤pb)(o:List Ae)(x:PR)(d:D .cmp o x)(k:∀ r x,D (.opd 4) r x→r.length≤o.length→CS aY pb g c T tl (.opd 4) r x):CS aY pb g c T tl .cmp o x:=by
 intro w F h l;show Calls Tryz.prog 172 #[.pointer (some ⟨pb,0,none⟩)] w (EW aY pb g c T tl x w);have U:(∃ q,D (.opd 4) o (.bad q)∧x= .bad q)∨(∃ a r,D (.opd 4) o (.ok a r)∧OF 4 r=none∧x= .ok a r)∨(∃ a t r op y,D (.opd 4) o (.ok a (t ::r))∧Co 4 t=some op∧D (.opd 4) r y∧x=y.two t.at_ op a):=by
  cases d with
  | cmp_bad d=>exact .inl ⟨_,d,rfl⟩
  | cmp_one d h=>exact .inr (.inl ⟨_,_,d,h,rfl⟩)
  | cmp_two_bad d h d2=>exact .inr (.inr ⟨_,_,_,_,_,d,h,d2,rfl⟩)
  | cmp_two d h d2=>exact .inr (.inr ⟨_,_,_,_,_,d,h,d2,rfl⟩)
 have H:=Ab l;clear d;rcases U with ⟨q,d,rfl⟩ | ⟨a,r,d,N,rfl⟩ | ⟨a,t,r,op,y,d,O,d2,rfl⟩
 ·have z:Hid (Calls Tryz.prog 165 #[.pointer (some ⟨pb,0,none⟩),.int .i64 4] w (EW aY pb g c T tl (.bad q) w)):=Ab (k _ _ d NLN w F h l);clear h l k d;go_enter Tryz.func172,Tryz.ntmps172
  go_wp2_with fail
  refine (Aa z).mono ?_;rintro A f ⟨⟨v,b,rfl,P,R⟩,i⟩;rcases P with rfl | ⟨ac,ad,rfl⟩
  all_goals
   dsimp only[By];go_wp2_with fail
   go_ret2
   exact ⟨⟨.nilIface,b,rfl,.inl rfl,R⟩,i⟩
 ·have z:Hid (Calls Tryz.prog 165 #[.pointer (some ⟨pb,0,none⟩),.int .i64 4] w (EW aY pb g c T tl (.ok a r) w)):=Ab (k _ _ d NLN w F h l);have I:=Ab (show Co 4 (CX tl r)=none by rw[← Ul];exact N);clear h l k d N;go_enter Tryz.func172,Tryz.ntmps172
  go_wp2_with fail
  refine (Aa z).mono ?_;rintro A f ⟨⟨j,J,rfl,he,B,m⟩,i⟩;have K:Hid (Calls Tryz.prog 166 #[.pointer (some ⟨pb,0,none⟩),.int .i64 4] f fun e w'=>Ze 4 (CX tl r) e∧Below f.heap.size f w'):=Ab (ED (aY:=aY) 4 m ((Aa H).touch i E));have V:=Ab m;have Q:=Ab (And.intro he B);obtain ⟨W,X,p⟩:=j.form;have Y:=Ab p;rw[p];clear he B m p;dsimp only;go_wp2_with fail
  refine (Aa K).mono ?_;rintro A Z ⟨C,s⟩;rw[Ze,Aa I] at C;subst C;dsimp only;go_wp2_with fail
  go_ret2
  have n:=s.alloc s.size (.cells #[.int .i64 0,.int .i64 0,.string ⟨#[]⟩] 187);exact ⟨⟨j,J,by rw[Aa Y];rfl,(Aa Q).1,j.own_touch (Ai.of_below n NLN) (Aa Q).2,(Aa V).below n⟩,i.allP n⟩
 ·have z:Hid (Calls Tryz.prog 165 #[.pointer (some ⟨pb,0,none⟩),.int .i64 4] w (EW aY pb g c T tl (.ok a (t ::r)) w)):=Ab (k _ _ d NLN w F h l);have aa:=Ab (k r y d2 (by have:=d.less rfl;simp at this;omega));have I:=Ab (show Co 4 (CX tl (t ::r))=some op from O);clear h l k d d2 O;go_enter Tryz.func172,Tryz.ntmps172
  go_wp2_with fail
  refine (Aa z).mono ?_;rintro A f ⟨⟨j,J,rfl,he,B,m⟩,i⟩;have K:Hid (Calls Tryz.prog 166 #[.pointer (some ⟨pb,0,none⟩),.int .i64 4] f fun e w'=>Ze 4 (CX tl (t ::r)) e∧Below f.heap.size f w'):=Ab (ED (aY:=aY) 4 m ((Aa H).touch i E));have S:Hid (∀ w' u,Below f.heap.size f w'→Calls Tryz.prog 167 #[.pointer (some ⟨pb,0,none⟩),.agg #[.int .i64 op,.int .i64 4,.string u],j.val] w' (EW aY pb g c T tl (y.two t.at_ op a) w')):=Ab (fun w' u L=>J9 E 4 op u j a t r y w' J (m.below L) (((Aa H).touch i E).below L) he (j.own_touch (Ai.of_below L NLN) B) (Aa aa));obtain ⟨W,X,p⟩:=j.form;rw[p] at S ⊢;clear he B m p;dsimp only;go_wp2_with fail
  refine (Aa K).mono ?_;rintro A Z ⟨C,s⟩;rw[Ze,Aa I] at C;obtain ⟨u,rfl⟩:=C;dsimp only;have n:=s.alloc s.size (.cells #[.int .i64 op,.int .i64 4,.string u] 187);go_wp2_with fail
  refine (Aa S _ u n).mono ?_;intro A ae M;obtain ⟨v,e,rfl,P,he⟩:=M.form;have ab:=Ab (M.from (i.allP n));clear M n s;dsimp only;go_wp2_with fail
  go_ret2
  exact Aa ab
end Go.Proofs.YtoplnhndilmlcaaGreatDoor
