/-
  ECJ, ECP, ECQ. Own work.
-/
import Derived.Test.YtchakjeegneeoaaGreatDoorMXBA
import Derived.Test.YtchakjeegneeoaaGreatDoorMXAV
import Derived.Test.YtchakjeegneeoaaGreatDoorMXAX
import Derived.Test.YtchakjeegneeoaaGreatDoorMXBD
import Derived.Test.YtchakjeegneeoaaGreatDoorMXBF
import Derived.Test.YtchakjeegneeoaaGreatDoorMXBG
namespace Go.Proofs.YtchakjeegneeoaaGreatDoor
set_option maxRecDepth 100000
set_option maxHeartbeats 3200000
open Go.RowKit
set_option linter.unusedVariables false
theorem Mt (E F H:Addr)(B b mb:Nat)(st:Cs)(lv x:Value)(n:World)(ac:KM n E)(ad:MG n F H)(hB:n.heap.size≤B)(L:List Sx)(m g aE:Nat)(ae:Array Value)(w:World)
  (af:L.length=m)(ag:Wst st)(ah:st.2.1.length+m≤1000)(ai:∀ s∈L,okO s.cond∧okO s.grant)(aj:st.2.2.length+CI L≤4000)
  (ak:Below B n w)(h:Cx B b mb st.1 st.2.1 st.2.2 lv x w)(R:Al w g ae 119)(al:∀ (r:Nat) (u:Value),(Hj L)[r]? =some u→ae[r]? =some u)(g1:g≠b)(g2:g≠mb)(g3:lv.ownBlock≠some g)(g4:x.ownBlock≠some g):
  Calls Tryz.prog 61 #[.pointer (some ⟨b,0,none⟩),.slice (some ⟨g,0,none⟩) m aE] w (GoX E F H B b mb lv x (EK st L) w):=by
 have ao:=Ab af;have aF:=Ab ai;have aG:=Ab al;have aH:=Ab aj;have aI:=Ab ag;have aJ:=Ab ah;have ap:=Ab ak;have a7:m≤1000:=by omega
 clear af ai al aj ag ah ak;have aK:B≤w.heap.size:=by have:=h.C.low;have:=h.C.row.lt;omega
 go_enter Tryz.func61,Tryz.ntmps61
 go_wp2_with fail
 go_loopw [11] (fun i wr=>∃ (k:Nat) (a:Cs) (UO y:Value),k≤m∧i= .int .i64 k∧Hid (EK st (L.take k)= .ok a)∧Cx B b mb a.1 a.2.1 a.2.2 UO y wr∧Kd B b mb lv x w UO y wr) (fun i _=>m - (intOf i).toNat)
 case atStart=>exact ⟨0,st,lv,x,by omega,rfl,Ab rfl,h,Kd.refl _ _ _ _ _ _⟩
 case round=>
  obtain ⟨k,a,UO,y,hk,rfl,I,o,J⟩:=hrel;by_cases N:k < m
  ·have a8:(k:Int) < (m:Int):=by omega
   have p:k < L.length:=by rw[Aa ao];exact N
   obtain ⟨O,q3,q4⟩:=J.row R g1 g2 g3 g4;have q:∀ r,r < 5→∀ u,(Nq L[k])[r]? =some u→wr.cell? ⟨g,k * 5+r,none⟩=some u:=fun r aL u aM=>by
    rw[O.cell];refine Aa aG _ _ ?_;rw[Nr L k p r aL];exact aM
   have c0:=q 0 (by decide) _ rfl;have c1:=q 1 (by decide) _ rfl;have c2:=q 2 (by decide) _ rfl;have c3:=q 3 (by decide) _ rfl;have c4:=q 4 (by decide) _ rfl;simp only[zZ] at c0;obtain ⟨aN,aq,ar⟩:=Np (Aa I);have room:=Xy L k p;have P:=ar (Aa aI);have aO:=Aa aH;have aP:=Aa aJ;have aQ:a.2.1.length≤999:=by rw[zb] at aq;omega
   obtain ⟨au,av⟩:=Aa aF L[k] (zO p);have Q:=Ab (show ∀ t,G6 a L[k]= .ok t→EK st (L.take (k+1))= .ok t from fun t e=>by rw[zf p,PN,Aa I];exact e);have K:=Ab (show ∀ f,G6 a L[k]= .error f→EK st L= .error f from fun f e=>U5 L st (k+1) (by rw[zf p,PN,Aa I];exact e));have aw:=Ab N;have a9:=O.lt;have S:=J.low;have T:B≤wr.heap.size:=zD aK S.size;have aR:wr.heap.size≠b:=by have:=o.C.row.lt;omega
   have aS:wr.heap.size≠mb:=by have:=o.M.lt;omega
   have aT:UO.ownBlock≠some wr.heap.size:=fun e=>by have:=(o.C.lets.lt _ e).2;omega
   have aU:y.ownBlock≠some wr.heap.size:=fun e=>by have:=(o.C.types.lt _ e).2;omega
   have d:=Ab (fun W U V=>Nn E F H B b mb a UO y n ac ad hB P (by omega) L[k] au W U V (by omega));have c:=Ab (fun (t:Cs) (h2:E8 a L[k]= .ok t) Wt X W U V=>U4 E F H B b mb t Wt X n ac ad hB ((IK h2).2.2 P) (by have:=(IK h2).2.1;omega) L[k] av W U V (by have:=(IK h2).1;omega));clear q O N au av room aN aq ar P aO aP aQ;have j:=Ab (show G6 a L[k]=(E8 a L[k]).bind fun aV=>DA aV L[k] from rfl);generalize L[k]=s at c0 c1 c2 c3 c4 Q K d c j;clear p;have ax:=GO s.cond;have ay:=GO s.grant;generalize G6 a s=ba at Q K j;generalize E8 a s=bb at d c j;generalize DA=bc at c j;generalize Bu s.cond=bd at c3 d c ax;generalize Bu s.grant=bf at c4 d c ay;generalize s.kind=bg at c1 d c;generalize s.name=nm at c2 d c;generalize s.at'=bh at c0 d c;rcases ax with rfl | ⟨bi,u3,rfl⟩ <;> rcases ay with rfl | ⟨bj,u4,rfl⟩
   all_goals
    go_wp2_with fail
    refine (Aa d _ ?_ (o.below (BRN.alloc NLN _))).mono ?_
    ·exact ((Aa ap).trans S).alloc T _
    rintro r w2 (⟨aW,aX,aY,Wt,X,v,rfl,aZ,Y⟩ | ⟨z,Z,v,rfl,aa,a0⟩)
    ·have az:=Ab v;obtain ⟨aA,_,_⟩:=Y.row (Al.new wr _ _) aR aS aT aU;obtain ⟨bk,bl,bm,bn,bo⟩:=Gr aA;have ab:=(J.trans (Kd.of_all (BRN.alloc NLN _) T)).trans Y;have a1:=(Aa ap).trans ab.low;have a2:=Ab (Aa c (aW,aX,aY) v Wt X w2 a1 aZ);clear v Y aA;dsimp only;go_wp2_with fail
     refine (Aa a2).mono ?_;rintro r bp (⟨aB,aC,aD,lv3,a3,A,rfl,a4,a5⟩ | ⟨z,Z,A,rfl,aa,a6⟩)
     ·have l:=Ab (Aa Q (aB,aC,aD) (by rw[Aa j,Aa az];exact A));clear A;dsimp only;go_wp2_with fail
      go_roundw
      case rel=>exact ⟨k+1,(aB,aC,aD),lv3,a3,Aa aw,by go_num,l,a4,ab.trans a5⟩
      case measure=>have:=Aa aw;simp[intOf];omega
     ·have l:=Ab (Aa K z (by rw[Aa j,Aa az];exact A));clear A;dsimp only;go_wp2_with fail
      go_ret
      exact .inr ⟨z,Z,Aa l,rfl,aa,ab.low.trans a6⟩
    ·have l:=Ab (Aa K z (by rw[Aa j,v];rfl));clear v;dsimp only;go_wp2_with fail
     go_ret
     exact .inr ⟨z,Z,Aa l,rfl,aa,(S.alloc T _).trans a0⟩
  ·have e:k=m:=by omega
   subst e;have l:=Ab (show EK st L= .ok a by rw[← Aa I,← Aa ao,z3]);go_wp2_with fail
   go_ret
   exact .inl ⟨_,_,_,_,_,Aa l,rfl,o,J⟩
theorem BV {w:World} :∀ (e:Ex),e.fit w→e.written
 | .int ..,_=>trivial
 | .text ..,_=>trivial
 | .bool ..,_=>trivial
 | .set ..,_=>trivial
 | .name ..,_=>trivial
 | .attr ..,h=>h
 | .lett ..,h=>h
 | .un _ _ k,h=>⟨h.1,BV k h.2⟩
 | .bin _ _ l r,h=>⟨h.1,BV l h.2.1,BV r h.2.2⟩
 | .ite _ c t e,h=>⟨BV c h.1,BV t h.2.1,BV e h.2.2⟩
theorem DY {w:World} :∀ (e:Ex),e.fit w→e.sok w
 | .int ..,_=>trivial
 | .text ..,_=>trivial
 | .bool ..,_=>trivial
 | .set ..,h=>⟨h.1,by have:=h.1.len;have:=h.2.1;omega⟩
 | .name ..,_=>trivial
 | .attr ..,h=>trivial
 | .lett ..,h=>trivial
 | .un _ _ k,h=>DY k h.2
 | .bin _ _ l r,h=>⟨DY l h.2.1,DY r h.2.2⟩
 | .ite _ c t e,h=>⟨DY c h.1,DY t h.2.1,DY e h.2.2⟩
theorem QP {Es:List Ex}{w:World}(h:∀ e∈Es,e.fit w)(k:Int):okO (Cn Es k)∧Jt w (Cn Es k):=by
 have:=Zq h k;cases a:Cn Es k with
 |none=>exact ⟨trivial,trivial⟩
 |some e=>rw[a] at this;exact ⟨BV e this,DY e this⟩
theorem EL (Es:List Ex):∀ (L:List St),(∀ s∈L,Bh Es s.cond+Bh Es s.grant=((Ak s).map (Bh Es)).sum)→Dt Es L=((L.flatMap Ak).map (Bh Es)).sum
 | [],_=>rfl
 |s ::L,h=>by
  have a:=EL Es L (fun x hx=>h x (zY _ hx));have h1:=h s (zT ..);have e:Dt Es (s ::L)=Bh Es s.cond+Bh Es s.grant+Dt Es L:=by simp[Dt]
  rw[e,h1,a,zn,zU,List.sum_append]
theorem Zr {N:List Nd}{L:List St}(h:Bo N L=true){Es:List Ex}(d:Es.length=N.length)(f:∀ j,(h:j < Es.length)→Ds N j Es[j]):Dt Es L≤4000:=by
 have W:=Fv h;have o:=W.n;simp only[Bo,zI,zG] at h;obtain ⟨⟨⟨h1,⟨h2,h3⟩,h4⟩,h5⟩,h6⟩:=h;obtain ⟨S,i,ht⟩:∃ S,CB (N.map Nd.kids) N.length [] 0=some S∧Aq S=L.flatMap Ak:=by
  rw[Ey] at h6;cases hq:CB (N.map Nd.kids) N.length [] 0 with
  |none=>rw[hq] at h6;cases h6
  |some S=>rw[hq] at h6;exact ⟨S,rfl,of_decide_eq_true h6⟩
 obtain ⟨b,_⟩:=EM N.length (.nil 0) (fun p hp=>(by cases hp)) i;rw[zX] at b;have e1:∀ s∈L,Bh Es s.cond+Bh Es s.grant=((Ak s).map (Bh Es)).sum:=fun s hs=>by
  have c0:Bh Es (-1)=0:=rfl;have l:Bh Es s.grant=((if s.grant≠-1 then [s.grant] else []).map (Bh Es)).sum:=by
   by_cases g:s.grant= -1
   ·rw[if_neg (fun k=>k g),g];rfl
   ·rw[if_pos g];simp
  rw[Ak,zU,List.sum_append,← l]
  congr 1
  by_cases c:s.kind=3
  ·rw[if_neg (fun k=>k c)];rcases W.stm s hs with q | q | q
   ·omega
   ·omega
   ·rw[q.2];rfl
  ·rw[if_pos c];simp
 rw[EL Es L e1,← ht];have a:∀ q∈S,q.1 < Es.length:=fun q hq=>by rw[d];exact (b.lt q hq).2
 have r:=Ju b (S.attach.map (fun q=>Es[q.1.1]'(a q.1 q.2))) (by simp) (fun j h1 h2=>by
  have:=f (S[j]).1 (a _ (zO h1));simpa using this)
 have e2:(Aq S).map (Bh Es)=(S.attach.map (fun q=>Es[q.1.1]'(a q.1 q.2))).map Ex.cnt:=by
  apply List.ext_getElem
  ·simp[Aq]
  ·intro j h1 h2;have m:j < S.length:=by simpa[Aq] using h1
   have hq:=a S[j] (zO m);simp only[Aq,List.getElem_map,List.getElem_attach];exact EI rfl (zH hq)
 rw[e2];have e3:((S.attach.map (fun q=>Es[q.1.1]'(a q.1 q.2))).map Ex.cnt).sum=Jv (S.attach.map (fun q=>Es[q.1.1]'(a q.1 q.2))):=rfl;rw[e3];omega
abbrev UP:=Except (Int × Int) (List Nd × List St × List Int)
def ckP (Es:List Ex) (L:List St):UP:=match EK (Dj, [], []) (Id Es 0 L) with
 | .error f=> .error f
 | .ok st=> .ok (AK 0 ((Id Es 0 L).map (Sm st.1)),Cu 0 ((Id Es 0 L).map (Sm st.1)),st.2.2)
def AbB (N:List Nd) (L:List St) (r:UP):Prop:=
 (Bo N L=false∧r= .error (10,0))∨(Bo N L=true∧∃ Es:List Ex,Es.length=N.length∧(∀ j,(h:j < Es.length)→Ds N j Es[j])∧r=ckP Es L)
def CkO (aX aT aN aA:Addr) (r:UP) (w:World) (e:Ending) (w':World):Prop:=
 (r= .error (10,0)∧e= .returned (.tuple #[.agg #[.slice none 0 0,.slice none 0 0,.slice none 0 0],.iface 276 (.pointer (some aX))]))∨
 (∃ f g,r= .error f∧(7≤f.1∧f.1≤9)∧e= .returned (.tuple #[.agg #[.slice none 0 0,.slice none 0 0,.slice none 0 0],.iface 107 (.pointer (some ⟨g,0,none⟩))])∧ErO aT aN aA f g w')∨
 (∃ N L T x n cx y m cy z p cz nv kv,r= .ok (N,L,T)∧e= .returned (.tuple #[.agg #[.slice x n cx,.slice y m cy,.slice z p cz],.nilIface])∧Ee w' w.heap.size w'.heap.size x n cx y m cy z p cz N nv kv L T)
def Jb (D:List Dc) (S:List Sx) (k:Nat):List Sx:=(S.take k).map (Sm D) ++S.drop k
theorem SM (D:List Dc)(S:List Sx)(k:Nat):(Jb D S k).length=S.length:=by simp[Jb];omega
theorem AbC (D:List Dc)(S:List Sx)(k:Nat)(h:k < S.length):(Jb D S k)[k]? =some S[k]:=by
 rw[Jb,Z7 (by simp;omega)];simp[List.getElem?_drop,Nat.min_eq_left (Nat.le_of_lt h),List.getElem?_eq_getElem h]
theorem XA (D:List Dc)(S:List Sx)(k:Nat)(h:k < S.length):Jb D S (k+1)=(Jb D S k).set k (Sm D S[k]):=by
 unfold Jb;rw[zf h,zU,yD _ _ (by simp;omega)];have e:S.drop k=S[k] ::S.drop (k+1):=by rw[List.getElem_cons_drop]
 have l:k - ((S.take k).map (Sm D)).length=0:=by simp;omega
 rw[l,e,zw];simp
theorem Wx:∀ (S:List Sx) (j:Nat) (h:j < S.length) (y:Sx),Hj (S.set j y)=(((((Hj S).set (j * 5) (.int .i64 y.at')).set (j * 5+1) (.int .i64 y.kind)).set (j * 5+2) (.string y.name)).set (j * 5+3) (Bu y.cond)).set (j * 5+4) (Bu y.grant)
 |x ::S,0,h,y=>by simp[Hj,Nq]
 |x ::S,j+1,h,y=>by
  have b:=Wx S j (by simpa using h) y;have e:∀ (r:Nat) (a:List Value) (v:Value),(Nq x ++a).set ((j+1) * 5+r) v=Nq x ++a.set (j * 5+r) v:=fun r a v=>by
   rw[yD _ _ (by simp[Nq];omega)]
   congr 2
   simp[Nq];omega
  have c:∀ (a:List Value) (v:Value),(Nq x ++a).set ((j+1) * 5) v=Nq x ++a.set (j * 5) v:=fun a v=>e 0 a v;have c1:Hj (x ::S)=Nq x ++Hj S:=by simp[Hj]
  have c2:Hj ((x ::S).set (j+1) y)=Nq x ++Hj (S.set j y):=by simp[Hj]
  rw[c1,c2,b,c,e 1,e 2,e 3,e 4]
 | [],_,h,_=>absurd h (by simp)
def LY (A:List Value) (cur:Array Value):Prop:=∀ (r:Nat) (u:Value),A[r]? =some u→cur[r]? =some u
theorem LY.set {b:List Value}{c:Array Value}(h:LY b c)(i:Nat)(v:Value):LY (b.set i v) (c.setIfInBounds i v):=fun r u a=>by
 by_cases e:i=r
 ·subst e;by_cases d:i < b.length
  ·rw[List.getElem?_set_self d] at a;have:=(yC.1 (h i b[i] (zH d))).1;simpa[Array.getElem?_setIfInBounds,this] using a
  ·rw[yB (by simp;omega)] at a;cases a
 ·rw[zv e] at a;have:=h r u a;simpa[Array.getElem?_setIfInBounds,e] using this
theorem Vd {D:List Dc}{S:List Sx}{k:Nat}{a:Array Value}(h:LY (Hj (Jb D S k)) a)(hk:k < S.length):
  LY (Hj (Jb D S (k+1))) (((((a.setIfInBounds (k * 5) (.int .i64 S[k].at')).setIfInBounds (k * 5+1) (.int .i64 S[k].kind)).setIfInBounds (k * 5+2) (.string S[k].name)).setIfInBounds (k * 5+3) (Bu (Pi D S[k].cond))).setIfInBounds (k * 5+4) (Bu (Pi D S[k].grant))):=by
 rw[XA D S k hk,Wx _ k (by rw[SM];exact hk)];exact ((((h.set _ _).set _ _).set _ _).set _ _).set _ _
theorem CU {f:Int × Int}{o:Option Int}{g:Int × Int}(h:QJ f o= .error g):g=f:=by
 cases o with
 |none=>cases h;rfl
 |some t=>cases h
theorem LZ {c i:Int}(h: 7≤c∧c≤9): 7≤(c,i).1∧(c,i).1≤9:=h
theorem EN {K:List Dc} :∀ (e:Ex) {f:Int × Int},Bc K e= .error f→7≤f.1∧f.1≤9
 | .int ..,f,h=>by cases h
 | .text ..,f,h=>by cases h
 | .bool ..,f,h=>by cases h
 | .set ..,f,h=>by cases h
 | .name i s,f,h=>by rw[CU h];exact LZ (by decide)
 | .attr ..,f,h=>by cases h;exact LZ (by decide)
 | .lett ..,f,h=>by cases h;exact LZ (by decide)
 | .un i op k,f,h=>by
  rw[Bc] at h;cases hk:Bc K k with
  |error g=>rw[hk] at h;cases h;exact EN k hk
  |ok a=>rw[hk] at h;rw[CU h];exact LZ (by decide)
 | .bin i op k l,f,h=>by
  rw[Bc] at h;cases hk:Bc K k with
  |error g=>rw[hk] at h;cases h;exact EN k hk
  |ok a=>
   rw[hk] at h;cases c:Bc K l with
   |error g=>rw[c] at h;cases h;exact EN l c
   |ok b=>rw[c] at h;rw[CU h];exact LZ (by decide)
 | .ite i k l m,f,h=>by
  rw[Bc] at h;cases hk:Bc K k with
  |error g=>rw[hk] at h;cases h;exact EN k hk
  |ok a=>
   rw[hk] at h;cases c:Bc K l with
   |error g=>rw[c] at h;cases h;exact EN l c
   |ok b=>
    rw[c] at h;cases j:Bc K m with
    |error g=>rw[j] at h;cases h;exact EN m j
    |ok d=>rw[j] at h;rw[CU h];exact LZ (by decide)
theorem Nw {c:Int}{D:List Dc}{ts a ys:List Int}{i:Int}{e:Ex}{f:Int × Int}(h:Ed c D ts a i (Bc D e) ys= .error f): 7≤f.1∧f.1≤9:=by
 cases ht:Bc D e with
 |error g=>rw[ht] at h;cases h;exact EN e ht
 |ok t=>
  rw[ht] at h;simp only[Ed] at h;split at h
  ·cases h
  ·cases h;exact LZ (by decide)
theorem XB {D:List Dc}{ts a ys:List Int}{nm:ByteArray}{i:Int}{e:Ex}{f:Int × Int}(h:Nl D ts a nm i (Bc D e) ys= .error f): 7≤f.1∧f.1≤9:=by
 cases ht:Bc D e with
 |error g=>rw[ht] at h;cases h;exact EN e ht
 |ok t=>
  rw[ht] at h;simp only[Nl] at h;split at h
  ·cases h;exact LZ (by decide)
  ·cases h
theorem Ve {st:Cs}{x:Sx}{f:Int × Int}(h:G6 st x= .error f): 7≤f.1∧f.1≤9:=by
 obtain ⟨j,c,nm,a,b⟩:=x;rw[G6] at h;cases hc:E8 st ⟨j,c,nm,a,b⟩ with
 |error g=>
  rw[hc] at h;cases h;cases a with
  |none=>cases hc
  |some e=>
   simp only[E8,DH] at hc;split at hc
   ·exact XB hc
   ·exact Nw hc
 |ok d=>
  rw[hc] at h
  change DA d ⟨j,c,nm,a,b⟩= .error f at h
  cases b with
  |none=>cases h
  |some e=>exact Nw h
theorem KY:∀ {L:List Sx} {st:Cs} {f:Int × Int},EK st L= .error f→7≤f.1∧f.1≤9
 | [],st,f,h=>by cases h
 |x ::L,st,f,h=>by
  rw[EK] at h;cases hs:G6 st x with
  |error g=>rw[hs] at h;cases h;exact Ve hs
  |ok a=>rw[hs] at h;exact KY (show EK a L= .error f from h)
theorem Y6.eok {w:World}{c a1 a2 a3 a4 a5 d a b f:Addr}(h:Y6 w c a1 a2 a3 a4 a5 d a b f):MG w a b:=
 ⟨by have:=h.big;omega,h.g7,by have:=h.big;omega,h.g8⟩
theorem SN:Wst (Dj, [], []):=fun d hd=>by
 simp only[Dj,zE,List.not_mem_nil,or_false] at hd;rcases hd with rfl | rfl | rfl | rfl | rfl | rfl <;> decide
end Go.Proofs.YtchakjeegneeoaaGreatDoor
