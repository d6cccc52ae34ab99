/-
  TH, KTM, QG, QB, QI, QL, QH, QJ, QK, QJ1, VPL, VPM0, VPM, QM0, QM, VPV, VPW, QN, VPT, TR, TT, TU, TX, TY. Own work.
-/
import Derived.Test.YtdldimphcpojoaaGreatDoorTP
import Derived.Test.YtdldimphcpojoaaGreatDoorMXAV
import Derived.Test.YtdldimphcpojoaaGreatDoorMXAD
import Derived.Deep.Onto
import Derived.Test.YtdldimphcpojoaaGreatDoorMXAF
import Derived.Test.YtdldimphcpojoaaGreatDoorMXAN
import Derived.Lib.LaidTab
import Derived.Lib.SmallJoins
import Derived.Test.YtdldimphcpojoaaGreatDoorMXAM
import Derived.Test.YtdldimphcpojoaaGreatDoorMXAL
import Derived.Test.YtdldimphcpojoaaGreatDoorMXAX
import Derived.Test.YtdldimphcpojoaaGreatDoorMXAI
import Derived.Test.YtdldimphcpojoaaGreatDoorMXAJ
import Derived.Test.YtdldimphcpojoaaGreatDoorMXAR
import Derived.Test.YtdldimphcpojoaaGreatDoorShelf
import Derived.Lib.IndexLaws
import Derived.Lib.ParseIntB
import Derived.Lib.AtoiErrMem
import Derived.WalkMore
namespace Go.Proofs.YtdldimphcpojoaaGreatDoor
set_option maxRecDepth 100000
set_option maxHeartbeats 6400000
open Go.RowKit
set_option linter.unusedVariables false
theorem Mp (s:ByteArray)(j:Nat)(w:World)(hs:s.size≤1048576)(a:j < s.size):
  Calls Tryz.prog 26 #[.string s,.int .i64 j] w fun e w'=>D0 j (Cc ((Ak s).drop j)) e∧Below w.heap.size w w':=by
 have b:=BJ s j a;cases h1:IG (s[j].toNat:Int)
 ·cases h2:dgI (s[j].toNat:Int)
  ·by_cases h3:(s[j].toNat:Int)=34
   ·have e3:s[j]=34:=UInt8.toNat_inj.1 (by have:(34 :UInt8).toNat=34:=rfl;omega);have e:Cc ((Ak s).drop j)=BH ((Ak s).drop (j+1)):=by
     rw[b,Cc,if_neg (by rw[NI,h1];decide),if_neg (by rw[Ci,h2];decide),if_pos e3]
    rw[e];exact Rn s j w hs a h3
   ·have e3: ¬ s[j]=34:=fun e=>h3 (by rw[e];rfl);have e:Cc ((Ak s).drop j)=A8 s[j] ((Ak s).drop j):=by
     rw[b,Cc,if_neg (by rw[NI,h1];decide),if_neg (by rw[Ci,h2];decide),if_neg e3]
    rw[e];exact Rm s j w hs a h1 h2 h3
  ·have e:Cc ((Ak s).drop j)=Bm ((Ak s).drop j):=by
    rw[b,Cc,if_neg (by rw[NI,h1];decide),if_pos (by rw[Ci,h2])]
   rw[e];exact Uj s j w hs a h1 h2
 ·have e:Cc ((Ak s).drop j)=Bn ((Ak s).drop j):=by
   rw[b,Cc,if_pos (by rw[NI,h1])]
  rw[e];exact Ro s j w hs a h1
theorem Mw {c:UInt8}{r:List UInt8}{k:Int}(h:Cc (c ::r)= .bad k):k=2∨k=3:=by
 rw[Cc] at h;split at h
 ·rw[Bn] at h;split at h <;> first | (cases h;exact .inr rfl) | cases h
 ·split at h
  ·rw[Bm] at h;split at h <;> first | (cases h;exact .inr rfl) | cases h
  ·split at h
   ·rw[BH] at h;split at h <;> first | (cases h;exact .inr rfl) | cases h
   ·rw[A8] at h;split at h
    ·cases h
    ·split at h <;> first | (cases h;exact .inl rfl) | cases h
theorem PE (l:List UInt8):(Ax l).size=l.length:=by simp[Ax,ByteArray.size]
theorem Gx:VS []:=fun _ h=>nomatch h
theorem PF {T:List Af}{x:Af}(h:VS T)(hx:x.text.size≤maxLen):VS (T ++ [x]):=fun y hy=>by
 rcases List.mem_append.1 hy with k | k
 ·exact h y k
 ·rw[List.mem_singleton.1 k];exact hx
theorem E7 {w w':World}{lo n:Nat}{v:Value}{a:List Value}(h:w.ownsRow lo 41 4 v n a)(c:Below w.heap.size w w'):w'.ownsRow lo 41 4 v n a:=by
 refine ⟨h.1, ?_⟩;rcases h.2 with h2 | ⟨g,cap,d,f,h3,b,h4⟩
 ·exact .inl h2
 ·refine .inr ⟨g,cap,d,f,h3, ?_,h4⟩;rw[← b];exact c.block g (Array.getElem?_eq_some_iff.1 b).1
theorem GW {w:World}{lo n:Nat}{v:Value}{a:List Value}(h:w.ownsRow lo 41 4 v n a):∃ x c,v= .slice x n c:=by
 rcases h.2 with ⟨h2,h0⟩ | ⟨g,cap,d,b,_⟩
 ·subst h0;exact ⟨_,_,h2⟩
 ·exact ⟨_,_,b⟩
theorem I6 {w:World}{b:Nat}{x:Af}{t:TypeId}(R:An w b #[.int .i64 x.kind,.int .i64 x.num,.string x.text,.int .i64 (x.at_:Int)] t):∀ j u,(In x)[j]? =some u→w.cell? ((⟨b,0,none⟩:Addr).add j)=some u:=fun j u h=>by
 have a:(⟨b,0,none⟩:Addr).add j=⟨b,j,none⟩:=by by_cases e:j=0 <;> simp[Addr.add,e]
 rw[a,R.cell j,← h];simp[In]
theorem M3 (x:Af):∀ u∈In x,u.oneCell'=true:=fun u h=>by
 simp only[In,List.mem_cons,List.not_mem_nil,or_false] at h;rcases h with rfl | rfl | rfl | rfl <;> rfl
def SD (w:World) (R:YH) (e:Ending) (w':World):Prop:=
 ∃ x c,e= .returned (.tuple #[.slice x R.toks.length c,.agg #[.int .i64 R.code,.int .i64 (R.at_:Int)]])∧w'.ownsRow w.heap.size 41 4 (.slice x R.toks.length c) R.toks.length (Ef R.toks)∧VS R.toks∧Below w.heap.size w w'
theorem U8:(Tryz.prog.info? 41).map (fun i=>(i.zero,i.size,i.bytes))=some (some (.agg #[.int .i64 0,.int .i64 0,.string ByteArray.empty,.int .i64 0]),4,40):=by kernel_rfl
theorem Jq {d:Func}{a u:Tmp}(h:d.results= #[.tmp u,.cell a 30]){c:Array Value}{w:World}{b:Nat}{f g:Value}(i:c.getD a undef= .pointer (some ⟨b,0,none⟩))
  (j:w.cell? ⟨b,0,none⟩=some f)(g1:w.cell? ⟨b,1,none⟩=some g):
  (results d c).run Tryz.prog w= .ok (.tuple #[c.getD u undef,.agg #[f,g]]) w:=by
 rw[Array.getD_eq_getD_getElem?] at i;simp[results,h,i,go_sem,j,g1]
theorem Gt (t:ByteArray)(w:World):
  Calls Tryz.prog 9 #[.string t] w fun e w'=>SD w (Ar t) e w':=by
 by_cases h4: 4000 < t.size
 ·have aw:(4000 :Int) < (t.size:Int):=by omega
  go_enter Tryz.func9,Tryz.ntmps9
  go_wp2
  have R:=An.new w #[.int .i64 1,.int .i64 0] 30;have z:=R.cell 0;have g1:=R.cell 1;refine bodyPost_ret (Jq Tryz.results9 rfl z g1) rfl ?_;rw[Ar,if_pos h4];exact ⟨none,0,rfl,World.ownsRow_nil _ _ _ _,Gx,(Below.refl w.heap.size w).alloc NLN _⟩
 ·have aw: ¬ ((4000 :Int) < (t.size:Int)):=by omega
  have ht:t.size≤1048576:=by omega
  have ab:=Ab (show Ar t=AH t.size (t.size+1) (Ak t) [] by rw[Ar,if_neg h4]);obtain ⟨i,hi,ax,ay,az⟩:=info_parts U8;have M:=An.new w #[.int .i64 0,.int .i64 0] 30;have N:=(Below.refl w.heap.size w).alloc NLN (.cells #[.int .i64 0,.int .i64 0] 30);go_enter Tryz.func9,Tryz.ntmps9
  go_wp2_with fail
  refine (JR t 0 _ (by unfold maxLen;omega) (by omega)).mono ?_;rintro e aR ⟨⟨ac,rfl,_,aA,ad,O⟩,C⟩;rw[C];have ae:=Ab (show AH t.size (t.size+1) ((Ak t).drop ac) []=Ar t by rw[Aa ab];exact CH _ _ (by rw[O,← ad,List.drop_zero]) _);have af:=Ab O;clear C ad O ab;go_wp2_with fail
  generalize w.alloc (.cells #[.int .i64 0,.int .i64 0] 30)=aS at M N ⊢;go_loopw [4,5] (fun v a wr=>∃ (k f:Nat) (T:List Af),a= .int .i64 k∧k≤t.size∧t.size - k < f∧T.length≤k∧VS T∧AH t.size f ((Ak t).drop k) T=Ar t∧Ce false ((Ak t).drop k)=(Ak t).drop k∧wr.ownsRow (w.heap.size+1) 41 4 v T.length (Ef T)∧An wr w.heap.size #[.int .i64 0,.int .i64 0] 30∧Below w.heap.size w wr) (fun _ a _=>t.size - (intOf a).toNat)
  case atStart=>exact ⟨ac,t.size+1, [],rfl,aA,by omega,by simp,Gx,Aa ae,Aa af,World.ownsRow_nil _ _ _ _,M,N⟩
  case round=>
   obtain ⟨k,f,T,rfl,hk,aT,aU,ag,ah,ai,A,o,h⟩:=hrel;have I:=Ab ah;have P:=Ab ai;have Q:=Ab ag;clear ah ai ag M N ae af;by_cases aj:k < t.size
   ·have aB:(k:Int) < (t.size:Int):=by omega
    go_wp2_with fail
    refine (Mp t k _ ht aj).mono ?_;rintro e ak ⟨J,g⟩;have l:=BJ t k aj;have S:((Ak t).drop (k+1)).length+1=t.size - k:=by rw[List.length_drop,As];omega
    cases s:Cc ((Ak t).drop k) with
    | bad c=>
     rw[s] at J;obtain ⟨K,m,n,x,rfl⟩:=J;have r:=o.after g NLN;have E:=h.trans (g.mono h.size);have aC:=Nat.le_trans h.size g.size;obtain ⟨u,rfl⟩:∃ u,f=u+1:=⟨f - 1,by omega⟩
     have al:Ar t=⟨[],c,k⟩:=by
      rw[← Aa I,l,Fh (by rw[← l];exact Aa P) (by rw[← l];exact s)]
      congr 1
      rw[S];omega
     have hc:c=2∨c=3:=Mw (by rw[← l];exact s);have ao:=Ab al;clear al l S s A o h g;have U:=r.cell 0;have V:=r.cell 1;have aD:=fun j=>r.frozen j;simp only[List.getElem?_toArray,List.getElem?_cons_zero,List.getElem?_cons_succ] at U V;have aV:=r.lt;rcases hc with rfl | rfl
     ·go_wp2_with fail
      have y:=((r.set 0 (.int .i64 2)).set 1 (.int .i64 k)).alloc (.cells #[.int .i64 K,.int .i64 m,.string x,.int .i64 k] 41);have F:=((E.setCell (p:=⟨w.heap.size,0,none⟩) NLN (.int .i64 2)).setCell (p:=⟨w.heap.size,1,none⟩) NLN (.int .i64 k)).alloc (by simp;omega) (.cells #[.int .i64 K,.int .i64 m,.string x,.int .i64 k] 41);have z:_=some (Value.int .i64 2):=y.cell 0;have g1:_=some (Value.int .i64 k):=y.cell 1;refine bodyPost_ret (Jq Tryz.results9 rfl z g1) rfl ?_;rw[Aa ao];exact ⟨none,0,rfl,World.ownsRow_nil _ _ _ _,Gx,F⟩
     ·go_wp2_with fail
      have y:=((r.set 0 (.int .i64 3)).set 1 (.int .i64 k)).alloc (.cells #[.int .i64 K,.int .i64 m,.string x,.int .i64 k] 41);have F:=((E.setCell (p:=⟨w.heap.size,0,none⟩) NLN (.int .i64 3)).setCell (p:=⟨w.heap.size,1,none⟩) NLN (.int .i64 k)).alloc (by simp;omega) (.cells #[.int .i64 K,.int .i64 m,.string x,.int .i64 k] 41);have z:_=some (Value.int .i64 3):=y.cell 0;have g1:_=some (Value.int .i64 k):=y.cell 1;refine bodyPost_ret (Jq Tryz.results9 rfl z g1) rfl ?_;rw[Aa ao];exact ⟨none,0,rfl,World.ownsRow_nil _ _ _ _,Gx,F⟩
    | tok d m b H=>
     rw[s] at J;cases J;obtain ⟨aW,aE,aX⟩: 1≤H∧H≤((Ak t).drop k).length∧b.length≤H:=by have:=ES ((Ak t).drop k);rw[s] at this;exact this
     rw[List.length_drop,As] at aE;obtain ⟨u,rfl⟩:∃ u,f=u+1:=⟨f - 1,by omega⟩
     have aF:=Ab (show AH t.size u ((Ak t).drop (k+H)) (T ++ [⟨d,m,Ax b,k⟩])=Ar t by
      rw[← Aa I,l,Eo (by rw[← l];exact Aa P) (by rw[← l];exact s),← l,List.drop_drop,show t.size - (((Ak t).drop (k+1)).length+1)=k by omega])
     have ap:VS (T ++ [⟨d,m,Ax b,k⟩]):=PF (Aa Q) (by show (Ax b).size≤_;rw[PE];unfold maxLen;omega);have aG:=Ab ap;clear l S s ap I P Q;have r:=(o.after g NLN).alloc (.cells #[.int .i64 d,.int .i64 m,.string (Ax b),.int .i64 k] 41) |>.alloc (.cells #[.int .i64 d,.int .i64 m,.string (Ax b),.int .i64 k] 41)
     have E:=((h.trans (g.mono h.size)).alloc (Nat.le_trans h.size g.size) (.cells #[.int .i64 d,.int .i64 m,.string (Ax b),.int .i64 k] 41)).alloc (by have:=Nat.le_trans h.size g.size;simp;omega) (.cells #[.int .i64 d,.int .i64 m,.string (Ax b),.int .i64 k] 41);have L:=((E7 A g).alloc (.cells #[.int .i64 d,.int .i64 m,.string (Ax b),.int .i64 k] 41)).alloc (.cells #[.int .i64 d,.int .i64 m,.string (Ax b),.int .i64 k] 41);have W:=An.new (ak.alloc (.cells #[.int .i64 d,.int .i64 m,.string (Ax b),.int .i64 k] 41)) #[.int .i64 d,.int .i64 m,.string (Ax b),.int .i64 k] 41;simp only[World.size_alloc] at W;have aC:=o.lt;have aY:=g.size;go_wp2_with (at_builtin;refine wpList_append_own _ rfl _ _ 35 rfl (w.heap.size+1) 41 i (.agg #[.int .i64 0,.int .i64 0,.string ByteArray.empty,.int .i64 0]) 4 40 Tryz.underlying35 hi ax ay az rfl (by decide) _ _ _ rfl L ⟨ak.heap.size+1,0,none⟩ 1 1 (In ⟨d,m,Ax b,k⟩) rfl rfl ?c1 ?c2 ?c3 ?c4 ?c5 ?_)
     case c1=>exact I6 (x:=⟨d,m,Ax b,k⟩) W
     case c2=>exact M3 _
     case c3=>unfold maxLen;omega
     case c4=>omega
     case c5=>simp;omega
     intro aZ X aH Y _;have aI:Below w.heap.size w X:=E.grown Y (by simp;omega) (fun q hq=>by have:=(L.lt q hq).1;omega);have aJ:An X w.heap.size #[.int .i64 0,.int .i64 0] 30:=r.below (B:=w.heap.size+1) (BRN.grown Y (by simp;omega) (fun q hq=>(L.lt q hq).1)) (by omega);clear Y A L W o r h E g;go_wp2_with fail
     have Z:=JR t (k+H) X (by unfold maxLen;omega) (by omega);rw[Int.natCast_add] at Z;refine Z.mono ?_;rintro e a0 ⟨⟨aq,rfl,a1,aK,ar,aa⟩,C⟩;rw[C];clear C Z;have aL:=Ab (show AH t.size u ((Ak t).drop aq) (T ++ [⟨d,m,Ax b,k⟩])=Ar t by rw[← Aa aF];exact CH _ _ (by rw[aa,ar]) _);have aM:=Ab aa;clear ar aa;go_wp2_with fail
     go_roundw
     case rel=>exact ⟨aq,u,T ++ [⟨d,m,Ax b,k⟩],rfl,aK,by omega,by simp;omega,Aa aG,Aa aL,Aa aM,by rw[I7,List.length_append];exact aH,aJ,aI⟩
     case measure=>simp[intOf];omega
   ·have e:(Ak t).drop k= []:=List.drop_of_length_le (by rw[As];omega);have au:Ar t=⟨T,0,0⟩:=by rw[← Aa I,e,Jr]
    have aN:=Ab au;have aB: ¬ ((k:Int) < (t.size:Int)):=by omega
    clear au e;have U:=o.cell 0;have V:=o.cell 1;have aD:=fun j=>o.frozen j;simp only[List.getElem?_toArray,List.getElem?_cons_zero,List.getElem?_cons_succ] at U V;obtain ⟨x,av,aO⟩:=GW A;subst aO;go_wp2_with fail
    have y:=(o.set 0 (.int .i64 0)).set 1 (.int .i64 0);have F:=(h.setCell (p:=⟨w.heap.size,0,none⟩) NLN (.int .i64 0)).setCell (p:=⟨w.heap.size,1,none⟩) NLN (.int .i64 0);have z:_=some (Value.int .i64 0):=y.cell 0;have g1:_=some (Value.int .i64 0):=y.cell 1;have aP:((wr.setCell ⟨w.heap.size,0,none⟩ (.int .i64 0)).setCell ⟨w.heap.size,1,none⟩ (.int .i64 0)).ownsRow w.heap.size 41 4 (.slice x T.length av) T.length (Ef T):=
     (Cn A (fun p aQ=>by
      have h1:w.heap.size+1≤p.block:=by subst aQ;exact (A.lt _ rfl).1
      rw[heap_setCell_other _ _ _ _ (by show p.block≠w.heap.size;omega),heap_setCell_other _ _ _ _ (by show p.block≠w.heap.size;omega)])).mono (by omega)
    refine bodyPost_ret (Jq Tryz.results9 rfl z g1) rfl ?_;rw[Aa aN];exact ⟨x,av,rfl,aP,Aa Q,F⟩
theorem Tks.at {s:ByteArray}{l:List UInt8}{T:List Af}{d:List UInt8}(h:Tks s.size l T d):∀ (j:Nat),j≤s.size→l=(Ak s).drop j→∀ t∈T,∃ a,1≤a∧t.at_+a≤s.size∧Cc ((Ak s).drop t.at_)= .tok t.kind t.num (Ak t.text) a:=by
 induction h with
 | nil h=>intro j i e t ht;cases ht
 | @cons b r c k m sl a T d q u f ht n=>
  intro j i e t hm;have e1:c ::r=(Ak s).drop (j+b.length):=by
   rw[← List.drop_drop,← e,List.drop_left]
  have e2:r.length+1=s.size - (j+b.length):=by
   have:=congrArg List.length e1;rw[List.length_drop,As,List.length_cons] at this;exact this
  have e3:s.size - (r.length+1)=j+b.length:=by omega
  have g:=ES (c ::r);rw[f] at g;obtain ⟨o,p,_⟩: 1≤a∧a≤(c ::r).length∧sl.length≤a:=g;rw[List.length_cons] at p;rcases List.mem_cons.1 hm with rfl | hm
  ·refine ⟨a,o, ?_, ?_⟩
   ·show s.size - (r.length+1)+a≤s.size;omega
   ·show Cc ((Ak s).drop (s.size - (r.length+1)))= .tok k m (Ak (Ax sl)) a;rw[e3,← e1,f,Do]
  ·exact n (j+b.length+a) (by omega) (by rw[e1,List.drop_drop]) t hm
theorem Tks.len {n:Nat}{l:List UInt8}{T:List Af}{b:List UInt8}(h:Tks n l T b):T.length≤l.length:=by
 induction h with
 | nil h=>simp
 | @cons j r c k m sl a T b o p f ht g=>
  have d:=ES (c ::r);rw[f] at d;obtain ⟨q,i,_⟩: 1≤a∧a≤(c ::r).length∧sl.length≤a:=d;simp only[List.length_cons,List.length_drop,List.length_append] at g i ⊢;omega
theorem Lb (n:Nat):∀ (f:Nat) (l:List UInt8) (out:List Af),(AH n f l out).code≠0→(AH n f l out).toks= []
 | 0,l,out,h=>absurd rfl h
 | f+1,l,out,h=>by
  cases a:Ce false l with
  | nil=>
   rw[AH,a] at h;exact absurd rfl h
  | cons c r=>
   cases b:Cc (c ::r) with
   | bad code=>
    rw[AH,a];simp only[b]
   | tok k m sl d=>
    have e:AH n (f+1) l out=AH n f ((c ::r).drop d) (out ++ [⟨k,m,Ax sl,n - (r.length+1)⟩]):=by
     rw[AH,a];simp only[b]
    rw[e] at h ⊢;exact Lb n f _ _ h
theorem Q7 (s:ByteArray):(Ar s).toks.length≤4000∧((Ar s).toks≠ []→s.size≤4000)∧∀ t∈(Ar s).toks,∃ a,1≤a∧t.at_+a≤s.size∧Cc ((Ak s).drop t.at_)= .tok t.kind t.num (Ak t.text) a:=by
 by_cases h4: 4000 < s.size
 ·have e:(Ar s).toks= []:=by rw[Ar,if_pos h4]
  rw[e];exact ⟨by simp,fun h=>absurd rfl h,fun t ht=>by cases ht⟩
 ·by_cases hc:(Ar s).code=0
  ·have e:Ar s=AH s.size (s.size+1) (Ak s) []:=by rw[Ar,if_neg h4]
   rw[e] at hc ⊢;obtain ⟨T,b,e1,e2⟩:=Mo s.size (s.size+1) (Ak s) [] (by rw[As];omega) hc;rw[e1,List.nil_append];have hl:=e2.len;rw[As] at hl;exact ⟨by omega,fun _=>by omega,fun t ht=>e2.at 0 (Nat.zero_le _) (by rw[List.drop_zero]) t ht⟩
  ·have e:(Ar s).toks= []:=by rw[Ar,if_neg h4] at hc ⊢;exact Lb _ _ _ _ hc
   rw[e];exact ⟨by simp,fun h=>absurd rfl h,fun t ht=>by cases ht⟩
theorem Pa (s:ByteArray)(i j:Nat)(w:World)(h1:i≤j)(h2:j≤s.size):
  Calls Tryz.prog 46 #[.string s,.int .i64 i,.int .i64 j] w fun e w'=>e= .returned (.string (s.extract i j))∧w'=w:=by
 go_enter Tryz.func46,Tryz.ntmps46
 go_wp2_with fail
 go_ret
 exact ⟨rfl,rfl⟩
theorem TS (s:ByteArray)(j a:Nat)(k m:Int)(t:List UInt8)(w:World)(hs:s.size≤4000)(d:j < s.size)(f:Cc ((Ak s).drop j)= .tok k m t a):
  Calls Tryz.prog 47 #[.string s,.int .i64 j] w fun e w'=>e= .returned (.int .i64 ((j+a:Nat):Int))∧Below w.heap.size w w':=by
 have b:=Ab (fun g=>Mp s j g (by omega) d);rw[f] at b;go_enter Tryz.func47,Tryz.ntmps47
 go_wp2_with fail
 refine (Aa b _).mono ?_;rintro e l ⟨h,c⟩;have i:=(show e= .returned (.tuple #[.agg #[.int .i64 k,.int .i64 m,.string (Ax t),.int .i64 (j:Int)],.int .i64 ((j+a:Nat):Int),.int .i64 0]) from h)
 subst i;dsimp only;go_wp2_with fail
 go_ret
 exact ⟨rfl,c.alloc c.size _⟩
abbrev Y5 (w:World):Prop:=Lib.TabIs Tryz.prog w "internal/strconv.uint64pow10" .u64 Lib.pow10Tab
theorem Y6: Tryz.prog.globalNamed "internal/strconv.uint64pow10" =some 14:=by kernel_rfl
theorem Y5.below {w w':World}{B:Nat}(h:Y5 w)(a:Below B w w')(b:w.heap.size≤B):Y5 w':=Joins.tab_stays Y6 h (a.mono b) NLN
def Ze (op:Int) (pr:Int→ByteArray):ByteArray:=
 if op=8 then ⟨#[45]⟩ ++pr 7 else if op=9 then ⟨#[110,111,116,32]⟩ ++pr 3 else ⟨#[115,105,122,101,40]⟩ ++pr 0 ++⟨#[41]⟩
theorem Yx (i op:Int)(k:Ex):(Ex.un i op k).pr=Ze op k.put:=by
 rw[Ex.pr,Ze,Ds];rfl
def Yy (op:Int) (p q:Int→ByteArray):ByteArray:=p (Sz op) ++(⟨#[32]⟩ ++Cp op ++⟨#[32]⟩) ++q (Dw op+1)
theorem X8 (i op:Int)(l r:Ex):(Ex.bin i op l r).pr=Yy op l.put r.put:=rfl
theorem Ld {w:World}{b:Nat}{a c d f:Value}{t:TypeId}(R:An w b #[a,c,d,f] t):w.cell? ⟨b,0,none⟩=some a∧w.cell? ⟨b,1,none⟩=some c∧w.cell? ⟨b,2,none⟩=some d∧w.cell? ⟨b,3,none⟩=some f:=
 ⟨R.cell 0,R.cell 1,R.cell 2,R.cell 3⟩
def Wg (Es:List Ex) (k:Int):ByteArray:=match Es[k.toNat]? with
 | some e=>e.pr
 | none=>⟨#[]⟩
def WY (Es:List Ex) (g:Int):ByteArray:=if g= -1 then ⟨#[100,101,110,121]⟩ else ⟨#[103,114,97,110,116,32]⟩ ++Wg Es g
def Re (Es:List Ex) (s:St):ByteArray:=
 (if s.kind=1 then ⟨#[108,101,116,32]⟩ ++s.name ++⟨#[32,61,32]⟩ ++Wg Es s.cond
   else if s.kind=2 then ⟨#[119,104,101,110,32]⟩ ++Wg Es s.cond ++⟨#[32,61,62,32]⟩ ++WY Es s.grant
   else ⟨#[101,108,115,101,32]⟩ ++WY Es s.grant) ++⟨#[59,10]⟩
structure Y7 (w:World) (a:Option Addr) (n c:Nat) (Es:List Ex):Prop where
 len:Es.length=n
 small:n≤1048576
 cells:∀ j,(h:j < Es.length)→∃ b off,a=some ⟨b,off,none⟩∧b < w.heap.size∧w.cell? ⟨b,off+j,none⟩=some Es[j].val
theorem Y7.below {w w':World}{B:Nat}{a:Option Addr}{n c:Nat}{L:List Ex}(h:Y7 w a n c L)(d:Below B w w')(l:w.heap.size≤B):Y7 w' a n c L:=
 ⟨h.len,h.small,fun j g=>by
  obtain ⟨b,f,i,hl,k⟩:=h.cells j g;exact ⟨b,f,i,Nat.lt_of_lt_of_le hl d.size,(d.cell (p:=⟨b,f+j,none⟩) (by show b < B;omega)).trans k⟩⟩
inductive VF (Es:List Ex) (i:Nat) (x:Nd) (an:Option Addr) (nn cn:Nat):Ex→Prop
 | int (ho:x.op=1):VF Es i x an nn cn (.int i x.num)
 | text (ho:x.op=2):VF Es i x an nn cn (.text i x.text)
 | bool (ho:x.op=3):VF Es i x an nn cn (.bool i (decide (x.num=1)))
 | set (ho:x.op=4):VF Es i x an nn cn (.set i an nn cn x.names)
 | name (ho:x.op=5):VF Es i x an nn cn (.name i x.text)
 | attr (ho:x.op=6):VF Es i x an nn cn (.attr i x.num)
 | lett (ho:x.op=7):VF Es i x an nn cn (.lett i x.num)
 | un {k:Nat} {e:Ex} (ho: 8≤x.op∧x.op≤10) (hk:x.kids= [(k:Int)]) (h1:Es[k]? =some e):VF Es i x an nn cn (.un i x.op e)
 | bin {k l:Nat} {e f:Ex} (ho: 11≤x.op∧x.op≤26) (hk:x.kids= [(k:Int),(l:Int)]) (h1:Es[k]? =some e) (h2:Es[l]? =some f):VF Es i x an nn cn (.bin i x.op e f)
 | ite {k l m:Nat} {e f g:Ex} (ho:x.op=27) (hk:x.kids= [(k:Int),(l:Int),(m:Int)]) (h1:Es[k]? =some e) (h2:Es[l]? =some f) (h3:Es[m]? =some g):VF Es i x an nn cn (.ite i e f g)
theorem YG {w:World}{a:Nat}{e:TypeId}{size n:Nat}{v:Value}{b:List Value}(h:w.ownsRow a e size v n b)(p:Addr)(u:Value)(c:∀ q,v.ownBlock=some q→q≠p.block):(w.setCell p u).ownsRow a e size v n b:=
 Iy h (fun q hq=>heap_setCell_other w p q u (c q hq))
theorem JO {s:ByteArray}(h:Dt s=true):s.size≤32:=by
 unfold Dt at h;have e:(Ak s).length=s.size:=by simp[Ak]
 cases hs:Ak s with
 | nil=>rw[hs] at e;simp at e;omega
 | cons c r=>
  rw[hs] at h;simp only[Bool.and_eq_true,decide_eq_true_eq] at h;rw[← e,hs];exact h.1.1.1
theorem Nr {s:ByteArray}(h:DU s=true):s.size≤32:=by
 unfold DU at h;simp only[Bool.and_eq_true,decide_eq_true_eq] at h;exact h.1
theorem Pj {a:List ByteArray}(h:Le a=true):a.length≤64∧∀ x∈a,x.size≤32:=by
 unfold Le at h;simp only[Bool.and_eq_true,decide_eq_true_eq] at h;refine ⟨h.1,fun x hx=>?_⟩;have:=List.all_eq_true.1 h.2.1 x hx;simp only[vnB,Bool.and_eq_true,decide_eq_true_eq] at this;omega
theorem Gv {N:List Nd}{i:Nat}{Es:List Ex}(hl:Es.length=i)(a:∀ j,(h:j < Es.length)→Ev N j Es[j]){k:Int}(hk: 0≤k∧k < i):∃ (m:Nat) (e:Ex),k=m∧m < i∧Es[m]? =some e∧Ev N m e:=by
 refine ⟨k.toNat,Es[k.toNat]'(by omega),by omega,by omega,List.getElem?_eq_getElem _,a _ _⟩
theorem X9 {N:List Nd}{w:World}{i:Nat}{x:Nd}{an:Option Addr}{nn v:Nat}(hx:N[i]? =some x)(a:By x=true)(hk:∀ k∈x.kids,0≤k∧k < i)(C:x.num≤9223372036854775807){Es:List Ex}(hl:Es.length=i)
  (c:∀ j,(h:j < Es.length)→Ev N j Es[j])(E:∀ e∈Es,e.fit w)(A:Bg w an nn v x.names):∃ e,VF Es i x an nn v e∧Ev N i e∧e.fit w:=by
 unfold By at a;rw[Bool.and_eq_true,decide_eq_true_eq] at a;obtain ⟨F,a⟩:=a;have t:∀ n:Nat,GT x.op=n→x.kids.length=n:=fun n e=>by omega
 have q:(1≤x.op∧x.op≤7)→x.kids= []:=fun h=>List.eq_nil_of_length_eq_zero (t 0 (by rw[GT,if_pos h];rfl));have d:∀ {m:Nat} {e:Ex},Es[m]? =some e→e.fit w:=fun h=>E _ (List.mem_of_getElem? h);by_cases h1:x.op=1
 ·rw[if_pos h1] at a;simp only[Bool.and_eq_true,decide_eq_true_eq] at a;exact ⟨_,.int h1,.int hx h1 (q (by omega)),a.1.1,C⟩
 rw[if_neg h1] at a;by_cases h2:x.op=2
 ·rw[if_pos h2] at a;simp only[Bool.and_eq_true,decide_eq_true_eq] at a;exact ⟨_,.text h2,.text hx h2 (q (by omega)),Nr a.1.1⟩
 rw[if_neg h2] at a;by_cases h3:x.op=3
 ·exact ⟨_,.bool h3,.bool hx h3 (q (by omega)),trivial⟩
 rw[if_neg h3] at a;by_cases h4:x.op=4
 ·rw[if_pos h4] at a;simp only[Bool.and_eq_true,decide_eq_true_eq] at a;obtain ⟨J,H⟩:=Pj a.1.1;exact ⟨_,.set h4,.set hx h4 (q (by omega)) an nn v,A,by have:=A.len;omega,H⟩
 rw[if_neg h4] at a;by_cases h5:x.op=5
 ·rw[if_pos h5] at a;simp only[Bool.and_eq_true,decide_eq_true_eq] at a;exact ⟨_,.name h5,.name hx h5 (q (by omega)),JO a.1.1⟩
 rw[if_neg h5] at a;by_cases h6:x.op=6∨x.op=7
 ·rw[if_pos h6] at a;cases a
 by_cases h8: 8≤x.op∧x.op≤10
 ·have r:=t 1 (by rw[GT,if_neg (by omega),if_pos h8];rfl)
  match b:x.kids,r with
  | [k],_=>
   obtain ⟨m,e,rfl,hm,g1,g2⟩:=Gv hl c (hk k (by rw[b];simp));exact ⟨_,.un h8 b g1,.un hx h8 b hm g2,h8,d g1⟩
 by_cases h11: 11≤x.op∧x.op≤26
 ·have r:=t 2 (by rw[GT,if_neg (by omega),if_neg h8,if_pos h11];rfl)
  match b:x.kids,r with
  | [k,l],_=>
   obtain ⟨m,e,rfl,hm,g1,g2⟩:=Gv hl c (hk k (by rw[b];simp));obtain ⟨n,f,rfl,y,s,z⟩:=Gv hl c (hk l (by rw[b];simp));exact ⟨_,.bin h11 b g1 s,.bin hx h11 b ⟨hm,y⟩ g2 z,h11,d g1,d s⟩
 by_cases u:x.op=27
 ·have r:=t 3 (by rw[GT,if_neg (by omega),if_neg h8,if_neg h11,if_pos u];rfl)
  match b:x.kids,r with
  | [k,l,o],_=>
   obtain ⟨m,e,rfl,hm,g1,g2⟩:=Gv hl c (hk k (by rw[b];simp));obtain ⟨n,f,rfl,y,s,z⟩:=Gv hl c (hk l (by rw[b];simp));obtain ⟨p,g,rfl,I,B,q2⟩:=Gv hl c (hk o (by rw[b];simp));exact ⟨_,.ite u b g1 s B,.ite hx u b ⟨hm,y,I⟩ g2 z q2,d g1,d s,d B⟩
 ·rw[GT,if_neg (by omega),if_neg h8,if_neg h11,if_neg u] at F;omega
def Ns (N:List Nd) (L:List St):Bool:=match Fd (N.map Nd.kids) N.length [] 0 with
 | none=>false
 | some S=>decide (Bw S=L.flatMap Bo)
theorem Ri {w:World}{b:Nat}{a c:Value}{t:TypeId}(R:An w b #[a,c] t):w.cell? ⟨b,0,none⟩=some a∧w.cell? ⟨b,1,none⟩=some c:=⟨R.cell 0,R.cell 1⟩
def GI (N:List Nd) (L:List St):Bool:=decide (N.length≤4000) && (decide (1≤L.length∧L.length≤600) && GV L) && N.all By && Ns N L
theorem Pm {K:List (List Int)}{a b:Nat}{d:List (Nat × Nat)}(h:Ba K a d b):∀ t,a≤t→t < b→∃ c:List (Nat × Nat),K[t]? =some (Bw c)∧∀ p∈c,p.1 < t:=by
 induction h with
 | nil a=>intro t h1 h2;omega
 | @cons a t b c d hk ht j f g=>
  intro q h1 h2;by_cases h3:q < t
  ·exact f q h1 h3
  by_cases h4:q=t
  ·subst h4;exact ⟨c,ht,fun p i=>(hk.lt p i).2⟩
  ·exact g q (by omega) h2
theorem VI {e:Ex} :∀ {Es:List Ex},e∈Es→e.cnt≤ID Es
 | x ::Es,h=>by
  have e5:ID (x ::Es)=x.cnt+ID Es:=by simp[ID]
  rw[e5];rcases List.mem_cons.1 h with rfl | h
  ·omega
  ·have:=VI h;omega
def XH (w:World) (Es:List Ex) (k:Int):Prop:=∃ (m:Nat) (e:Ex),k=m∧Es[m]? =some e∧e.fit w∧e.cnt≤4000
def Ya (w:World) (Es:List Ex) (s:St):Prop:=
 (s.kind=1∧s.name.size≤32∧XH w Es s.cond∧s.grant= -1)∨(s.kind=2∧XH w Es s.cond∧(s.grant= -1∨XH w Es s.grant))∨(s.kind=3∧s.cond= -1∧(s.grant= -1∨XH w Es s.grant))
structure XG (N:List Nd) (L:List St):Prop where
 n:N.length≤4000
 m0: 1≤L.length
 m:L.length≤600
 fields:∀ x∈N,By x=true
 kids:∀ (i:Nat) (x:Nd),N[i]? =some x→∀ k∈x.kids,0≤k∧k < (i:Int)
 roots:∀ s∈L,(s.cond= -1∨(0≤s.cond∧s.cond < N.length))∧(s.grant= -1∨(0≤s.grant∧s.grant < N.length))
 stm:∀ s∈L,(s.kind=1∧s.name.size≤32∧0≤s.cond∧s.grant= -1)∨(s.kind=2∧0≤s.cond)∨(s.kind=3∧s.cond= -1)
 cnt:∀ (Es:List Ex),Es.length=N.length→(∀ j,(h:j < Es.length)→Ev N j Es[j])→∀ s∈L,∀ k,(k=s.cond∨k=s.grant)→0≤k→∀ e,Es[k.toNat]? =some e→e.cnt≤4000
theorem Lf:∀ {L:List St},GV L=true→∀ s∈L,Pn s=true
 | x ::L,h,s,hs=>by
  simp only[GV,Bool.and_eq_true] at h;rcases List.mem_cons.1 hs with rfl | hs
  ·exact h.1.1
  ·exact Lf h.2 s hs
theorem Pb {N:List Nd}{L:List St}(h:GI N L=true):XG N L:=by
 simp only[GI,Bool.and_eq_true,decide_eq_true_eq] at h;obtain ⟨⟨⟨h1,⟨h2,h3⟩,h4⟩,h5⟩,h6⟩:=h;obtain ⟨S,t,ht⟩:∃ S,Fd (N.map Nd.kids) N.length [] 0=some S∧Bw S=L.flatMap Bo:=by
  rw[Ns] at h6;cases hq:Fd (N.map Nd.kids) N.length [] 0 with
  | none=>rw[hq] at h6;cases h6
  | some S=>rw[hq] at h6;exact ⟨S,rfl,of_decide_eq_true h6⟩
 obtain ⟨c,_⟩:=Ge N.length (.nil 0) (fun p a=>(by cases a)) t;rw[Nat.zero_add] at c;have n:∀ s∈L,∀ k∈Bo s,∃ p∈S,k=(p.1:Int):=fun s hs k hk=>by
  have:k∈Bw S:=by rw[ht];exact List.mem_flatMap.2 ⟨s,hs,hk⟩
  rw[Bw] at this;obtain ⟨p,a,rfl⟩:=List.mem_map.1 this;exact ⟨p,a,rfl⟩
 have d:∀ s∈L,∀ k∈Bo s,0≤k∧k < N.length:=fun s hs k hk=>by
  obtain ⟨p,a,rfl⟩:=n s hs k hk;have:=(c.lt p a).2;omega
 have f:∀ s∈L,s.kind≠3→s.cond∈Bo s:=fun s _ h=>by rw[Bo,if_pos h];simp
 have o:∀ s∈L,s.grant≠-1→s.grant∈Bo s:=fun s _ h=>by rw[Bo,if_pos h];simp
 have u:=Lf h4;have stm:∀ s∈L,(s.kind=1∧s.name.size≤32∧0≤s.cond∧s.grant= -1)∨(s.kind=2∧0≤s.cond)∨(s.kind=3∧s.cond= -1):=fun s hs=>by
  have h:=u s hs;rw[Pn] at h;by_cases l:s.kind=1
  ·rw[if_pos l] at h;simp only[Bool.and_eq_true,decide_eq_true_eq] at h;exact .inl ⟨l,JO h.1,(d s hs _ (f s hs (by omega))).1,h.2⟩
  rw[if_neg l] at h;by_cases r:s.kind=2
  ·exact .inr (.inl ⟨r,(d s hs _ (f s hs (by omega))).1⟩)
  rw[if_neg r] at h;by_cases b:s.kind=3
  ·rw[if_pos b] at h;simp only[Bool.and_eq_true,decide_eq_true_eq] at h;exact .inr (.inr ⟨b,h.2⟩)
  ·rw[if_neg b] at h;cases h
 refine ⟨h1,h2,h3,fun x hx=>List.all_eq_true.1 h5 x hx,fun i x hx k hk=>?_,fun s hs=>⟨?_, ?_⟩,stm,fun Es hl v s hs k hk h0 e he=>?_⟩
 ·have hi:i < N.length:=(List.getElem?_eq_some_iff.1 hx).1;obtain ⟨w,e1,e2⟩:=Pm c i (Nat.zero_le _) hi;rw[List.getElem?_map,hx] at e1;have e3:x.kids=Bw w:=Option.some.inj e1;rw[e3,Bw] at hk;obtain ⟨p,a,rfl⟩:=List.mem_map.1 hk;have:=e2 p a;omega
 ·by_cases b:s.kind=3
  ·rcases stm s hs with h | h | h
   ·omega
   ·omega
   ·exact .inl h.2
  ·exact .inr (d s hs _ (f s hs b))
 ·by_cases g:s.grant= -1
  ·exact .inl g
  ·exact .inr (d s hs _ (o s hs g))
 ·have y:k∈Bo s:=by
   rcases hk with rfl | rfl
   ·apply f s hs;intro b;rcases stm s hs with h | h | h <;> omega
   ·exact o s hs (by omega)
  obtain ⟨p,a,rfl⟩:=n s hs k y;have m:∀ q∈S,q.1 < Es.length:=fun q hq=>by rw[hl];exact (c.lt q hq).2
  have z:=Rc c (S.attach.map (fun q=>Es[q.1.1]'(m q.1 q.2))) (by simp) (fun j h1 h2=>by
   have:=v (S[j]).1 (m _ (List.getElem_mem h1));simpa using this)
  rw[Int.toNat_natCast] at he;have hm:e∈S.attach.map (fun q=>Es[q.1.1]'(m q.1 q.2)):=by
   refine List.mem_map.2 ⟨⟨p,a⟩,List.mem_attach _ _, ?_⟩;exact (List.getElem?_eq_some_iff.1 he).2
  have:=VI hm;omega
theorem Ss {N:List Nd}{L:List St}{w:World}{Es:List Ex}(h:XG N L)(hl:Es.length=N.length)(g:∀ j,(h:j < Es.length)→Ev N j Es[j])(i:∀ e∈Es,e.fit w):∀ s∈L,Ya w Es s:=fun s hs=>by
 obtain ⟨d,l⟩:=h.roots s hs;have get:∀ k,(k=s.cond∨k=s.grant)→0≤k∧k < N.length→XH w Es k:=fun k hk c=>
  ⟨k.toNat,Es[k.toNat]'(by omega),by omega,List.getElem?_eq_getElem _,i _ (List.getElem_mem _),h.cnt Es hl g s hs k hk c.1 _ (List.getElem?_eq_getElem (by omega))⟩
 have f:s.grant= -1∨XH w Es s.grant:=l.imp id (fun c=>get _ (.inr rfl) c);rcases h.stm s hs with ⟨a,b,n,m⟩ | ⟨a,b⟩ | ⟨a,b⟩
 ·exact .inl ⟨a,b,get _ (.inl rfl) (d.resolve_left (by omega)),m⟩
 ·exact .inr (.inl ⟨a,get _ (.inl rfl) (d.resolve_left (by omega)),f⟩)
 ·exact .inr (.inr ⟨a,b,f⟩)
theorem GU {Es:List Ex}{m:Nat}{e:Ex}(h:Es[m]? =some e):Wg Es (m:Int)=e.pr:=by
 rw[Wg,Int.toNat_natCast,h]
theorem Pk {w:World}{Es:List Ex}{g:Int}(h:g= -1∨XH w Es g):(WY Es g).size≤16000100:=by
 have e1:(⟨#[103,114,97,110,116,32]⟩:ByteArray).size=6:=rfl;rcases h with rfl | ⟨m,e,rfl,h1,h2,h3⟩
 ·exact (by decide:(⟨#[100,101,110,121]⟩:ByteArray).size≤16000100)
 ·rw[WY,if_neg (by omega),GU h1,ByteArray.size_append,e1];have:=e.pr_size h2;omega
theorem Pl {w:World}{Es:List Ex}{g:Int}(h:XH w Es g):(Wg Es g).size≤16000000:=by
 obtain ⟨m,e,rfl,h1,h2,h3⟩:=h;rw[GU h1];have:=e.pr_size h2;omega
theorem VG {w:World}{Es:List Ex}{s:St}(h:Ya w Es s):(Re Es s).size≤40000000∧0 < (Re Es s).size:=by
 have f:(⟨#[108,101,116,32]⟩:ByteArray).size=4:=rfl;have g:(⟨#[32,61,32]⟩:ByteArray).size=3:=rfl;have i:(⟨#[119,104,101,110,32]⟩:ByteArray).size=5:=rfl;have j:(⟨#[32,61,62,32]⟩:ByteArray).size=4:=rfl;have k:(⟨#[101,108,115,101,32]⟩:ByteArray).size=5:=rfl;have c:(⟨#[59,10]⟩:ByteArray).size=2:=rfl;rcases h with ⟨b,d,a,l⟩ | ⟨b,d,a⟩ | ⟨b,d,a⟩
 ·have:=Pl a;rw[Re,if_pos b];simp only[ByteArray.size_append,f,g,c];omega
 ·have:=Pl d;have:=Pk a;rw[Re,if_neg (by omega),if_pos b];simp only[ByteArray.size_append,i,j,c];omega
 ·have:=Pk a;rw[Re,if_neg (by omega),if_neg (by omega)];simp only[ByteArray.size_append,k,c];omega
def J7 (Es:List Ex) (L:List St):ByteArray:=Nq (L.map (Re Es))
theorem VH (Es:List Ex)(L:List St)(k:Nat)(h:k < L.length):J7 Es (L.take (k+1))=J7 Es (L.take k) ++Re Es L[k]:=by
 rw[J7,J7,List.take_succ_eq_append_getElem h,List.map_append,List.map_cons,List.map_nil,Mr]
theorem Lc {w:World}{Es:List Ex} :∀ {L:List St},(∀ s∈L,Ya w Es s)→(J7 Es L).size≤40000000 * L.length
 | [],_=>by simp[J7,Nq,ByteArray.size]
 | s ::L,h=>by
  have h1:=(VG (h s (List.mem_cons_self ..))).1;have h2:=Lc (L:=L) (fun x hx=>h x (List.mem_cons_of_mem _ hx));rw[J7] at h2;rw[J7,List.map_cons,Nq,ByteArray.size_append,List.length_cons];omega
theorem Jj.setFar {w:World}{a:Option Addr}{n c:Nat}{L:List Int}(h:Jj w a n c L){p:Addr}(f:∀ x,a=some x→p.block≠x.block)(u:Value):Jj (w.setCell p u) a n c L:=
 ⟨h.len,h.small,fun j g=>by
  obtain ⟨b,i,d,k,hc⟩:=h.cells j g;refine ⟨b,i,d,by simpa using k, ?_⟩;rw[← hc];exact World.cell?_of_block (heap_setCell_other w p b u (fun e=>f _ d e.symm))⟩
def V8 (cs:Array Value) (p:Nat) (v0 v1 v2 v3 v4:Value):Array Value:=((((cs.setIfInBounds p v0).setIfInBounds (p+1) v1).setIfInBounds (p+2) v2).setIfInBounds (p+3) v3).setIfInBounds (p+4) v4
theorem Gf {cs:Array Value}{p q:Nat}(h:q < p)(a b c d f:Value):(V8 cs p a b c d f)[q]? =cs[q]? :=by
 unfold V8;rw[Array.getElem?_setIfInBounds_ne (by omega),Array.getElem?_setIfInBounds_ne (by omega),Array.getElem?_setIfInBounds_ne (by omega),Array.getElem?_setIfInBounds_ne (by omega),Array.getElem?_setIfInBounds_ne (by omega)]
def KH (W:World) (b p:Nat) (v0 v1 v2 v3 v4:Value):World:=((((W.setCell ⟨b,p,none⟩ v0).setCell ⟨b,p+1,none⟩ v1).setCell ⟨b,p+2,none⟩ v2).setCell ⟨b,p+3,none⟩ v3).setCell ⟨b,p+4,none⟩ v4
theorem Bg.put5 {w:World}{x:Addr}{n c:Nat}{d:List ByteArray}(h:Bg w (some x) n c d){b p:Nat}(a:b≠x.block)(f g i j k:Value):Bg (KH w b p f g i j k) (some x) n c d:=
 ((((h.setFar (p:=⟨b,p,none⟩) (fun y e=>by cases e;exact a) f).setFar (p:=⟨b,p+1,none⟩) (fun y e=>by cases e;exact a) g).setFar (p:=⟨b,p+2,none⟩) (fun y e=>by cases e;exact a) i).setFar (p:=⟨b,p+3,none⟩) (fun y e=>by cases e;exact a) j).setFar (p:=⟨b,p+4,none⟩) (fun y e=>by cases e;exact a) k
theorem Jj.put5 {w:World}{x:Addr}{n c:Nat}{d:List Int}(h:Jj w (some x) n c d){b p:Nat}(a:b≠x.block)(f g i j k:Value):Jj (KH w b p f g i j k) (some x) n c d:=
 ((((h.setFar (p:=⟨b,p,none⟩) (fun y e=>by cases e;exact a) f).setFar (p:=⟨b,p+1,none⟩) (fun y e=>by cases e;exact a) g).setFar (p:=⟨b,p+2,none⟩) (fun y e=>by cases e;exact a) i).setFar (p:=⟨b,p+3,none⟩) (fun y e=>by cases e;exact a) j).setFar (p:=⟨b,p+4,none⟩) (fun y e=>by cases e;exact a) k
theorem Wd.put5 {w:World}{x:Addr}{n:Nat}{t:TypeId}(h:Wd w x n t){b p:Nat}(a:b≠x.block)(c d f g i:Value):Wd (KH w b p c d f g i) x n t:=
 ((((h.setFar (p:=⟨b,p,none⟩) a c).setFar (p:=⟨b,p+1,none⟩) a d).setFar (p:=⟨b,p+2,none⟩) a f).setFar (p:=⟨b,p+3,none⟩) a g).setFar (p:=⟨b,p+4,none⟩) a i
def Yn (w:World) (g:Nat) (cs:Array Value) (o:Nat) (x:Nd):Prop:=∃ x1 nn x2 nk,cs[o]? =some (.int .i64 x.op)∧cs[o+1]? =some (.int .i64 x.num)∧cs[o+2]? =some (.string x.text)∧cs[o+3]? =some (.slice (some x1) nn nn)∧cs[o+4]? =some (.slice (some x2) nk nk)∧Bg w (some x1) nn nn x.names∧Jj w (some x2) nk nk x.kids∧(Wd w x1 nn 9∧Wd w x2 nk 3)∧g < x1.block∧g < x2.block
theorem Yn.step {w c:World}{g:Nat}{cs:Array Value}{b p:Nat}{x:Nd}(h:Yn w g cs b x)(a:Below w.heap.size w c)(t:b+5≤p)(d f i j k:Value):Yn (KH c g p d f i j k) g (V8 cs p d f i j k) b x:=by
 obtain ⟨m,nn,n,o,q,c1,c2,c3,c4,r,s,l,g1,g2⟩:=h;exact ⟨m,nn,n,o,(Gf (by omega) _ _ _ _ _).trans q,(Gf (by omega) _ _ _ _ _).trans c1,(Gf (by omega) _ _ _ _ _).trans c2,(Gf (by omega) _ _ _ _ _).trans c3,(Gf (by omega) _ _ _ _ _).trans c4,(r.below a NLN).put5 (by omega) _ _ _ _ _,(s.below a NLN).put5 (by omega) _ _ _ _ _,⟨(l.1.below a NLN).put5 (by omega) _ _ _ _ _,(l.2.below a NLN).put5 (by omega) _ _ _ _ _⟩,g1,g2⟩
theorem Yn.at {w:World}{g:Nat}{cs:Array Value}{a:Nat}{x:Nd}{t:TypeId}(h:Yn w g cs a x)(R:An w g cs t):V4 w g a x:=by
 obtain ⟨f,nn,i,j,b,c1,c2,c3,c4,c,d,_,_,_⟩:=h;exact ⟨_,_,_,_,_,_,(R.cell _).trans b,(R.cell _).trans c1,(R.cell _).trans c2,(R.cell _).trans c3,(R.cell _).trans c4,c,d⟩
def Hi (w:World) (g:Nat) (N:List Nd):Prop:=∃ cs,(An w g cs 114∧cs.size=N.length * 5)∧∀ j,(hj:j < N.length)→Yn w g cs (j * 5) N[j]
theorem Hi.nds {w:World}{g n:Nat}{N:List Nd}(h:Hi w g N)(hl:N.length=n)(a:n≤1048576)(hs:∀ x∈N,Xt x):Hj w (some ⟨g,0,none⟩) n n N:=by
 obtain ⟨cs,⟨R,_⟩,hx⟩:=h;exact ⟨hl,a,fun x hx=>(hs x hx).1,fun j b=>⟨g,0,rfl,R.lt,by rw[Nat.zero_add];exact (hx j b).at R⟩⟩
theorem Hi.below {w w':World}{B g:Nat}{N:List Nd}(h:Hi w g N)(a:Below B w w')(b:w.heap.size≤B):Hi w' g N:=by
 obtain ⟨cs,⟨R,d⟩,hx⟩:=h;refine ⟨cs,⟨R.after a b,d⟩,fun j f=>?_⟩;obtain ⟨i,nn,k,l,m,c1,c2,c3,c4,n,o,c,g1,g2⟩:=hx j f;exact ⟨i,nn,k,l,m,c1,c2,c3,c4,n.below a b,o.below a b,⟨c.1.below a b,c.2.below a b⟩,g1,g2⟩
theorem VE.setFar {w:World}{g n c:Nat}{L:List St}(h:VE w (some ⟨g,0,none⟩) n c L){p:Addr}(d:p.block≠g)(u:Value):VE (w.setCell p u) (some ⟨g,0,none⟩) n c L:=
 ⟨h.len,h.small,h.sizes,fun j f=>by
  obtain ⟨b,l,i,hl,k,c1,c2,c3⟩:=h.cells j f;cases i;have e:∀ a,(w.setCell p u).cell? ⟨g,a,none⟩=w.cell? ⟨g,a,none⟩:=fun a=>World.cell?_of_block (heap_setCell_other w p g u (fun e=>d e.symm));exact ⟨g,0,rfl,by simpa using hl,(e _).trans k,(e _).trans c1,(e _).trans c2,(e _).trans c3⟩⟩
def V9 (cs:Array Value) (p:Nat) (v0 v1 v2 v3:Value):Array Value:=(((cs.setIfInBounds p v0).setIfInBounds (p+1) v1).setIfInBounds (p+2) v2).setIfInBounds (p+3) v3
theorem IT {cs:Array Value}{p q:Nat}(h:q < p)(a b c d:Value):(V9 cs p a b c d)[q]? =cs[q]? :=by
 unfold V9;rw[Array.getElem?_setIfInBounds_ne (by omega),Array.getElem?_setIfInBounds_ne (by omega),Array.getElem?_setIfInBounds_ne (by omega),Array.getElem?_setIfInBounds_ne (by omega)]
def Za (cs:Array Value) (o:Nat) (s:St):Prop:=cs[o]? =some (.int .i64 s.kind)∧cs[o+1]? =some (.string s.name)∧cs[o+2]? =some (.int .i64 s.cond)∧cs[o+3]? =some (.int .i64 s.grant)
theorem Za.step {cs:Array Value}{a p:Nat}{s:St}(h:Za cs a s)(g:a+4≤p)(b c d f:Value):Za (V9 cs p b c d f) a s:=
 ⟨(IT (by omega) _ _ _ _).trans h.1,(IT (by omega) _ _ _ _).trans h.2.1,(IT (by omega) _ _ _ _).trans h.2.2.1,(IT (by omega) _ _ _ _).trans h.2.2.2⟩
def Mq (N:List Nd) (L:List St) (s:ByteArray):Prop:=
 (GI N L=false∧s=⟨#[]⟩)∨(GI N L=true∧∃ Es:List Ex,Es.length=N.length∧(∀ j,(h:j < Es.length)→Ev N j Es[j])∧s=J7 Es L)
def LC (L:List St) (j:Nat) (h:j < L.length):Bool:=Cq (decide (j+1=L.length)) L[j]
theorem G5:∀ (L:List St),EO L=true↔∀ j,(h:j < L.length)→LC L j h=true
 | []=>by simp[EO]
 | s ::r=>by
  rw[EO,Bool.and_eq_true,G5 r];have e:r.isEmpty=decide (0+1=(s ::r).length):=by cases r <;> simp
  constructor
  ·rintro ⟨h1,h2⟩ j a;cases j with
   | zero=>rw[e] at h1;exact h1
   | succ j=>
    have:=h2 j (by simpa using a);rw[LC] at this ⊢;simp only[List.getElem_cons_succ,List.length_cons] at this ⊢;rw[show decide (j+1+1=r.length+1)=decide (j+1=r.length) by rw[decide_eq_decide];omega];exact this
  ·intro h;refine ⟨by rw[e];exact h 0 (by simp),fun j a=>?_⟩;have:=h (j+1) (by simpa using a);rw[LC] at this ⊢;simp only[List.getElem_cons_succ,List.length_cons] at this;rw[show decide (j+1+1=r.length+1)=decide (j+1=r.length) by rw[decide_eq_decide];omega] at this;exact this
theorem LD (L:List St)(k:Nat)(h:k < L.length):(L.take (k+1)).flatMap AC=(L.take k).flatMap AC ++AC L[k]:=by
 rw[List.take_succ_eq_append_getElem h,List.flatMap_append];simp
def IR (K:List (List Int)) (n:Nat) (rs:List Int):List Int:=rs.foldl (fun o r=>Bb K n r o) []
theorem PV (K:List (List Int))(n:Nat)(rs a:List Int):IR K n (rs ++a)=a.foldl (fun b r=>Bb K n r b) (IR K n rs):=by rw[IR,List.foldl_append,IR]
theorem RJ {N:List Nd}(h:N.all By=true):∀ a∈N.map Nd.kids,a.length≤3:=by
 intro a hk;obtain ⟨x,hx,rfl⟩:=List.mem_map.1 hk;have:=List.all_eq_true.1 h x hx;rw[Ry,Bool.and_eq_true] at this;have h1:=of_decide_eq_true this.1;unfold GT at h1;split at h1
 ·omega
 ·split at h1
  ·omega
  ·split at h1
   ·omega
   ·split at h1 <;> omega
theorem Ba.kids {K:List (List Int)}{a b:Nat}{d:List (Nat × Nat)}(h:Ba K a d b):∀ j,a≤j→j < b→∃ c,K[j]? =some (Bw c)∧∀ p∈c,p.1 < j:=by
 induction h with
 | nil a=>intro j h1 h2;omega
 | cons hk ht k f g=>
  rename_i a t b c d;intro j h1 h2;rcases Nat.lt_trichotomy j t with e | e | e
  ·exact f j h1 e
  ·subst e;exact ⟨c,ht,fun p i=>(hk.lt p i).2⟩
  ·exact g j (by omega) h2
theorem RK {N:List Nd}{n:Nat}{rs:List Int}(j:N.length=n)(hl:(IR (N.map Nd.kids) n rs).length=n)(d:good (IR (N.map Nd.kids) n rs)):
  (∀ t,(h:t < N.length)→∀ y∈N[t].kids,0≤y∧y < (t:Int))∧∀ r∈rs,0≤r∧r < (n:Int):=by
 obtain ⟨f,e1,b⟩:=GX (K:=N.map Nd.kids) (n:=n) rs [] d;have hf':Ba (N.map Nd.kids) 0 f n:=by
  have:(rs.foldl (fun g k=>Bb (N.map Nd.kids) n k g) []).length=n:=hl;rw[this] at b;exact b
 constructor
 ·intro t h y hy;obtain ⟨i,h1,h2⟩:=hf'.kids t (Nat.zero_le _) (by omega);rw[List.getElem?_map,List.getElem?_eq_getElem h] at h1;have h3:N[t].kids=Bw i:=by simpa using h1
  rw[h3] at hy;obtain ⟨p,a,rfl⟩:=List.mem_map.1 hy;have:=h2 p a;omega
 ·intro r c;rw[← e1] at c;obtain ⟨p,a,rfl⟩:=List.mem_map.1 c;have:=hf'.lt p a;omega
end Go.Proofs.YtdldimphcpojoaaGreatDoor
namespace Go.Proofs.YtdldimphcpojoaaGreatDoor
set_option maxHeartbeats 1600000
open Go.RowKit
set_option linter.unusedVariables false
variable {aS aB aT : Addr}
def NC (aS aB aT:Addr):L3→Value
 | .bad c=> .tuple #[.agg #[.int .i64 0,.int .i64 0,.string ⟨#[]⟩,.int .i64 0],.int .i64 0,GQ aS aB aT c]
 | .tok k m s w=> .tuple #[.agg #[.int .i64 k,.int .i64 m,.string (Ax s),.int .i64 0],.int .i64 (w:Int),.nilIface]
theorem CB {g:World}{b:Nat}{i j k l:Value}{t:TypeId}(h:An g b #[i,j,k,l] t)(a c d f:Value):
  ((((g.setCell ⟨b,0,none⟩ a).setCell ⟨b,1,none⟩ c).setCell ⟨b,2,none⟩ d).setCell ⟨b,3,none⟩ f).drew.cell? ⟨b,0,none⟩=some a∧((((g.setCell ⟨b,0,none⟩ a).setCell ⟨b,1,none⟩ c).setCell ⟨b,2,none⟩ d).setCell ⟨b,3,none⟩ f).drew.cell? ⟨b,1,none⟩=some c∧
  ((((g.setCell ⟨b,0,none⟩ a).setCell ⟨b,1,none⟩ c).setCell ⟨b,2,none⟩ d).setCell ⟨b,3,none⟩ f).drew.cell? ⟨b,2,none⟩=some d∧((((g.setCell ⟨b,0,none⟩ a).setCell ⟨b,1,none⟩ c).setCell ⟨b,2,none⟩ d).setCell ⟨b,3,none⟩ f).drew.cell? ⟨b,3,none⟩=some f:=by
 have R:An ((((g.setCell ⟨b,0,none⟩ a).setCell ⟨b,1,none⟩ c).setCell ⟨b,2,none⟩ d).setCell ⟨b,3,none⟩ f).drew b #[a,c,d,f] t:=⟨(Aw h a c d f).out⟩
 obtain ⟨m,g1,g2,g3,_⟩:=AE R;exact ⟨m,g1,g2,g3⟩
theorem El (aS aB aT:Addr):NC aS aB aT (.bad 3)= .tuple #[.agg #[.int .i64 0,.int .i64 0,.string ⟨#[]⟩,.int .i64 0],.int .i64 0,.iface 225 (.pointer (some aT))]:=rfl
theorem Xp (aS aB aT:Addr):NC aS aB aT (.bad 2)= .tuple #[.agg #[.int .i64 0,.int .i64 0,.string ⟨#[]⟩,.int .i64 0],.int .i64 0,.iface 225 (.pointer (some aB))]:=rfl
theorem Nw (r:ByteArray)(w:World)(hs:r.size≤1048576)(S:LF w aS aB aT):
  Calls Tryz.prog 73 #[.string r] w fun e w'=>e= .returned (NC aS aB aT (Bn (Ak r)))∧Below w.heap.size w w':=by
 have l:=FJ Ed (Ak r);rw[As] at l;have d:=An.new w #[.int .i64 0,.int .i64 0,.string ⟨#[]⟩,.int .i64 0] 41;have f:=(Below.refl w.heap.size w).alloc NLN (.cells #[.int .i64 0,.int .i64 0,.string ⟨#[]⟩,.int .i64 0] 41);have m:=(S.below f NLN).gT;have p:=S.big;have q:w.heap.size≠5:=by omega
 have s: 5≠w.heap.size:=by omega
 go_enter Tryz.func73,Tryz.ntmps73
 go_wp2_with fail
 generalize w.alloc (.cells #[.int .i64 0,.int .i64 0,.string ⟨#[]⟩,.int .i64 0] 41)=t at d f m ⊢;refine (VU r _ (by unfold maxLen;omega)).mono ?_;rintro e n ⟨rfl,a⟩;rw[a];clear a;obtain ⟨u,d1,d2,d3,v⟩:=AE d;by_cases j: 32 < AK Ed (Ak r)
 ·have o:(32 :Int) < (AK Ed (Ak r):Int):=by omega
  go_wp2_with fail
  go_region
  go_wp2_with fail
  have g:=Aj (b:=w.heap.size) f NLN (.int .i64 0) (.int .i64 0) (.string ⟨#[]⟩) (.int .i64 0);obtain ⟨c,g1,g2,g3⟩:=CB d (.int .i64 0) (.int .i64 0) (.string ⟨#[]⟩) (.int .i64 0);refine bodyPost_ret (Au Tryz.results73 rfl c g1 g2 g3) rfl ⟨?_,g.drew⟩;rw[Bn,if_pos j,El];rfl
 ·have o: ¬ ((32 :Int) < (AK Ed (Ak r):Int)):=by omega
  have y:(AK Ed (Ak r):Int)≤(r.size:Int):=by omega
  have k:=Ab (show Bn (Ak r)= .tok (if Gb ((Ak r).take (AK Ed (Ak r))) then 4 else 3) 0 ((Ak r).take (AK Ed (Ak r))) (AK Ed (Ak r)) by rw[Bn,if_neg j]);have h:=Ab (show Ak (r.extract 0 (AK Ed (Ak r)))=(Ak r).take (AK Ed (Ak r)) by rw[Bk,List.drop_zero,Nat.sub_zero]);go_wp2_with fail
  generalize r.extract 0 (AK Ed (Ak r))=x at h ⊢;refine (Rq x _).mono ?_;rintro e n ⟨rfl,a⟩;rw[a];clear a;cases a:Gb (Ak x)
  ·have i:=Ab a;clear a;go_wp2_with fail
   have g:=Aj (b:=w.heap.size) f NLN (.int .i64 3) (.int .i64 0) (.string x) (.int .i64 0);obtain ⟨c,g1,g2,g3,_⟩:=AE (Aw d (.int .i64 3) (.int .i64 0) (.string x) (.int .i64 0));simp only[BN] at c g1 g2 g3;refine bodyPost_ret (Au Tryz.results73 rfl c g1 g2 g3) rfl ⟨?_,g⟩;rw[Aa k,← Aa h,Aa i];simp only[NC,BE];rfl
  ·have i:=Ab a;clear a;go_wp2_with fail
   have g:=Aj (b:=w.heap.size) f NLN (.int .i64 4) (.int .i64 0) (.string x) (.int .i64 0);obtain ⟨c,g1,g2,g3,_⟩:=AE (Aw d (.int .i64 4) (.int .i64 0) (.string x) (.int .i64 0));simp only[BN] at c g1 g2 g3;refine bodyPost_ret (Au Tryz.results73 rfl c g1 g2 g3) rfl ⟨?_,g⟩;rw[Aa k,← Aa h,Aa i];simp only[NC,BE];rfl
end Go.Proofs.YtdldimphcpojoaaGreatDoor
namespace Go.Proofs.YtdldimphcpojoaaGreatDoor
set_option maxHeartbeats 3200000
open Go.RowKit
set_option linter.unusedVariables false
variable {aS aB aT : Addr}
theorem Yf {y:ByteArray}{n:Nat}(h:n < y.size):(Ak y)[n]? =some y[n]:=by
 have a:n < (Ak y).length:=by rw[As];exact h
 rw[List.getElem?_eq_getElem a];rfl
theorem Lq (r:ByteArray)(w:World)(hs:r.size≤1048576)(h0: 0 < r.size)(S:LF w aS aB aT):
  Calls Tryz.prog 74 #[.string r] w fun e w'=>e= .returned (NC aS aB aT (BH ((Ak r).drop 1)))∧Below w.heap.size w w':=by
 have f:=An.new w #[.int .i64 0,.int .i64 0,.string ⟨#[]⟩,.int .i64 0] 41;have g:=(Below.refl w.heap.size w).alloc NLN (.cells #[.int .i64 0,.int .i64 0,.string ⟨#[]⟩,.int .i64 0] 41);have q:=(S.below g NLN).gT;have C:=S.big;have E:w.heap.size≠5:=by omega
 have F: 5≠w.heap.size:=by omega
 have H:(1 :Int)≤(r.size:Int):=by omega
 have l:=Ab (PG r 1);have s:(r.extract 1 r.size).size=r.size - 1:=by rw[ByteArray.size_extract];omega
 go_enter Tryz.func74,Tryz.ntmps74
 go_wp2_with fail
 generalize w.alloc (.cells #[.int .i64 0,.int .i64 0,.string ⟨#[]⟩,.int .i64 0] 41)=I at f g q ⊢;generalize r.extract 1 r.size=y at l s ⊢;have m:=FJ GE (Ak y);rw[As] at m;refine (VV y _ (by unfold maxLen;omega)).mono ?_;rintro e J ⟨rfl,o⟩;rw[o];clear o;obtain ⟨K,d1,d2,d3,L⟩:=AE f;have a:=Ab (show BH ((Ak r).drop 1)=if 32 < AK GE (Ak y)∨(Ak y)[AK GE (Ak y)]? ≠some 34 then .bad 3 else .tok 2 0 ((Ak y).take (AK GE (Ak y))) (AK GE (Ak y)+2) by rw[← Aa l];rfl);have j:=Ab (show Ak (y.extract 0 (AK GE (Ak y)))=(Ak y).take (AK GE (Ak y)) by rw[Bk,List.drop_zero,Nat.sub_zero]);generalize AK GE (Ak y)=n at m a j ⊢;by_cases t: 32 < n
 ·have u:(32 :Int) < (n:Int):=by omega
  have a:=Ab ((Aa a).trans (if_pos (.inl t)));go_wp2_with fail
  go_region
  go_wp2_with fail
  have d:=Aj (b:=w.heap.size) g NLN (.int .i64 0) (.int .i64 0) (.string ⟨#[]⟩) (.int .i64 0);obtain ⟨c,g1,g2,g3⟩:=CB f (.int .i64 0) (.int .i64 0) (.string ⟨#[]⟩) (.int .i64 0);exact bodyPost_ret (Au Tryz.results74 rfl c g1 g2 g3) rfl ⟨by rw[Aa a,El];rfl,d.drew⟩
 have u: ¬ ((32 :Int) < (n:Int)):=by omega
 by_cases M:n=y.size
 ·have e:(Ak y)[n]? ≠some 34:=by rw[List.getElem?_eq_none (by rw[As];omega)];simp
  have a:=Ab ((Aa a).trans (if_pos (.inr e)));clear e;have v:((n:Int)==((r.size - 1 :Nat):Int))=true:=beq_iff_eq.2 (by omega);have z:((n:Int)==(y.size:Int))=true:=beq_iff_eq.2 (by omega);go_wp2_with fail
  go_region
  go_wp2_with fail
  have d:=Aj (b:=w.heap.size) g NLN (.int .i64 0) (.int .i64 0) (.string ⟨#[]⟩) (.int .i64 0);obtain ⟨c,g1,g2,g3⟩:=CB f (.int .i64 0) (.int .i64 0) (.string ⟨#[]⟩) (.int .i64 0);exact bodyPost_ret (Au Tryz.results74 rfl c g1 g2 g3) rfl ⟨by rw[Aa a,El];rfl,d.drew⟩
 have A:n < y.size:=by omega
 have N:(n:Int) < (y.size:Int):=by omega
 have O:(n:Int) < ((r.size - 1 :Nat):Int):=by omega
 have v:((n:Int)==((r.size - 1 :Nat):Int))=false:=beq_eq_false_iff_ne.2 (by omega);have z:((n:Int)==(y.size:Int))=false:=beq_eq_false_iff_ne.2 (by omega);have h:=Yf A;by_cases i:(y[n].toNat:Int)=34
 ·have p:y[n]=34:=UInt8.toNat_inj.1 (by have:(34 :UInt8).toNat=34:=rfl;omega);have e: ¬ (32 < n∨(Ak y)[n]? ≠some 34):=by rw[h,p];simp;omega
  have a:=Ab ((Aa a).trans (if_neg e));clear e;clear h p;have B:((y[n].toNat:Int)== 34)=true:=beq_iff_eq.2 i;go_wp2_with fail
  generalize y.extract 0 n=x at j ⊢;have d:=Aj (b:=w.heap.size) g NLN (.int .i64 2) (.int .i64 0) (.string x) (.int .i64 0);obtain ⟨c,g1,g2,g3,_⟩:=AE (Aw f (.int .i64 2) (.int .i64 0) (.string x) (.int .i64 0));simp only[BN] at c g1 g2 g3;refine bodyPost_ret (Au Tryz.results74 rfl c g1 g2 g3) rfl ⟨?_,d⟩;rw[Aa a,← Aa j];simp only[NC,BE];rw[Int.natCast_add];rfl
 ·have e:(Ak y)[n]? ≠some 34:=by rw[h];intro k;exact i (by rw[Option.some.inj k];rfl)
  have a:=Ab ((Aa a).trans (if_pos (.inr e)));clear h e;have B:=beq_eq_false_iff_ne.2 i;have P:((y[n].toNat:Int) != 34)=true:=bne_iff_ne.2 i;go_wp2_with fail
  go_region
  go_wp2_with fail
  have d:=Aj (b:=w.heap.size) g NLN (.int .i64 0) (.int .i64 0) (.string ⟨#[]⟩) (.int .i64 0);obtain ⟨c,g1,g2,g3⟩:=CB f (.int .i64 0) (.int .i64 0) (.string ⟨#[]⟩) (.int .i64 0);exact bodyPost_ret (Au Tryz.results74 rfl c g1 g2 g3) rfl ⟨by rw[Aa a,El];rfl,d.drew⟩
theorem Xq {l:List UInt8}{c:UInt8}(h:Lib.indexByte l c < 0):l.contains c=false:=by
 have h1:Lib.indexByte l c= -1:=by have:=Lib.indexByte_ge l c;omega
 rw[← Bool.not_eq_true,List.contains_iff_mem];intro hm;obtain ⟨i,hi,e⟩:=List.getElem_of_mem hm;exact Lib.indexByte_none h1 i (by rw[List.getElem?_eq_getElem hi,e])
theorem Xr {l:List UInt8}{c:UInt8}(h: ¬ Lib.indexByte l c < 0):l.contains c=true:=by
 obtain ⟨d,b⟩:=Int.eq_ofNat_of_zero_le (a:=Lib.indexByte l c) (by omega);have:=(Lib.indexByte_some b).1;rw[List.contains_iff_mem];exact List.mem_of_getElem? this
theorem Y9 (c:UInt8):(c.toNat:Int).toNat.toUInt8=c:=by simp
theorem Lr (w:World)(S:LF w aS aB aT):∃ a,w.alloc (.cells #[.int .i64 0,.int .i64 0,.string ⟨#[]⟩,.int .i64 0] 41)=a∧An a w.heap.size #[.int .i64 0,.int .i64 0,.string ⟨#[]⟩,.int .i64 0] 41∧Below w.heap.size w a∧LF a aS aB aT:=by
 have b:=(Below.refl w.heap.size w).alloc NLN (.cells #[.int .i64 0,.int .i64 0,.string ⟨#[]⟩,.int .i64 0] 41);exact ⟨_,rfl,An.new w _ _,b,S.below b NLN⟩
theorem Nx {x:ByteArray}{l y:List UInt8}(hx:Ak x=l.take 2)(h:(x.toList== y)=true)(hy:y∈Cj):Cj.contains (l.take 2)=true∧2≤l.length:=by
 rw[beq_iff_eq,ByteArray.toList_eq] at h;have e:l.take 2=y:=hx.symm.trans h;rw[e,List.contains_iff_mem];refine ⟨hy, ?_⟩;have h2:∀ a∈Cj,a.length=2:=by decide
 have:=h2 _ hy;rw[← e,List.length_take] at this;omega
theorem Xs {x:ByteArray}{l:List UInt8}(hx:Ak x=l.take 2)(h:∀ y∈Cj,(x.toList== y)=false):Cj.contains (l.take 2)=false:=by
 rw[← Bool.not_eq_true,List.contains_iff_mem];intro hm;have:=h _ hm;rw[beq_eq_false_iff_ne,ByteArray.toList_eq] at this;exact this hx
theorem Ny (r:ByteArray)(w:World)(hs:r.size≤1048576)(h0: 0 < r.size)(S:LF w aS aB aT):
  Calls Tryz.prog 75 #[.string r] w fun e w'=>e= .returned (NC aS aB aT (A8 r[0] (Ak r)))∧Below w.heap.size w w':=by
 obtain ⟨t,q,i,j,s⟩:=Lr w S;have u:=s.gB;have v:=S.big;have x:w.heap.size≠4:=by omega
 have z: 4≠w.heap.size:=by omega
 have A:(1 :Int)≤(r.size:Int):=by omega
 have B: 0≤min (2 :Int) (r.size:Int):=by omega
 have C:min (2 :Int) (r.size:Int)≤(r.size:Int):=by omega
 have k:=Ab (show Ak (r.extract 0 (min 2 (r.size:Int)).toNat)=(Ak r).take 2 by
  rw[Bk,List.drop_zero,Nat.sub_zero];rcases Nat.lt_or_ge r.size 2 with h | h
  ·rw[show (min (2 :Int) (r.size:Int)).toNat=r.size by omega,List.take_of_length_le (by rw[As];exact NLN),List.take_of_length_le (by rw[As];omega)]
  ·rw[show (min (2 :Int) (r.size:Int)).toNat=2 by omega])
 have g:=Ab (show Ak (r.extract 0 2)=(Ak r).take 2 by rw[Bk,List.drop_zero]);have m:=Ab (show Ak (r.extract 0 1)= [r[0]] by
  have h:=BJ r 0 h0;rw[List.drop_zero] at h;rw[Bk,List.drop_zero,h];rfl)
 obtain ⟨E,d1,d2,d3,F⟩:=AE i;rcases Bool.eq_false_or_eq_true ((r.extract 0 (min 2 (r.size:Int)).toNat).toList== [61,62]) with h0 | h0
 ·have c:=Ab (Nx (Aa k) h0 (by decide));have l:(2 :Int)≤(r.size:Int):=by have:=(Aa c).2;rw[As] at this;omega
  go_enter Tryz.func75,Tryz.ntmps75
  go_wp2_with fail
  generalize r.extract 0 2=d at g ⊢;have f:=Aj (b:=w.heap.size) j NLN (.int .i64 5) (.int .i64 0) (.string d) (.int .i64 0);obtain ⟨a,g1,g2,g3,_⟩:=AE (Aw i (.int .i64 5) (.int .i64 0) (.string d) (.int .i64 0));simp only[BN] at a g1 g2 g3;refine bodyPost_ret (Au Tryz.results75 rfl a g1 g2 g3) rfl ⟨?_,f⟩;rw[A8,if_pos (Aa c).1,← Aa g];simp only[NC,BE];rfl
 rcases Bool.eq_false_or_eq_true ((r.extract 0 (min 2 (r.size:Int)).toNat).toList== [61,61]) with h1 | h1
 ·have c:=Ab (Nx (Aa k) h1 (by decide));have l:(2 :Int)≤(r.size:Int):=by have:=(Aa c).2;rw[As] at this;omega
  go_enter Tryz.func75,Tryz.ntmps75
  go_wp2_with fail
  generalize r.extract 0 2=d at g ⊢;have f:=Aj (b:=w.heap.size) j NLN (.int .i64 5) (.int .i64 0) (.string d) (.int .i64 0);obtain ⟨a,g1,g2,g3,_⟩:=AE (Aw i (.int .i64 5) (.int .i64 0) (.string d) (.int .i64 0));simp only[BN] at a g1 g2 g3;refine bodyPost_ret (Au Tryz.results75 rfl a g1 g2 g3) rfl ⟨?_,f⟩;rw[A8,if_pos (Aa c).1,← Aa g];simp only[NC,BE];rfl
 rcases Bool.eq_false_or_eq_true ((r.extract 0 (min 2 (r.size:Int)).toNat).toList== [33,61]) with h2 | h2
 ·have c:=Ab (Nx (Aa k) h2 (by decide));have l:(2 :Int)≤(r.size:Int):=by have:=(Aa c).2;rw[As] at this;omega
  go_enter Tryz.func75,Tryz.ntmps75
  go_wp2_with fail
  generalize r.extract 0 2=d at g ⊢;have f:=Aj (b:=w.heap.size) j NLN (.int .i64 5) (.int .i64 0) (.string d) (.int .i64 0);obtain ⟨a,g1,g2,g3,_⟩:=AE (Aw i (.int .i64 5) (.int .i64 0) (.string d) (.int .i64 0));simp only[BN] at a g1 g2 g3;refine bodyPost_ret (Au Tryz.results75 rfl a g1 g2 g3) rfl ⟨?_,f⟩;rw[A8,if_pos (Aa c).1,← Aa g];simp only[NC,BE];rfl
 rcases Bool.eq_false_or_eq_true ((r.extract 0 (min 2 (r.size:Int)).toNat).toList== [60,61]) with h3 | h3
 ·have c:=Ab (Nx (Aa k) h3 (by decide));have l:(2 :Int)≤(r.size:Int):=by have:=(Aa c).2;rw[As] at this;omega
  go_enter Tryz.func75,Tryz.ntmps75
  go_wp2_with fail
  generalize r.extract 0 2=d at g ⊢;have f:=Aj (b:=w.heap.size) j NLN (.int .i64 5) (.int .i64 0) (.string d) (.int .i64 0);obtain ⟨a,g1,g2,g3,_⟩:=AE (Aw i (.int .i64 5) (.int .i64 0) (.string d) (.int .i64 0));simp only[BN] at a g1 g2 g3;refine bodyPost_ret (Au Tryz.results75 rfl a g1 g2 g3) rfl ⟨?_,f⟩;rw[A8,if_pos (Aa c).1,← Aa g];simp only[NC,BE];rfl
 have n:=Ab (Xs (Aa k) (by
  intro y hy;simp only[Cj,List.mem_cons,List.not_mem_nil,or_false] at hy;rcases hy with rfl | rfl | rfl | rfl <;> assumption))
 go_enter Tryz.func75,Tryz.ntmps75
 go_wp2_with fail
 clear q;refine (Tryz.strings_IndexByte _ _ _).mono ?_;rintro e H ⟨rfl,o⟩;rw[o,Y9];clear o;rw[show (⟨#[60,43,45,42,47,37,124,38,92,40,41,123,125,44,59,61]⟩:ByteArray).data.toList=Dq from rfl];by_cases hi:Lib.indexByte Dq r[0] < 0
 ·have Hi:=Ab (Xq hi);go_wp2_with fail
  go_region
  go_wp2_with fail
  have f:=Aj (b:=w.heap.size) j NLN (.int .i64 0) (.int .i64 0) (.string ⟨#[]⟩) (.int .i64 0);obtain ⟨a,g1,g2,g3⟩:=CB i (.int .i64 0) (.int .i64 0) (.string ⟨#[]⟩) (.int .i64 0);refine bodyPost_ret (Au Tryz.results75 rfl a g1 g2 g3) rfl ⟨?_,f.drew⟩;rw[A8,if_neg (by rw[Aa n];decide),if_neg (by rw[Aa Hi];decide),Xp];rfl
 ·have Hi:=Ab (Xr hi);go_wp2_with fail
  generalize r.extract 0 1=p at m ⊢;have f:=Aj (b:=w.heap.size) j NLN (.int .i64 5) (.int .i64 0) (.string p) (.int .i64 0);obtain ⟨a,g1,g2,g3,_⟩:=AE (Aw i (.int .i64 5) (.int .i64 0) (.string p) (.int .i64 0));simp only[BN] at a g1 g2 g3;refine bodyPost_ret (Au Tryz.results75 rfl a g1 g2 g3) rfl ⟨?_,f⟩;rw[A8,if_neg (by rw[Aa n];decide),if_pos (Aa Hi),← Aa m];simp only[NC,BE];rfl
end Go.Proofs.YtdldimphcpojoaaGreatDoor
namespace Go.Proofs.YtdldimphcpojoaaGreatDoor
set_option maxHeartbeats 3200000
open Go.RowKit
set_option linter.unusedVariables false
variable {aS aB aT : Addr}
theorem IL (M:Nat)(a: 10000000000000000000≤M):∀ (d:List UInt8) (acc:Nat),d.all Ci=true→(acc+1) * 10 ^ d.length≤10000000000000000000→∃ u,Lib.parseUintM M acc d= .ok u∧(u:Int)=(acc:Int) * 10 ^ d.length+CC d
 | [],acc,_,_=>⟨acc,rfl,by simp[CC]⟩
 | c ::r,acc,h,hb=>by
  rw[List.all_cons,Bool.and_eq_true] at h;obtain ⟨h1,h2⟩:=(E8 c).1 h.1;have b: 1≤10 ^ r.length:=Nat.one_le_pow _ _ (by decide);rw[List.length_cons,Nat.pow_succ] at hb;have f:(acc+1) * 10≤10000000000000000000:=by
   refine Nat.le_trans ?_ hb;rw[Nat.mul_comm (10 ^ r.length) 10,← Nat.mul_assoc];exact Nat.le_mul_of_pos_right _ (by omega)
  obtain ⟨u,e1,e2⟩:=IL M a r (acc * 10+(c.toNat - 48)) h.2 (by
   refine Nat.le_trans ?_ hb;rw[Nat.mul_comm (10 ^ r.length) 10,← Nat.mul_assoc];exact Nat.mul_le_mul_right _ (by omega))
  refine ⟨u, ?_, ?_⟩
  ·rw[Lib.parseUintM,if_pos (by omega),if_neg (by omega),if_neg (by omega)];exact e1
  ·rw[e2,Lm,List.length_cons,Int.pow_succ,← Int.add_assoc]
   congr 1
   rw[Int.natCast_add,Int.natCast_mul,Int.natCast_sub (by omega),Int.add_mul,Int.mul_comm (10 ^ r.length) 10,← Int.mul_assoc];rfl
theorem Mz {d:List UInt8}(h0:d≠ [])(a:d.length≤19)(h:d.all Ci=true):Lib.parseIntB 64 d=if 9223372036854775807 < CC d then .range else .ok (CC d):=by
 obtain ⟨u,e1,e2⟩:=IL (2 ^ 64 - 1) (by decide) d 0 h (by
  have: 10 ^ d.length≤10 ^ 19:=Nat.pow_le_pow_right (by decide) a;have e: 10 ^ 19=10000000000000000000:=rfl;omega)
 simp only[Int.natCast_zero,Int.zero_mul,Int.zero_add] at e2;cases d with
 | nil=>exact absurd rfl h0
 | cons c r=>
  have hc:=(E8 c).1 (by rw[List.all_cons,Bool.and_eq_true] at h;exact h.1);have b: ¬ c.toNat=43:=by omega
  have f: ¬ c.toNat=45:=by omega
  have e3:Lib.parseUintB 64 (c ::r)= .ok u:=by rw[Lib.parseUintB,if_neg (by simp)];exact e1
  rw[Lib.parseIntB];simp only[b,f,or_self,if_false,e3];by_cases hu: 9223372036854775807 < CC (c ::r)
  ·rw[if_pos hu,if_pos ⟨not_false,by show 9223372036854775808≤u;omega⟩]
  ·rw[if_neg hu,if_neg (fun k=>by have: 9223372036854775808≤u:=k.2;omega),if_neg (fun k=>k.1),e2]
theorem Ls (r:ByteArray)(w:World)(hs:r.size≤1048576)(h0: 1≤AK Ci (Ak r))(S:LF w aS aB aT):
  Calls Tryz.prog 71 #[.string r] w fun e w'=>e= .returned (NC aS aB aT (Bm (Ak r)))∧Below w.heap.size w w':=by
 obtain ⟨y,W,z,m,H⟩:=Lr w S;have L:=H.gT;have aa:=S.big;have ab:w.heap.size≠5:=by omega
 have ac: 5≠w.heap.size:=by omega
 have V:=FJ Ci (Ak r);rw[As] at V;obtain ⟨C,d1,d2,d3,E⟩:=AE z;have o:=Ab (show Ak (r.extract 0 (AK Ci (Ak r)))=(Ak r).take (AK Ci (Ak r)) by rw[Bk,List.drop_zero,Nat.sub_zero]);have M:=Ab (Dg Ci (Ak r));have a:=Ab (show Bm (Ak r)=if 19 < AK Ci (Ak r)∨BG (Ak r) (AK Ci (Ak r))=true∨9223372036854775807 < CC ((Ak r).take (AK Ci (Ak r))) then .bad 3 else .tok 1 (CC ((Ak r).take (AK Ci (Ak r)))) [] (AK Ci (Ak r)) from rfl);have O:(r.extract 0 (AK Ci (Ak r))).size=AK Ci (Ak r):=by rw[ByteArray.size_extract];omega
 go_enter Tryz.func71,Tryz.ntmps71
 go_wp2_with fail
 clear W;refine (VT r _ (by unfold maxLen;omega)).mono ?_;rintro e ad ⟨rfl,c⟩;rw[c];clear c;generalize AK Ci (Ak r)=n at h0 V a o M O ⊢;have ae:(n:Int)≤(r.size:Int):=by omega
 by_cases P: 19 < n
 ·have X:(19 :Int) < (n:Int):=by omega
  have a:=Ab ((Aa a).trans (if_pos (.inl P)));go_wp2_with fail
  go_region
  go_wp2_with fail
  have i:=Aj (b:=w.heap.size) m NLN (.int .i64 0) (.int .i64 0) (.string ⟨#[]⟩) (.int .i64 0);obtain ⟨g,g1,g2,g3⟩:=CB z (.int .i64 0) (.int .i64 0) (.string ⟨#[]⟩) (.int .i64 0);exact bodyPost_ret (Au Tryz.results71 rfl g g1 g2 g3) rfl ⟨by rw[Aa a,El];rfl,i.drew⟩
 have X: ¬ ((19 :Int) < (n:Int)):=by omega
 by_cases Y:n < r.size
 ·have Z:(n:Int) < (r.size:Int):=by omega
  have F:BG (Ak r) n=(NI r[n] || decide (r[n]=95)):=by
   have:=Lp (s:=r) (j:=0) Y (Nat.zero_le _)
   rwa[List.drop_zero,Nat.sub_zero] at this
  cases A:IG (r[n].toNat:Int)
  ·by_cases Q:(r[n].toNat:Int)=95
   ·have e:BG (Ak r) n=true:=by rw[F];simp[NI,VX Q]
    have a:=Ab ((Aa a).trans (if_pos (.inr (.inl e))));clear e F A;go_wp2_with (go_at_call 72;refine (Bz _ _).mono ?_;rintro e w' ⟨rfl,c⟩;rw[show IG 95=false from by decide,c];clear c)
    go_region
    go_wp2_with fail
    have i:=Aj (b:=w.heap.size) m NLN (.int .i64 0) (.int .i64 0) (.string ⟨#[]⟩) (.int .i64 0);obtain ⟨g,g1,g2,g3⟩:=CB z (.int .i64 0) (.int .i64 0) (.string ⟨#[]⟩) (.int .i64 0);exact bodyPost_ret (Au Tryz.results71 rfl g g1 g2 g3) rfl ⟨by rw[Aa a,El];rfl,i.drew⟩
   ·have e:BG (Ak r) n=false:=by rw[F];simp[NI,A,SF Q]
    have af:=beq_eq_false_iff_ne.2 Q;have R:=Ab e;have T:=Ab A;clear e F A;go_wp2_with (go_at_call 72;refine (Bz _ _).mono ?_;rintro e w' ⟨rfl,c⟩;rw[Aa T,c];clear c)
    generalize r.extract 0 n=x at o O ⊢;have I:Ak x≠ []:=fun k=>by have:=congrArg List.length k;rw[As,List.length_nil] at this;omega
    have h:=Mz (d:=Ak x) I (by rw[As];omega) (by rw[Aa o];exact Aa M);rw[Aa o] at h;clear C d1 d2 d3 E I L;by_cases l: 9223372036854775807 < CC ((Ak r).take n)
    ·have a:=Ab ((Aa a).trans (if_pos (.inr (.inr l))));rw[if_pos l] at h;obtain ⟨U,p,J⟩:=H.gR;have q:=Tryz.strconv_ParseInt_10_at64_range_var x (by omega) (by rw[show x.data.toList=(Ak r).take n from Aa o];exact h) U p y J;clear J h l;refine q.mono ?_;rintro e K ⟨N,rfl,_,_,f⟩;clear q;have u:=z.after f NLN;have B:=m.trans (f.mono m.size);have L:=(H.below f NLN).gT;clear f;obtain ⟨C,d1,d2,d3,E⟩:=AE u;go_wp2_with fail
     go_region
     go_wp2_with fail
     have i:=Aj (b:=w.heap.size) B NLN (.int .i64 0) (.int .i64 0) (.string ⟨#[]⟩) (.int .i64 0);obtain ⟨g,g1,g2,g3⟩:=CB u (.int .i64 0) (.int .i64 0) (.string ⟨#[]⟩) (.int .i64 0);exact bodyPost_ret (Au Tryz.results71 rfl g g1 g2 g3) rfl ⟨by rw[Aa a,El];rfl,i.drew⟩
    ·have e: ¬ (19 < n∨BG (Ak r) n=true∨9223372036854775807 < CC ((Ak r).take n)):=by
      rintro (k | k | k)
      ·exact P k
      ·rw[Aa R] at k;cases k
      ·exact l k
     have a:=Ab ((Aa a).trans (if_neg e));rw[if_neg l] at h;have q:=Tryz.strconv_ParseInt_10_at64_ok x (by omega) _ (by rw[show x.data.toList=(Ak r).take n from Aa o];exact h) y;clear h l e;refine q.mono ?_;rintro e K ⟨rfl,c⟩;clear q;have f:Below y.heap.size y K:=by
      rcases c with rfl | ⟨t,rfl⟩
      ·exact BRN
      ·exact Lib.bytesWorld_below y _ t
     clear c;generalize CC ((Ak r).take n)=v at a ⊢;have u:=z.after f NLN;have B:=m.trans (f.mono m.size);clear f;obtain ⟨C,d1,d2,d3,E⟩:=AE u;go_wp2_with fail
     have i:=Aj (b:=w.heap.size) B NLN (.int .i64 1) (.int .i64 v) (.string ⟨#[]⟩) (.int .i64 0);obtain ⟨g,g1,g2,g3,_⟩:=AE (Aw u (.int .i64 1) (.int .i64 v) (.string ⟨#[]⟩) (.int .i64 0));simp only[BN] at g g1 g2 g3;refine bodyPost_ret (Au Tryz.results71 rfl g g1 g2 g3) rfl ⟨?_,i⟩;rw[Aa a];rfl
  ·have e:BG (Ak r) n=true:=by rw[F];simp[NI,A]
   have a:=Ab ((Aa a).trans (if_pos (.inr (.inl e))));have T:=Ab A;clear e F A;go_wp2_with (go_at_call 72;refine (Bz _ _).mono ?_;rintro e w' ⟨rfl,c⟩;rw[Aa T,c];clear c)
   go_region
   go_wp2_with fail
   have i:=Aj (b:=w.heap.size) m NLN (.int .i64 0) (.int .i64 0) (.string ⟨#[]⟩) (.int .i64 0);obtain ⟨g,g1,g2,g3⟩:=CB z (.int .i64 0) (.int .i64 0) (.string ⟨#[]⟩) (.int .i64 0);exact bodyPost_ret (Au Tryz.results71 rfl g g1 g2 g3) rfl ⟨by rw[Aa a,El];rfl,i.drew⟩
 ·have Z: ¬ ((n:Int) < (r.size:Int)):=by omega
  have R:=Ab (show BG (Ak r) n=false by have:=JS (s:=r) (j:=0) (k:=n) (by omega);rwa[List.drop_zero,Nat.sub_zero] at this);go_wp2_with fail
  generalize r.extract 0 n=x at o O ⊢;have I:Ak x≠ []:=fun k=>by have:=congrArg List.length k;rw[As,List.length_nil] at this;omega
  have h:=Mz (d:=Ak x) I (by rw[As];omega) (by rw[Aa o];exact Aa M);rw[Aa o] at h;clear C d1 d2 d3 E I L;by_cases l: 9223372036854775807 < CC ((Ak r).take n)
  ·have a:=Ab ((Aa a).trans (if_pos (.inr (.inr l))));rw[if_pos l] at h;obtain ⟨U,p,J⟩:=H.gR;have q:=Tryz.strconv_ParseInt_10_at64_range_var x (by omega) (by rw[show x.data.toList=(Ak r).take n from Aa o];exact h) U p y J;clear J h l;refine q.mono ?_;rintro e K ⟨N,rfl,_,_,f⟩;clear q;have u:=z.after f NLN;have B:=m.trans (f.mono m.size);have L:=(H.below f NLN).gT;clear f;obtain ⟨C,d1,d2,d3,E⟩:=AE u;go_wp2_with fail
   go_region
   go_wp2_with fail
   have i:=Aj (b:=w.heap.size) B NLN (.int .i64 0) (.int .i64 0) (.string ⟨#[]⟩) (.int .i64 0);obtain ⟨g,g1,g2,g3⟩:=CB u (.int .i64 0) (.int .i64 0) (.string ⟨#[]⟩) (.int .i64 0);exact bodyPost_ret (Au Tryz.results71 rfl g g1 g2 g3) rfl ⟨by rw[Aa a,El];rfl,i.drew⟩
  ·have e: ¬ (19 < n∨BG (Ak r) n=true∨9223372036854775807 < CC ((Ak r).take n)):=by
    rintro (k | k | k)
    ·exact P k
    ·rw[Aa R] at k;cases k
    ·exact l k
   have a:=Ab ((Aa a).trans (if_neg e));rw[if_neg l] at h;have q:=Tryz.strconv_ParseInt_10_at64_ok x (by omega) _ (by rw[show x.data.toList=(Ak r).take n from Aa o];exact h) y;clear h l e;refine q.mono ?_;rintro e K ⟨rfl,c⟩;clear q;have f:Below y.heap.size y K:=by
    rcases c with rfl | ⟨t,rfl⟩
    ·exact BRN
    ·exact Lib.bytesWorld_below y _ t
   clear c;generalize CC ((Ak r).take n)=v at a ⊢;have u:=z.after f NLN;have B:=m.trans (f.mono m.size);clear f;obtain ⟨C,d1,d2,d3,E⟩:=AE u;go_wp2_with fail
   have i:=Aj (b:=w.heap.size) B NLN (.int .i64 1) (.int .i64 v) (.string ⟨#[]⟩) (.int .i64 0);obtain ⟨g,g1,g2,g3,_⟩:=AE (Aw u (.int .i64 1) (.int .i64 v) (.string ⟨#[]⟩) (.int .i64 0));simp only[BN] at g g1 g2 g3;refine bodyPost_ret (Au Tryz.results71 rfl g g1 g2 g3) rfl ⟨?_,i⟩;rw[Aa a];rfl
end Go.Proofs.YtdldimphcpojoaaGreatDoor
namespace Go.Proofs.YtdldimphcpojoaaGreatDoor
set_option maxRecDepth 100000
set_option maxHeartbeats 3200000
open Go.RowKit
set_option linter.unusedVariables false
variable {aS aB aT : Addr}
theorem PL {r:ByteArray}(h0: 0 < r.size):Ak r=r[0] ::(Ak r).drop 1:=by
 have h:=BJ r 0 h0
 rwa[List.drop_zero] at h
theorem Ka {r:ByteArray}(h0: 0 < r.size):Cc (Ak r)=if IG (r[0].toNat:Int) then Bn (Ak r) else if dgI (r[0].toNat:Int) then Bm (Ak r) else if r[0]=34 then BH ((Ak r).drop 1) else A8 r[0] (Ak r):=by
 have h:=PL h0;generalize (Ak r).drop 1=q at h ⊢;rw[h];rfl
theorem IM (aS aB aT:Addr)(a:L3):∃ (k m:Int) (x:ByteArray) (n:Int) (b:Value),NC aS aB aT a= .tuple #[.agg #[.int .i64 k,.int .i64 m,.string x,.int .i64 0],.int .i64 n,b]:=by
 cases a with
 | bad c=>exact ⟨_,_,_,_,_,rfl⟩
 | tok k m s w=>exact ⟨_,_,_,_,_,rfl⟩
theorem LZ (r:ByteArray)(w:World)(hs:r.size≤1048576)(h0: 0 < r.size)(S:LF w aS aB aT):
  Calls Tryz.prog 39 #[.string r] w fun e w'=>e= .returned (NC aS aB aT (Cc (Ak r)))∧Below w.heap.size w w':=by
 have H:(0 :Int) < (r.size:Int):=by omega
 obtain ⟨I,y,i,f,z⟩:=Lr w S;obtain ⟨l,d1,d2,d3,o⟩:=AE i;cases p:dgI (r[0].toNat:Int)
 ·cases hl:IG (r[0].toNat:Int)
  ·have q:=Ab p;have j:=Ab hl;clear p hl;by_cases E:(r[0].toNat:Int)=34
   ·have A:=Ab (show r[0]=34 from UInt8.toNat_inj.1 (by have:(34 :UInt8).toNat=34:=rfl;omega));have s:=Ab (show Cc (Ak r)=BH ((Ak r).drop 1) by rw[Ka h0];rw[Aa j,Aa q,if_neg (by decide),if_neg (by decide),if_pos (Aa A)]);go_enter Tryz.func39,Tryz.ntmps39
    go_wp2_with (first | (go_at_call 70;refine (BZ _ _).mono ?_;rintro e w' ⟨rfl,a⟩;rw[show dgI 34=false from by decide,a];clear a) | (go_at_call 72;refine (Bz _ _).mono ?_;rintro e w' ⟨rfl,a⟩;rw[show IG 34=false from by decide,a];clear a))
    clear y;refine (Lq r _ hs h0 z).mono ?_;rintro e B ⟨rfl,c⟩;obtain ⟨k,m,x,n,C,d⟩:=IM aS aB aT (BH ((Ak r).drop 1));rw[d];have t:=Ab d;clear d;have g:=i.after c NLN;have u:=f.trans (c.mono f.size);clear c l d1 d2 d3 o i f;obtain ⟨l,d1,d2,d3,o⟩:=AE g;go_wp2_with fail
    have v:=Aj (b:=w.heap.size) u NLN (.int .i64 k) (.int .i64 m) (.string x) (.int .i64 0);obtain ⟨h,g1,g2,g3,_⟩:=AE (Aw g (.int .i64 k) (.int .i64 m) (.string x) (.int .i64 0));simp only[BN] at h g1 g2 g3;refine bodyPost_ret (Au Tryz.results39 rfl h g1 g2 g3) rfl ⟨?_,v⟩;rw[Aa s,Aa t];rfl
   ·have J:=beq_eq_false_iff_ne.2 E;have A:=Ab (show ¬ r[0]=34 from fun e=>E (by rw[e];rfl));have s:=Ab (show Cc (Ak r)=A8 r[0] (Ak r) by rw[Ka h0];rw[Aa j,Aa q,if_neg (by decide),if_neg (by decide),if_neg (Aa A)]);go_enter Tryz.func39,Tryz.ntmps39
    go_wp2_with (first | (go_at_call 70;refine (BZ _ _).mono ?_;rintro e w' ⟨rfl,a⟩;rw[Aa q,a];clear a) | (go_at_call 72;refine (Bz _ _).mono ?_;rintro e w' ⟨rfl,a⟩;rw[Aa j,a];clear a))
    clear y;refine (Ny r _ hs h0 z).mono ?_;rintro e B ⟨rfl,c⟩;obtain ⟨k,m,x,n,C,d⟩:=IM aS aB aT (A8 r[0] (Ak r));rw[d];have t:=Ab d;clear d;have g:=i.after c NLN;have u:=f.trans (c.mono f.size);clear c l d1 d2 d3 o i f;obtain ⟨l,d1,d2,d3,o⟩:=AE g;go_wp2_with fail
    have v:=Aj (b:=w.heap.size) u NLN (.int .i64 k) (.int .i64 m) (.string x) (.int .i64 0);obtain ⟨h,g1,g2,g3,_⟩:=AE (Aw g (.int .i64 k) (.int .i64 m) (.string x) (.int .i64 0));simp only[BN] at h g1 g2 g3;refine bodyPost_ret (Au Tryz.results39 rfl h g1 g2 g3) rfl ⟨?_,v⟩;rw[Aa s,Aa t];rfl
  ·have q:=Ab p;have j:=Ab hl;clear p hl;have s:=Ab (show Cc (Ak r)=Bn (Ak r) by rw[Ka h0];rw[Aa j,if_pos rfl]);go_enter Tryz.func39,Tryz.ntmps39
   go_wp2_with (first | (go_at_call 70;refine (BZ _ _).mono ?_;rintro e w' ⟨rfl,a⟩;rw[Aa q,a];clear a) | (go_at_call 72;refine (Bz _ _).mono ?_;rintro e w' ⟨rfl,a⟩;rw[Aa j,a];clear a))
   clear y;refine (Nw r _ hs z).mono ?_;rintro e B ⟨rfl,c⟩;obtain ⟨k,m,x,n,C,d⟩:=IM aS aB aT (Bn (Ak r));rw[d];have t:=Ab d;clear d;have g:=i.after c NLN;have u:=f.trans (c.mono f.size);clear c l d1 d2 d3 o i f;obtain ⟨l,d1,d2,d3,o⟩:=AE g;go_wp2_with fail
   have v:=Aj (b:=w.heap.size) u NLN (.int .i64 k) (.int .i64 m) (.string x) (.int .i64 0);obtain ⟨h,g1,g2,g3,_⟩:=AE (Aw g (.int .i64 k) (.int .i64 m) (.string x) (.int .i64 0));simp only[BN] at h g1 g2 g3;refine bodyPost_ret (Au Tryz.results39 rfl h g1 g2 g3) rfl ⟨?_,v⟩;rw[Aa s,Aa t];rfl
 ·have j:=Ab (show IG (r[0].toNat:Int)=false by
   rw[dgI,decide_eq_true_eq] at p;rw[IG,decide_eq_false_iff_not];omega)
  have F: 1≤AK Ci (Ak r):=by rw[PL h0];exact Ll p
  have q:=Ab p;clear p;have s:=Ab (show Cc (Ak r)=Bm (Ak r) by rw[Ka h0];rw[Aa j,Aa q,if_neg (by decide),if_pos rfl]);go_enter Tryz.func39,Tryz.ntmps39
  go_wp2_with (first | (go_at_call 70;refine (BZ _ _).mono ?_;rintro e w' ⟨rfl,a⟩;rw[Aa q,a];clear a) | (go_at_call 72;refine (Bz _ _).mono ?_;rintro e w' ⟨rfl,a⟩;rw[Aa j,a];clear a))
  clear y;refine (Ls r _ hs F z).mono ?_;rintro e B ⟨rfl,c⟩;obtain ⟨k,m,x,n,C,d⟩:=IM aS aB aT (Bm (Ak r));rw[d];have t:=Ab d;clear d;have g:=i.after c NLN;have u:=f.trans (c.mono f.size);clear c l d1 d2 d3 o i f;obtain ⟨l,d1,d2,d3,o⟩:=AE g;go_wp2_with fail
  have v:=Aj (b:=w.heap.size) u NLN (.int .i64 k) (.int .i64 m) (.string x) (.int .i64 0);obtain ⟨h,g1,g2,g3,_⟩:=AE (Aw g (.int .i64 k) (.int .i64 m) (.string x) (.int .i64 0));simp only[BN] at h g1 g2 g3;refine bodyPost_ret (Au Tryz.results39 rfl h g1 g2 g3) rfl ⟨?_,v⟩;rw[Aa s,Aa t];rfl
end Go.Proofs.YtdldimphcpojoaaGreatDoor
namespace Go.Proofs.YtdldimphcpojoaaGreatDoor
set_option maxRecDepth 100000
set_option maxHeartbeats 6400000
open Go.RowKit
set_option linter.unusedVariables false
variable {aS aB aT : Addr}
def YB (aS aB aT:Addr) (w:World) (R:YH) (e:Ending) (w':World):Prop:=
 (R.code=0∧R.at_=0∧∃ x c,e= .returned (.tuple #[.slice x R.toks.length c,.nilIface])∧w'.ownsRow w.heap.size 41 4 (.slice x R.toks.length c) R.toks.length (Ef R.toks)∧VS R.toks∧Below w.heap.size w w')∨
 (R.toks= []∧1≤R.code∧R.code≤3∧∃ b,e= .returned (.tuple #[.slice none 0 0,.iface 87 (.pointer (some ⟨b,0,none⟩))])∧An w' b #[.int .i64 (R.at_:Int),GQ aS aB aT R.code] 92∧Below w.heap.size w w')
theorem Ou (t:ByteArray)(w:World)(S:LF w aS aB aT):
  Calls Tryz.prog 17 #[.string t] w fun e w'=>YB aS aB aT w (Ar t) e w':=by
 by_cases h4: 4000 < t.size
 ·have ae:(4000 :Int) < (t.size:Int):=by omega
  have F:=Ab (show Ar t=⟨[],1,0⟩ by rw[Ar,if_pos h4]);have aD:=S.gS;go_enter Tryz.func17,Tryz.ntmps17
  go_wp2_with fail
  go_step3
  go_wp2_with fail
  refine (DY _ _ _ _).mono ?_;rintro e aE ⟨rfl,af,d⟩;go_wp2_with fail
  rw[Exit.noGoto_ret];go_ret2
  rw[Aa F];exact .inr ⟨rfl,by show (1 :Int)≤1;omega,by show (1 :Int)≤3;omega,w.heap.size,rfl,af,d⟩
 ·have ae: ¬ ((4000 :Int) < (t.size:Int)):=by omega
  have ht:t.size≤1048576:=by omega
  have F:=Ab (show AH t.size (t.size+1) (Ak t) []=Ar t by rw[Ar,if_neg h4]);obtain ⟨i,hi,ag,ah,ai⟩:=info_parts U8;go_enter Tryz.func17,Tryz.ntmps17
  go_wp2_with fail
  go_step3
  go_wp2_with fail
  go_step3
  go_wp2_with fail
  go_loopw [4,5] (fun v a wr=>∃ (k f:Nat) (T:List Af),a= .int .i64 k∧k≤t.size∧t.size - k < f∧T.length≤k∧VS T∧AH t.size f ((Ak t).drop k) T=Ar t∧wr.ownsRow w.heap.size 41 4 v T.length (Ef T)∧Below w.heap.size w wr) (fun _ a _=>t.size - (intOf a).toNat)
  case atStart=>exact ⟨0,t.size+1, [],rfl,Nat.zero_le _,by omega,by simp,Gx,by rw[List.drop_zero];exact Aa F,World.ownsRow_nil _ _ _ _,BRN⟩
  case round=>
   obtain ⟨k,f,T,rfl,hk,aF,aG,W,X,h,d⟩:=hrel;have l:=Ab X;have o:=Ab W;clear X W;by_cases s:k < t.size
   case neg=>
    have e:(Ak t).drop k= []:=List.drop_of_length_le (by rw[As];omega);have Y:Ar t=⟨T,0,0⟩:=by rw[← Aa l,e,Jr]
    have H:=Ab Y;have aj: ¬ ((k:Int) < (t.size:Int)):=by omega
    clear Y e;obtain ⟨x,I,J⟩:=GW h;subst J;go_wp2_with fail
    go_ret2
    rw[Aa H];exact .inl ⟨rfl,rfl,x,I,rfl,h,Aa o,d⟩
   have aj:(k:Int) < (t.size:Int):=by omega
   by_cases h1:(t[k].toNat:Int)=32
   ·have p:=Ab (Jn t k s (.inl h1));go_wp2_with fail
    go_roundw
    case rel=>exact ⟨k+1,f,T,by go_num,by omega,by omega,by omega,Aa o,by rw[← Aa l];exact CH _ _ (Aa p).symm _,h,d⟩
    case measure=>simp[intOf];omega
   have e1:=beq_eq_false_iff_ne.2 h1;by_cases h3:(t[k].toNat:Int)=9
   ·have p:=Ab (Jn t k s (.inr (.inr h3)));go_wp2_with fail
    go_roundw
    case rel=>exact ⟨k+1,f,T,by go_num,by omega,by omega,by omega,Aa o,by rw[← Aa l];exact CH _ _ (Aa p).symm _,h,d⟩
    case measure=>simp[intOf];omega
   have e3:=beq_eq_false_iff_ne.2 h3;by_cases h2:(t[k].toNat:Int)=10
   ·have p:=Ab (Jn t k s (.inr (.inl h2)));go_wp2_with fail
    go_roundw
    case rel=>exact ⟨k+1,f,T,by go_num,by omega,by omega,by omega,Aa o,by rw[← Aa l];exact CH _ _ (Aa p).symm _,h,d⟩
    case measure=>simp[intOf];omega
   have e2:=beq_eq_false_iff_ne.2 h2;by_cases h5:(t[k].toNat:Int)=35
   ·have p:=Ab (Pv t k s h5);go_wp2_with fail
    go_loop [5] (fun a=>∃ q:Nat,k≤q∧q < t.size∧a= .int .i64 q∧Ce true ((Ak t).drop k)=Ce true ((Ak t).drop q)) (fun a=>t.size - (intOf a).toNat)
    case atStart=>exact ⟨k,NLN,s,rfl,rfl⟩
    case round=>
     obtain ⟨q,aH,hq,rfl,hi⟩:=hrel;have K:=Ab hi;clear hi;have aI:(q:Int) < (t.size:Int):=by omega
     by_cases h10:(t[q].toNat:Int)=10
     ·have E:=Ab (VR t q hq h10);have aJ:q≠k:=fun e=>by subst e;omega
      have ak:((t[q].toNat:Int) != 10)=false:=by rw[h10];rfl
      go_wp2_with fail
      go_roundw
      case rel=>exact ⟨q,f,T,rfl,by omega,by omega,by omega,Aa o,by rw[← Aa l];exact CH _ _ (by rw[Aa p,Aa K,Aa E]) _,h,d⟩
      case measure=>simp[intOf];omega
     ·have E:=Ab (Rl t q hq h10);have ak:((t[q].toNat:Int) != 10)=true:=bne_iff_ne.2 h10;by_cases hl:q+1=t.size
      ·have al:((q:Int)+1==(t.size:Int))=true:=beq_iff_eq.2 (by omega);have H:=Ab (show Ar t=⟨T,0,0⟩ by
        rw[← Aa l,← Jr (n:=t.size) (f:=f)];exact CH _ _ (by rw[Aa p,Aa K,Aa E,J9 true t (q+1) (by omega)];rfl) _)
       obtain ⟨x,I,J⟩:=GW h;subst J;go_wp2_with fail
       go_ret2
       rw[Aa H];exact .inl ⟨rfl,rfl,x,I,rfl,h,Aa o,d⟩
      ·have al:((q:Int)+1==(t.size:Int))=false:=beq_eq_false_iff_ne.2 (by omega);go_wp2_with fail
       go_round
       case rel=>exact ⟨q+1,by omega,by omega,by go_num,by rw[Aa K,Aa E]⟩
       case measure=>simp[intOf];omega
   have e5:=beq_eq_false_iff_ne.2 h5;have L:=Ab (Ms t k s h1 h2 h3 h5);go_wp2_with fail
   have Z:=Ab (PG t k);have ao:(t.extract k t.size).size=t.size - k:=by rw[ByteArray.size_extract];omega
   have M:=S.below d NLN;generalize t.extract k t.size=r at Z ao ⊢;refine (LZ r _ (by omega) (by omega) M).mono ?_;rintro e N ⟨rfl,C⟩;rw[Aa Z];have j:=BJ t k s;have O:((Ak t).drop (k+1)).length+1=t.size - k:=by rw[List.length_drop,As];omega
   cases z:Cc ((Ak t).drop k) with
   | bad c=>
    obtain ⟨u,rfl⟩:∃ u,f=u+1:=⟨f - 1,by omega⟩
    have aa:Ar t=⟨[],c,k⟩:=by
     rw[← Aa l,j,Fh (by rw[← j];exact Aa L) (by rw[← j];exact z)]
     congr 1
     rw[O];omega
    have hc:c=2∨c=3:=Mw (by rw[← j];exact z);have ap:=Ab aa;obtain ⟨aq,P⟩:=IF aS aB aT c;have ar:=Ab P;have A:=d.trans (C.mono d.size);have Q:=A.size;rw[show NC aS aB aT (.bad c)= .tuple #[.agg #[.int .i64 0,.int .i64 0,.string ⟨#[]⟩,.int .i64 0],.int .i64 0,.iface 225 (.pointer (some aq))] by rw[← P];rfl];have B:=A.alloc Q (.cells #[.int .i64 0,.int .i64 0,.string ⟨#[]⟩,.int .i64 0] 41);clear aa j O z h P C M;go_wp2_with fail
    generalize N.alloc (.cells #[.int .i64 0,.int .i64 0,.string ⟨#[]⟩,.int .i64 0] 41)=au at B ⊢;refine (DY _ _ _ _).mono ?_;rintro e aK ⟨rfl,av,R⟩;have aw:=B.trans (R.mono B.size);go_wp2_with fail
    go_ret2
    rw[Aa ap];exact .inr ⟨rfl,by show 1≤c;omega,by show c≤3;omega,au.heap.size,rfl,by rw[Aa ar];exact av,aw⟩
   | tok g m b y=>
    obtain ⟨aL,ax,aM⟩: 1≤y∧y≤((Ak t).drop k).length∧b.length≤y:=by have:=ES ((Ak t).drop k);rw[z] at this;exact this
    rw[List.length_drop,As] at ax;obtain ⟨u,rfl⟩:∃ u,f=u+1:=⟨f - 1,by omega⟩
    have ay:=Ab (show AH t.size u ((Ak t).drop (k+y)) (T ++ [⟨g,m,Ax b,k⟩])=Ar t by
     rw[← Aa l,j,Eo (by rw[← j];exact Aa L) (by rw[← j];exact z),← j,List.drop_drop,show t.size - (((Ak t).drop (k+1)).length+1)=k by omega])
    have ab:VS (T ++ [⟨g,m,Ax b,k⟩]):=PF (Aa o) (by show (Ax b).size≤_;rw[PE];unfold maxLen;omega);have az:=Ab ab;have A:=d.trans (C.mono d.size);have ac:=E7 h C;have Q:=A.size;rw[show NC aS aB aT (.tok g m b y)= .tuple #[.agg #[.int .i64 g,.int .i64 m,.string (Ax b),.int .i64 0],.int .i64 (y:Int),.nilIface] from rfl];clear j O z ab l L o h C M d;have B:=(A.alloc Q (.cells #[.int .i64 g,.int .i64 m,.string (Ax b),.int .i64 k] 41)).alloc (by simp;omega) (.cells #[.int .i64 g,.int .i64 m,.string (Ax b),.int .i64 k] 41);have U:=(ac.alloc (.cells #[.int .i64 g,.int .i64 m,.string (Ax b),.int .i64 k] 41)).alloc (.cells #[.int .i64 g,.int .i64 m,.string (Ax b),.int .i64 k] 41);have V:=An.new (N.alloc (.cells #[.int .i64 g,.int .i64 m,.string (Ax b),.int .i64 k] 41)) #[.int .i64 g,.int .i64 m,.string (Ax b),.int .i64 k] 41;simp only[World.size_alloc] at V;go_wp2_with (at_builtin;refine wpList_append_own _ rfl _ _ 35 rfl w.heap.size 41 i (.agg #[.int .i64 0,.int .i64 0,.string ByteArray.empty,.int .i64 0]) 4 40 Tryz.underlying35 hi ag ah ai rfl (by decide) _ _ _ rfl U ⟨N.heap.size+1,0,none⟩ 1 1 (In ⟨g,m,Ax b,k⟩) rfl rfl ?c1 ?c2 ?c3 ?c4 ?c5 ?_)
    case c1=>exact I6 (x:=⟨g,m,Ax b,k⟩) V
    case c2=>exact M3 _
    case c3=>unfold maxLen;omega
    case c4=>omega
    case c5=>simp;omega
    intro aN aA aC ad _;have R:Below w.heap.size w aA:=B.grown ad (by simp;omega) (fun q hq=>(U.lt q hq).1);clear ad ac U V A B;go_wp2_with fail
    go_roundw
    case rel=>exact ⟨k+y,u,T ++ [⟨g,m,Ax b,k⟩],by go_num,by omega,by omega,by simp;omega,Aa az,Aa ay,by rw[I7,List.length_append];exact aC,R⟩
    case measure=>simp[intOf];omega
end Go.Proofs.YtdldimphcpojoaaGreatDoor
