/-
  HA0, HN, HO, HP. Own work.
-/
import Derived.Test.YtchakjeegneeoaaGreatDoorMXBD
import Derived.Test.YtchakjeegneeoaaGreatDoorMXAH
import Derived.Test.YtchakjeegneeoaaGreatDoorMXBC
import Derived.Test.YtchakjeegneeoaaGreatDoorMXBJ
import Derived.Test.YtchakjeegneeoaaGreatDoorMXBT
namespace Go.Proofs.YtchakjeegneeoaaGreatDoor
open Go.RowKit
set_option linter.unusedVariables false
def JO:List Sx→Option Int
 | []=>none
 |x ::X=>if 64 < mx (JZ x.cond) (JZ x.grant) then some x.at' else JO X
def MO (ss:List ByteArray):List ByteArray:=(Nf ss).map AB
theorem VA {a K:List ByteArray}(h:Cw a K):K=MO a:=h.unique (Fa a)
def Pt.ex:Pt→Ex
 | .int i n=> .int i n
 | .text i s=> .text i s
 | .bool i b=> .bool i b
 | .set i ss=> .set i none 0 0 (MO ss)
 | .name i s=> .name i s
 | .un i op k=> .un i op k.ex
 | .bin i op l r=> .bin i op l.ex r.ex
 | .ite i c t e=> .ite i c.ex t.ex e.ex
def Ps.sx (s:Ps):Sx:=⟨(s.at_:Int),s.kind,s.name,s.cond.map Pt.ex,s.grant.map Pt.ex⟩
def Mu (L:List (Nat × List ByteArray)):List Int:=L.filterMap fun q=>if 64 < (MO q.2).length then some (q.1:Int) else none
theorem MS (a B:List (Nat × List ByteArray)):Mu (a ++B)=Mu a ++Mu B:=by simp[Mu]
def Ik (t:ByteArray) (x:QR):List Nd × List St × List Int × Int × Int:=
 if (AI t).code≠0 then ([], [], [],(AI t).code,((AI t).at_:Int)) else match x with
 | .bad q=>([], [], [],4,((DV t.size q).at_:Int))
 | .ok S=>match (Mu (S.flatMap Ps.sets)).head? with
  |some i=>([], [], [],5,i)
  |none=>match JO (S.map Ps.sx) with
   |some i=>([], [], [],6,i)
   |none=>(AK 0 (S.map Ps.sx),Cu 0 (S.map Ps.sx),Dm (S.map Ps.sx),0,0)
theorem J5 {t:ByteArray}{x:QR}(h:(AI t).code≠0):Ik t x=([], [], [],(AI t).code,((AI t).at_:Int)):=by
 unfold Ik;rw[if_pos h]
theorem MP {t:ByteArray}{q:List Af}(h:(AI t).code=0):Ik t (.bad q)=([], [], [],4,((DV t.size q).at_:Int)):=by
 unfold Ik;rw[if_neg (by omega)]
theorem J3 {t:ByteArray}{S:List Ps}{i:Int}(h:(AI t).code=0)(a:(Mu (S.flatMap Ps.sets)).head? =some i):Ik t (.ok S)=([], [], [],5,i):=by
 unfold Ik;rw[if_neg (by omega)];simp only[a]
theorem J4 {t:ByteArray}{S:List Ps}{i:Int}(h:(AI t).code=0)(a:(Mu (S.flatMap Ps.sets)).head? =none)(hd:JO (S.map Ps.sx)=some i):Ik t (.ok S)=([], [], [],6,i):=by
 unfold Ik;rw[if_neg (by omega)];simp only[a,hd]
theorem Q8 {t:ByteArray}{S:List Ps}(h:(AI t).code=0)(a:(Mu (S.flatMap Ps.sets)).head? =none)(hd:JO (S.map Ps.sx)=none):Ik t (.ok S)=(AK 0 (S.map Ps.sx),Cu 0 (S.map Ps.sx),Dm (S.map Ps.sx),0,0):=by
 unfold Ik;rw[if_neg (by omega)];simp only[a,hd]
theorem Qe (n:Nat):∀ (f:Nat) (l:List UInt8) (out:List Af),(BY n f l out).toks.length≤out.length+l.length
 | 0,l,out=>by simp[BY]
 |f+1,l,out=>by
  rw[BY];have b:=JA false l;split
  ·simp
  ·rename_i c r d;rw[d] at b;split
   ·simp
   ·rename_i k m s a g;have h1:=J0 (c ::r);rw[g] at h1;have h2: 1≤a∧a≤(c ::r).length:=⟨h1.1,h1.2.1⟩
    have h:=Qe n f ((c ::r).drop a) (out ++ [⟨k,m,AB s,n - (r.length+1)⟩]);rw[zp,zA] at h;simp only[List.length_cons,List.length_nil] at *;omega
theorem Il (t:ByteArray):(AI t).toks.length≤4000:=by
 unfold AI;split
 ·simp
 ·have:=Qe t.size (t.size+1) (Ap t) [];rw[Av] at this;simp only[List.length_nil] at this;omega
theorem G.cnt {k:Nat}{c:List Af}{p:Pt}(g:G k c p):p.ex.cnt≤c.length:=by
 induction g with
 |up hk g a=>exact a
 |ite ht b d m n o q r id=>simp only[Pt.ex,Ex.cnt,List.length_cons,zA];omega
 |bin hk f ht i j l=>simp only[Pt.ex,Ex.cnt,List.length_cons,zA];omega
 |cmp f ht i j l=>simp only[Pt.ex,Ex.cnt,List.length_cons,zA];omega
 |not ht g a=>simp only[Pt.ex,Ex.cnt,List.length_cons];omega
 |neg ht g a=>simp only[Pt.ex,Ex.cnt,List.length_cons];omega
 |par ht g b a=>simp only[List.length_cons,zA];omega
 |size ht b g d a=>simp only[Pt.ex,Ex.cnt,List.length_cons,zA];omega
 |set ht hc b=>simp only[Pt.ex,Ex.cnt,List.length_cons,zA];omega
 |num h | text h | name h | tru h | fls h=>simp[Pt.ex,Ex.cnt]
theorem GC.cnt {c:List Af}{g:Option Pt}(h:GC c g):AH (g.map Pt.ex)≤c.length:=by
 cases h with
 |deny h=>simp[AH]
 |grant h g=>have:=g.cnt;simp only[Option.map_some,AH,List.length_cons];omega
theorem SC.cnt {c:List Af}{s:Ps}(h:SC c s):AH s.sx.cond+AH s.sx.grant≤c.length:=by
 cases h with
 |let_ h d he g=>have:=g.cnt;simp only[Ps.sx,Option.map_some,Option.map_none,AH,List.length_cons];omega
 |when h b f a=>have:=b.cnt;have:=a.cnt;simp only[Ps.sx,Option.map_some,AH,List.length_cons,zA] at *;omega
 |else_ h a=>have:=a.cnt;simp only[Ps.sx,Option.map_none,AH,List.length_cons] at *;omega
theorem PC.cnt {ts:List Af}{S:List Ps}(h:PC ts S):CI (S.map Ps.sx)+S.length≤ts.length:=by
 induction h with
 |nil=>simp[CI]
 |cons sc a b c=>
  have:=sc.cnt;rw[List.map_cons,Bp,List.length_cons,zA,List.length_cons];omega
theorem Aaj {X:List Sx}{x:Sx}(h:x∈X):AH x.cond+AH x.grant≤CI X:=by
 induction X with
 |nil=>cases h
 |cons y X a=>
  rw[Bp];rcases zE.1 h with rfl | h
  ·omega
  ·have:=a h;omega
def Ab3 (ss:List ByteArray):Prop:=(∀ x∈ss,x.size≤maxLen)∧ss.length≤1048576
theorem Rl:∀ (ts:List Af),(∀ t∈ts,t.text.size≤maxLen)→(∀ x∈Lg ts,x.size≤maxLen)∧(Lg ts).length≤ts.length
 | [],_=>⟨fun x h=>(by cases h),by simp[Lg]⟩
 |t ::r,h=>by
  obtain ⟨a,c⟩:=Rl r (fun u b=>h u (zY _ b));rw[Lg];split
  ·exact ⟨fun x h=>(by cases h),by simp⟩
  ·split
   ·refine ⟨fun x hx=>?_,by simp;omega⟩;rcases zE.1 hx with rfl | hx
    ·exact h t (zT ..)
    ·exact a x hx
   ·exact ⟨a,by simp;omega⟩
theorem N5:∀ (ts:List Af),(∀ t∈ts,t.text.size≤maxLen)→ts.length≤1048576→∀ q∈DN ts,Ab3 q.2
 | [],_,_,q,h=>by cases h
 |t ::r,h,hl,q,hq=>by
  have a:∀ u∈r,u.text.size≤maxLen:=fun u c=>h u (zY _ c);have b:r.length≤1048576:=by simp at hl;omega
  rw[DN] at hq;split at hq
  ·rcases zE.1 hq with rfl | hq
   ·have:=Rl r a;exact ⟨this.1,by show (Lg r).length≤_;omega⟩
   ·exact N5 r a b q hq
  ·exact N5 r a b q hq
theorem DP.ne {ts:List Af}{x:QR}(d:DP ts x):∀ S,x= .ok S→S≠ []:=by
 induction d with
 |bad=>intro S h;cases h
 |over=>intro S h;cases h
 |@more ts r s x d hk d2 a=>
  intro S h;cases x with
  |bad=>cases h
  |ok T=>cases h;simp
 |last=>intro S h;cases h;simp
set_option maxRecDepth 100000
set_option maxHeartbeats 6400000
theorem Mb.of {w w':World}{B d a c:Nat}{T:List Af}{N:List Nd}{P:List Int}{nd f:Value}{g h:List Value}(i:Mb w d a c T)(b:Gh w' B d (.slice (some ⟨a,0,none⟩) T.length c) N P nd f g h)(k:Below B w w')(l:a < B):Mb w' d a c T:=
 ⟨b.row.cell 0,fun j u m=>(k.cell (p:=⟨a,j,none⟩) l).trans (i.cells j u m),b.row.lt,by have:=b.row.lt;have:=b.low;omega⟩
def L2A (B nb:Nat) (tv:Value) (N M:List Nd) (P Q:List Int) (nd pl:Value) (nv kv:List Value) (w:World) (r:Ending) (w':World):Prop:=
 r= .returned (.int .i64 ((N.length+M.length - 1 :Nat):Int))∧∃ nd' pl' nv' kv',Gh w' B nb tv (N ++M) (P ++Q) nd' pl' (nv ++nv') (kv ++kv')∧Nk B nb nd pl w nd' pl' w'∧∀ j,(hj:j < kv'.length)→∀ q,kv'[j].ownBlock=some q→w.heap.size≤q
theorem Lr {w:World}{B d p c:Nat}{T:List Af}{N:List Nd}{P:List Int}{nd s:Value}{C E:List Value}(av:Mb w d p c T)(aM:p < B)(X:Gh w B d (.slice (some ⟨p,0,none⟩) T.length c) N P nd s C E)(a7:N.length+1≤65535)(a8:P.length+1≤65535)
  (x:Nd)(a:Option Addr)(g:Nat)(b:Option Addr)(f lo:Nat)(aN:B≤lo)(t:w.ownsRow B 9 1 (.slice a x.names.length g) x.names.length (x.names.map Value.string))(hk:w.ownsRow lo 3 1 (.slice b x.kids.length f) x.kids.length (Ar x.kids))
  (aw:∀ j,(aO:j < C.length)→∀ q,C[j].ownBlock=some q→(Value.slice a x.names.length g).ownBlock≠some q)(ax:∀ j,(aO:j < E.length)→∀ q,E[j].ownBlock=some q→(Value.slice b x.kids.length f).ownBlock≠some q)(ay:∀ q,(Value.slice b x.kids.length f).ownBlock=some q→s.ownBlock≠some q)(i:Nat)(hi:i < T.length):
  Calls Tryz.prog 76 #[.pointer (some ⟨d,0,none⟩),.agg #[.int .i64 x.op,.int .i64 x.num,.string x.text,.slice a x.names.length g,.slice b x.kids.length f],.int .i64 (i:Int)] w fun r w'=>r= .returned (.int .i64 (N.length:Int))∧∃ az aA,Gh w' B d (.slice (some ⟨p,0,none⟩) T.length c) (N ++ [x]) (P ++ [(T[i].at_:Int)]) az aA (C ++ [.slice a x.names.length g]) (E ++ [.slice b x.kids.length f])∧Nk B d nd s w az aA w':=by
 obtain ⟨o,Y⟩:∃ o:Int,o=(T[i].at_:Int):=⟨_,rfl⟩
 rw[← Y];have aP:=Ab Y;clear Y;have aB:=X.row.lt;have Z:B≤w.heap.size:=by have:=X.low;omega
 obtain ⟨aQ,aR,aS,aT,aU⟩:=info_parts Vo;obtain ⟨aV,aW,aX,aY,aZ⟩:=info_parts Aax;have a0:=Ab av;have aa:=Ab (And.intro aw (And.intro ax ay));have H:=(Below.refl w.heap.size w).alloc NLN (.cells #[.int .i64 x.op,.int .i64 x.num,.string x.text,.slice a x.names.length g,.slice b x.kids.length f] 68);have U:=Al.new w #[.int .i64 x.op,.int .i64 x.num,.string x.text,.slice a x.names.length g,.slice b x.kids.length f] 68;have n:=X.below H;have ab:Nk B d nd s w nd s (w.alloc (.cells #[.int .i64 x.op,.int .i64 x.num,.string x.text,.slice a x.names.length g,.slice b x.kids.length f] 68)):=Nk.of_all H Z;have ac:=Ac (w':=w.alloc (.cells #[.int .i64 x.op,.int .i64 x.num,.string x.text,.slice a x.names.length g,.slice b x.kids.length f] 68)) t (fun q hq=>H.block q (t.lt q hq).2);have ad:=Ac (w':=w.alloc (.cells #[.int .i64 x.op,.int .i64 x.num,.string x.text,.slice a x.names.length g,.slice b x.kids.length f] 68)) hk (fun q hq=>H.block q (hk.lt q hq).2);have ae:w.heap.size < (w.alloc (.cells #[.int .i64 x.op,.int .i64 x.num,.string x.text,.slice a x.names.length g,.slice b x.kids.length f] 68)).heap.size:=by simp
 clear av aw ax ay t hk H;go_enter Tryz.func76,Tryz.ntmps76
 go_wp2_with fail
 generalize w.alloc (.cells #[.int .i64 x.op,.int .i64 x.num,.string x.text,.slice a x.names.length g,.slice b x.kids.length f] 68)=h at n ab ac ad U ae ⊢;generalize w.heap.size=I at U ae aB Z ⊢;obtain ⟨J,K,y,_⟩:=Ad n.nodes.own;have af:=Ab y;clear y;apply Adq
 ·intro a1;have y:=Aa af;obtain ⟨aC,e1,e2,e3,e4⟩:=E9 U;have ag:h.cell? ⟨d,1,none⟩=some (nd):=n.row.cell 1;rw[y] at ag;have aD:=n.row.frozen 1;have L:=World.news_of_block (heap_alloc_new h (.cells #[.int .i64 x.op,.int .i64 x.num,.string x.text,.slice a x.names.length g,.slice b x.kids.length f] 68));have ah:h.drew.cell? ⟨d,1,none⟩=some (.slice J (N).length K)∧h.drew.frozen? ⟨d,1,none⟩=false:=⟨ag,aD⟩
  have d1:h.drew.cell? ⟨I,0,none⟩=some (.int .i64 x.op):=aC;have d2:h.drew.cell? ⟨I,1,none⟩=some (.int .i64 x.num):=e1;have d3:h.drew.cell? ⟨I,2,none⟩=some (.string x.text):=e2;have d4:h.drew.cell? ⟨I,3,none⟩=some (.slice a x.names.length g):=e3;have d5:h.drew.cell? ⟨I,4,none⟩=some (.slice b x.kids.length f):=e4;have M:(h.alloc (.cells #[.int .i64 x.op,.int .i64 x.num,.string x.text,.slice a x.names.length g,.slice b x.kids.length f] 68)).drew.ownsRow B 68 5 (.slice J (N).length K) (N).length (JY (N) (C) (E)):=by
   have:=n.nodes.own;rw[y] at this;exact (World.ownsRow.alloc this _).drew
  have v:Al (h.alloc (.cells #[.int .i64 x.op,.int .i64 x.num,.string x.text,.slice a x.names.length g,.slice b x.kids.length f] 68)).drew d #[.slice (some ⟨p,0,none⟩) T.length c,nd,s] 54:=⟨(n.row.alloc (.cells #[.int .i64 x.op,.int .i64 x.num,.string x.text,.slice a x.names.length g,.slice b x.kids.length f] 68)).out⟩
  have ai:(h.alloc (.cells #[.int .i64 x.op,.int .i64 x.num,.string x.text,.slice a x.names.length g,.slice b x.kids.length f] 68)).drew.cell? ⟨d,1,none⟩=some (.slice J (N).length K):=by
   have:=v.cell 1;rw[y] at this;exact this
  have V:(Value.slice J (N).length K).ownBlock≠some d:=by rw[← y];exact Ae n.row n.nodes.own (by decide)
  have a2:B≤h.heap.size:=by have:=n.row.lt;have:=n.low;omega
  clear aC e1 e2 e3 e4 ag aD y;go_region_law (refine step_append_lies _ rfl _ _ 22 rfl B 68 aQ (.agg #[.int .i64 0,.int .i64 0,.string ByteArray.empty,.slice none 0 0,.slice none 0 0]) 5 80 Tryz.underlying22 aR aS aT aU rfl (by decide) (.slice J (N).length K) (N).length (JY (N) (C) (E)) rfl M ⟨h.heap.size,0,none⟩ 1 1 [.int .i64 x.op,.int .i64 x.num,.string x.text,.slice a x.names.length g,.slice b x.kids.length f] rfl rfl L (by intro u t;simp at t;rcases t with rfl | rfl | rfl | rfl | rfl <;> rfl) (by decide) (by unfold maxLen;omega) (by omega) (by simp;omega) _ rfl ?_;intro g7 c7 aj aE z hat a3;have ak:Al aj d #[.slice (some ⟨p,0,none⟩) T.length c,nd,s] 54:=⟨(z.block d v.lt (fun e=>V e.symm)).trans v.out⟩;have W:=ak.cell 1;have al:=ak.frozen 1)
  all_goals
   have aF:(h.alloc (.cells #[.int .i64 x.op,.int .i64 x.num,.string x.text,.slice a x.names.length g,.slice b x.kids.length f] 68)).grownBy aj (nd).ownBlock:=by rw[Aa af];exact ⟨z.os,z.tape,z.output,z.size,z.block⟩
   obtain ⟨l,O⟩:=n.pushN (g7:=g7) (c7:=c7) (x:=x) (u:= .slice a x.names.length g) (k:= .slice b x.kids.length f) _ a2 ac (H6 ad aN) (Aa aa).1 (Aa aa).2.1 (Aa aa).2.2 aF aE (by rw[Aa af];exact hat.imp id (fun e=>by rw[e];show (h.alloc _).heap.size=_;simp));have Q:=ab.trans O;clear aE z hat a3 ak v ai ah d1 d2 d3 d4 d5 L M aF O;clear W al;generalize aj.setCell ⟨d,1,none⟩ (.slice (some ⟨g7,0,none⟩) ((N).length+1) c7)=m at l Q ⊢;clear V;revert Q;revert l;revert m;revert c7;revert g7;exact a1.out
 intro g7 c7 m l Q;clear U n ab ac ad;go_wp2_with fail
 have ao:=(Aa a0).of l Q.low aM;obtain ⟨_,_,_,ap⟩:=ao.at4 i hi;have a9:(i:Int) < (T.length:Int):=by omega
 have a4:B≤m.heap.size:=by have:=l.row.lt;have:=l.low;omega
 rw[← Aa aP] at ap;obtain ⟨R,S,F,_⟩:=Ad l.places;have aG:=Ab F;have ah:m.drew.cell? ⟨d,2,none⟩=some (.slice R (P).length S)∧m.drew.frozen? ⟨d,2,none⟩=false:=⟨by have:=l.row.cell 2;rw[F] at this;exact this,l.row.frozen 2⟩
 have d1:m.drew.cell? ⟨d,0,none⟩=some (.slice (some ⟨p,0,none⟩) T.length c):=ao.at0;have d2:m.drew.cell? ⟨p,i * 4+3,none⟩=some (.int .i64 o):=ap;have L:=World.news_of_block (heap_alloc_new m (.cells #[.int .i64 o] 3));have M:(m.alloc (.cells #[.int .i64 o] 3)).drew.ownsRow B 3 1 (.slice R (P).length S) (P).length (Ar P):=by
  have:=l.places;rw[F] at this;exact (World.ownsRow.alloc this _).drew
 have v:Al (m.alloc (.cells #[.int .i64 o] 3)).drew d #[.slice (some ⟨p,0,none⟩) T.length c,.slice (some ⟨g7,0,none⟩) (N.length+1) c7,s] 54:=⟨(l.row.alloc (.cells #[.int .i64 o] 3)).out⟩
 have ai:(m.alloc (.cells #[.int .i64 o] 3)).drew.cell? ⟨d,2,none⟩=some (.slice R (P).length S):=by
  have:=v.cell 2;rw[F] at this;exact this
 have V:(Value.slice R (P).length S).ownBlock≠some d:=by rw[← F];exact Ae l.row l.places (by decide)
 clear F ap ao aB Z ae;go_region_law (refine step_append_lies _ rfl _ _ 24 rfl B 3 aV (.int .i64 0) 1 8 Tryz.underlying24 aW aX aY aZ rfl (by decide) (.slice R (P).length S) (P).length (Ar P) rfl M ⟨m.heap.size,0,none⟩ 1 1 [.int .i64 o] rfl rfl L (by intro u t;simp at t;rcases t with rfl;rfl) (by decide) (by unfold maxLen;omega) (by omega) (by simp;omega) _ rfl ?_;intro g6 aH aq aI A aJ a5;have ar:Al aq d #[.slice (some ⟨p,0,none⟩) T.length c,.slice (some ⟨g7,0,none⟩) (N.length+1) c7,s] 54:=⟨(A.block d v.lt (fun e=>V e.symm)).trans v.out⟩;have W:=ar.cell 2;have al:=ar.frozen 2)
 all_goals
  have aK:(m.alloc (.cells #[.int .i64 o] 3)).grownBy aq (s).ownBlock:=by rw[Aa aG];exact ⟨A.os,A.tape,A.output,A.size,A.block⟩
  obtain ⟨au,aL⟩:=l.pushP (g7:=g6) (c7:=aH) _ o a4 aK aI (by rw[Aa aG];exact aJ.imp id (fun e=>by rw[e];show (m.alloc _).heap.size=_;simp));have O:=Q.trans aL;clear aI A aJ a5 aK W al ar v L M aL ah d1 d2 ai;generalize aq.setCell ⟨d,2,none⟩ (.slice (some ⟨g6,0,none⟩) ((P).length+1) aH)=a6 at au O ⊢;have W:a6.cell? ⟨d,1,none⟩=some (.slice (some ⟨g7,0,none⟩) ((N).length+1) c7):=au.row.cell 1;go_wp2_with fail
  go_ret
  exact ⟨by simp,_,_,au,O⟩
def GD (T:List Af) (lo hi:Nat):List Af:=(T.take hi).drop lo
theorem Fe {T:List Af}{lo hi:Nat}(h:hi≤T.length):(GD T lo hi).length=hi - lo:=by simp[GD];omega
theorem AT {T:List Af}{lo hi:Nat}{t:Af}{r:List Af}(a:hi≤T.length)(h:GD T lo hi=t ::r):∃ c:lo < T.length,T[lo]=t∧GD T (lo+1) hi=r∧lo < hi:=by
 have b:=Fe (lo:=lo) a;rw[h,List.length_cons] at b;have h1:lo < T.length:=by omega
 have e:GD T lo hi=T[lo] ::GD T (lo+1) hi:=by
  rw[GD,zg (by simp;omega)];simp[GD]
 rw[e] at h;injection h with h2 h3;exact ⟨h1,h2,h3,by omega⟩
theorem I2 {T:List Af}{lo hi:Nat}{l r:List Af}(a:hi≤T.length)(h:GD T lo hi=l ++r)(c:lo≤hi):GD T lo (lo+l.length)=l∧GD T (lo+l.length) hi=r∧lo+l.length≤hi:=by
 have b:=Fe (lo:=lo) a;rw[h,zA] at b;refine ⟨?_, ?_,by omega⟩
 ·have h2:(GD T lo hi).take l.length=l:=by rw[h];simp
  rw[GD,List.drop_take,List.take_take,Nat.min_eq_left (by omega)] at h2;rw[GD,List.drop_take,show lo+l.length - lo=l.length by omega];exact h2
 ·have:(GD T lo hi).drop l.length=r:=by rw[h];simp
  rw[← this];simp only[GD];rw[List.drop_drop]
theorem Od {T:List Af}{lo hi:Nat}(a:hi≤T.length)(b:lo≤hi):T.drop lo=GD T lo hi ++T.drop hi:=by
 have e:T=T.take hi ++T.drop hi:=(z1 hi T).symm
 conv=>lhs;rw[e]
 rw[List.drop_append_of_le_length (by simp;omega)];rfl
theorem Adr {k:Nat}{t:Af}{op:Int}(h:CZ k t=some op):∃ (s:List UInt8) (p:Nat),t.text=AB s∧Gk[p]? =some s∧(∀ j,j < p→Gk[j]? ≠some s)∧op=11+(p:Int):=by
 obtain ⟨s,h1,h2⟩:=FH h;have ht:t.text=AB s:=by simp[see] at h2;exact h2.2
 have a:∃ p:Nat,Gk[p]? =some s∧(∀ j,j < p→Gk[j]? ≠some s)∧op=11+(p:Int):=by
  match k,h1 with
  | 0,h | 3,h=>cases h
  | 1,h=>revert h;simp only[CE,zE,zo,Prod.mk.injEq,or_false];rintro ⟨rfl,rfl⟩;exact ⟨15,by decide,by decide,rfl⟩
  | 2,h=>revert h;simp only[CE,zE,zo,Prod.mk.injEq,or_false];rintro ⟨rfl,rfl⟩;exact ⟨14,by decide,by decide,rfl⟩
  | 4,h=>
   revert h;simp only[CE,zE,zo,Prod.mk.injEq,or_false];rintro (⟨rfl,rfl⟩ | ⟨rfl,rfl⟩ | ⟨rfl,rfl⟩ | ⟨rfl,rfl⟩ | ⟨rfl,rfl⟩ | ⟨rfl,rfl⟩)
   ·exact ⟨8,by decide,by decide,rfl⟩
   ·exact ⟨9,by decide,by decide,rfl⟩
   ·exact ⟨10,by decide,by decide,rfl⟩
   ·exact ⟨11,by decide,by decide,rfl⟩
   ·exact ⟨12,by decide,by decide,rfl⟩
   ·exact ⟨13,by decide,by decide,rfl⟩
  | 5,h=>
   revert h;simp only[CE,zE,zo,Prod.mk.injEq,or_false];rintro (⟨rfl,rfl⟩ | ⟨rfl,rfl⟩ | ⟨rfl,rfl⟩ | ⟨rfl,rfl⟩)
   ·exact ⟨0,by decide,by decide,rfl⟩
   ·exact ⟨1,by decide,by decide,rfl⟩
   ·exact ⟨5,by decide,by decide,rfl⟩
   ·exact ⟨7,by decide,by decide,rfl⟩
  | 6,h=>
   revert h;simp only[CE,zE,zo,Prod.mk.injEq,or_false];rintro (⟨rfl,rfl⟩ | ⟨rfl,rfl⟩ | ⟨rfl,rfl⟩ | ⟨rfl,rfl⟩)
   ·exact ⟨2,by decide,by decide,rfl⟩
   ·exact ⟨3,by decide,by decide,rfl⟩
   ·exact ⟨4,by decide,by decide,rfl⟩
   ·exact ⟨6,by decide,by decide,rfl⟩
  |k+7,h=>cases h
 obtain ⟨p,e1,e2,e3⟩:=a;exact ⟨s,p,ht,e1,e2,e3⟩
def Qf (B nb ga c:Nat) (T:List Af) (lo hi:Nat) (p:Pt):Prop:=
 ∀ (N:List Nd) (P:List Int) (nd pl:Value) (nv kv:List Value) (w:World),Mb w nb ga c T→Gh w B nb (.slice (some ⟨ga,0,none⟩) T.length c) N P nd pl nv kv→N.length+p.ex.cnt≤65535→P.length+p.ex.cnt≤65535→Calls Tryz.prog 47 #[.pointer (some ⟨nb,0,none⟩),.int .i64 (lo:Int),.int .i64 (hi:Int)] w (L2A B nb (.slice (some ⟨ga,0,none⟩) T.length c) N (BH p.ex N.length) P (DG p.ex) nd pl nv kv w)
theorem Aay (w:World)(ks:List Int)(a:Array Value)(n:Nat)(b:a.toList=Ar ks)(h:a.size=n)(c:n≤maxLen):(w.alloc (.cells a 3)).ownsRow w.heap.size 3 1 (.slice (some ⟨w.heap.size,0,none⟩) n n) n (Ar ks):=by
 refine ⟨by rw[← b];simp[h],.inr ⟨w.heap.size,n,a,rfl,NLN,heap_alloc_new w _,NLN,c,by omega, ?_⟩⟩;rw[Nat.mul_one,zq (by simp;omega),b]
theorem Kk {w:World}{B a f c:Nat}{T:List Af}{N:List Nd}{P:List Int}{nd m:Value}{o p:List Value}(u:Mb w a f c T)(v:f < B)(b:Gh w B a (.slice (some ⟨f,0,none⟩) T.length c) N P nd m o p)(x:N.length+1≤65535)(y:P.length+1≤65535)
  (ks:List Int)(d:Array Value)(n:Nat)(s:d.toList=Ar ks)(h:d.size=n)(z:n≤maxLen)(op:Int)(i:Nat)(hi:i < T.length):
  Calls Tryz.prog 76 #[.pointer (some ⟨a,0,none⟩),.agg #[.int .i64 op,.int .i64 0,.string ⟨#[]⟩,.slice none 0 0,.slice (some ⟨w.heap.size,0,none⟩) n n],.int .i64 (i:Int)] (w.alloc (.cells d 3)) fun r w'=>r= .returned (.int .i64 (N.length:Int))∧∃ g k,Gh w' B a (.slice (some ⟨f,0,none⟩) T.length c) (N ++ [⟨op,0,⟨#[]⟩, [],ks⟩]) (P ++ [(T[i].at_:Int)]) g k (o ++ [.slice none 0 0]) (p ++ [.slice (some ⟨w.heap.size,0,none⟩) n n])∧Nk B a nd m w g k w':=by
 have l:=(Below.refl w.heap.size w).alloc NLN (.cells d 3);have A:ks.length=n:=by
  have:=congrArg List.length s;simp[Ar] at this;omega
 have hB:B≤w.heap.size:=by have:=b.row.lt;have:=b.low;omega
 subst A;refine (Lr (u.below l) v (b.below l) x y ⟨op,0,⟨#[]⟩, [],ks⟩ none 0 (some ⟨w.heap.size,0,none⟩) ks.length w.heap.size hB (World.ownsRow_nil _ _ _ _) (Aay w ks d ks.length s h z) (fun j t q hq e=>by cases e) (fun j t q hq e=>?_) (fun q hq e=>?_) i hi).mono ?_
 ·have h1:w.heap.size=q:=by simpa[Value.ownBlock] using e
  have:=(b.nodes.lts.2.2 j t q hq).2;omega
 ·have h1:w.heap.size=q:=by simpa[Value.ownBlock] using hq
  have:=(b.places.lt q e).2;omega
 ·rintro r w' ⟨h1,g,k,C,E⟩;exact ⟨h1,g,k,C,(Nk.of_all l hB).trans E⟩
theorem Aaz {B Y Z c:Nat}{T:List Af}(aa:Z < B)(aN:T.length≤4000){lo hi:Nat}(m:hi≤T.length)(b2:lo≤hi){t u v:Af}{a b d:List Af}{h g f:Pt}(hs:GD T lo hi=t ::(a ++u ::(b ++v ::d)))(ht:see Et t=true)(aO:see BP u=true)(aP:see AJ v=true)(aQ:G 0 a h)(aR:G 0 b g)(bv:G 0 d f)
  (ab:∀ ac O p,O≤T.length→ac≤O→O - ac < hi - lo→G 0 (GD T ac O) p→Qf B Y Z c T ac O p):Qf B Y Z c T lo hi (.ite t.at_ h g f):=by
 intro N P nd ad ae af w Q ag ay hp;obtain ⟨ah,e1,az,b3⟩:=AT m hs;obtain ⟨aS,aT,bw⟩:=I2 m az (by omega);obtain ⟨b4,bx,aA,b5⟩:=AT m aT;obtain ⟨g1,g2,g3⟩:=I2 m aA (by omega);obtain ⟨g4,g5,g6,g7⟩:=AT m g2;have aU:Ce BP (T.drop (lo+1)) 1 0 ((lo+1 :Nat):Int)=((lo+1+a.length:Nat):Int):=by
  rw[Od m (by omega),az,zC,aQ.mat (.inl rfl) _ _ _ _ (by omega) (by omega),List.cons_append,WM aO (by decide)];omega
 have aV:Ce AJ (T.drop (lo+1+a.length+1)) 1 0 ((lo+1+a.length+1 :Nat):Int)=((lo+1+a.length+1+b.length:Nat):Int):=by
  rw[Od m (by omega),aA,zC,aR.mat (.inr rfl) _ _ _ _ (by omega) (by omega),List.cons_append,WM aP (by decide)];omega
 have aW:=Ab (It Q lo ah Et (AB Et) rfl);rw[e1,ht] at aW;have ai:=Ab (fun (w':World) (aB:Below w.heap.size w w')=>Oc (Q.below aB) aN (lo+1) (by omega) BP (AB BP) rfl);have R:=Ab (fun (w':World) (aB:Below w.heap.size w w')=>Oc (Q.below aB) aN (lo+1+a.length+1) (by omega) AJ (AB AJ) rfl);rw[aU] at ai;rw[aV] at R;have aj:=Ab (ab (lo+1) (lo+1+a.length) h (by omega) (by omega) (by omega) (by rw[aS];exact aQ));have S:=Ab (ab (lo+1+a.length+1) (lo+1+a.length+1+b.length) g (by omega) (by omega) (by omega) (by rw[g1];exact aR));have U:=Ab (ab (lo+1+a.length+1+b.length+1) hi f (by omega) (by omega) (by omega) (by rw[g6];exact bv));have ak:=Ab Q;have bz:=Ab (And.intro ah e1);have b6:N.length+(h.ex.cnt+g.ex.cnt+f.ex.cnt+1)≤65535:=ay;have b7:P.length+(h.ex.cnt+g.ex.cnt+f.ex.cnt+1)≤65535:=hp;have bA:lo+1+a.length≤4000:=by omega
 have aX:lo+1+a.length+1+b.length+1≤4001:=by omega
 obtain ⟨aC,aY⟩:∃ aC,aC=lo+1+a.length:=⟨_,rfl⟩
 rw[← aY] at ai R aj S U bA aX;obtain ⟨aZ,a0⟩:∃ aZ,aZ=aC+1+b.length:=⟨_,rfl⟩
 rw[← a0] at R S U aX;unfold Qf at aj S U;simp only[zd,Int.natCast_one] at ai R aj S U;have b8:=ay;clear ay hp hs az aS aT bw bx aA g1 g2 g3 g5 g6 aU aV aY a0 ht aO aP ab Q e1;have b9:=Below.refl w.heap.size w;go_enter Tryz.func47,Tryz.ntmps47
 go_wp2_with fail
 refine (Aa aW).mono ?_;rintro r ca ⟨rfl,V⟩;have bB:=ag.below V;dsimp only;go_wp2_with fail
 refine (Aa ai _ V).mono ?_;rintro r w2 ⟨rfl,a4⟩;have al:=V.trans (a4.mono V.size);dsimp only;go_wp2_with fail
 refine (Aa R _ al).mono ?_;rintro r a5 ⟨rfl,a6⟩;have ao:=al.trans (a6.mono al.size);have a7:=ag.below ao;have a8:=(Aa ak).below ao;have a9:Nk B Y nd ad w nd ad a5:=Nk.of_all ao (by have:=ag.row.lt;have:=ag.low;omega);clear V a4 a6 al bB;dsimp only;go_wp2_with fail
 refine (Aa aj N P nd ad ae af a5 a8 a7 (by omega) (by omega)).mono ?_;rintro r bC ⟨rfl,bD,bE,aD,aE,ap,ba,bb⟩;have aq:=a9.trans ba;have bc:=(Aa ak).of ap aq.low aa;obtain ⟨a1,A⟩:∃ a1:Int,a1=((N.length+(BH h.ex N.length).length - 1 :Nat):Int):=⟨_,rfl⟩
 obtain ⟨k,n⟩:∃ M,M=N ++BH h.ex N.length:=⟨_,rfl⟩
 obtain ⟨W,o⟩:∃ M,M=P ++DG h.ex:=⟨_,rfl⟩
 obtain ⟨bd,C⟩:∃ M,M=ae ++aD:=⟨_,rfl⟩
 obtain ⟨bf,E⟩:∃ M,M=af ++aE:=⟨_,rfl⟩
 rw[← n,← o,← C,← E] at ap;rw[← A];have i:k.length=N.length+h.ex.cnt:=by rw[n,zA,Am]
 have j:W.length=P.length+h.ex.cnt:=by rw[o,zA,Bn]
 have bF:k.length+(g.ex.cnt+f.ex.cnt+1)≤65535:=by omega
 have bG:W.length+(g.ex.cnt+f.ex.cnt+1)≤65535:=by omega
 have bH:=Ab (And.intro A (And.intro n (And.intro o (And.intro C (And.intro E (And.intro i (And.intro j bb)))))));clear A n o C E i j bb a9 ba a7 a8;dsimp only;go_wp2_with fail
 refine (Aa S k W bD bE bd bf bC bc ap (by omega) (by omega)).mono ?_;rintro r bI ⟨rfl,Lk,bJ,aF,aG,ar,bg,bh⟩;have au:=aq.trans bg;have bi:=(Aa ak).of ar au.low aa;obtain ⟨a2,F⟩:∃ a2:Int,a2=((k.length+(BH g.ex k.length).length - 1 :Nat):Int):=⟨_,rfl⟩
 obtain ⟨l,s⟩:∃ M,M=k ++BH g.ex k.length:=⟨_,rfl⟩
 obtain ⟨X,x⟩:∃ M,M=W ++DG g.ex:=⟨_,rfl⟩
 obtain ⟨bj,H⟩:∃ M,M=bd ++aF:=⟨_,rfl⟩
 obtain ⟨bk,I⟩:∃ M,M=bf ++aG:=⟨_,rfl⟩
 rw[← s,← x,← H,← I] at ar;rw[← F];have i:l.length=k.length+g.ex.cnt:=by rw[s,zA,Am]
 have j:X.length=W.length+g.ex.cnt:=by rw[x,zA,Bn]
 have bK:l.length+(f.ex.cnt+1)≤65535:=by omega
 have bL:X.length+(f.ex.cnt+1)≤65535:=by omega
 have bM:=Ab (And.intro F (And.intro s (And.intro x (And.intro H (And.intro I (And.intro i (And.intro j (And.intro bh aq.low.size))))))));clear F s x H I i j bh aq bg ap bc bF bG;dsimp only;go_wp2_with fail
 refine (Aa U l X Lk bJ bj bk bI bi ar (by omega) (by omega)).mono ?_;rintro r av ⟨rfl,cb,cc,aH,aI,aJ,bl,bm⟩;have aK:=au.trans bl;have bN:=(Aa ak).of aJ aK.low aa;obtain ⟨a3,J⟩:∃ a3:Int,a3=((l.length+(BH f.ex l.length).length - 1 :Nat):Int):=⟨_,rfl⟩
 obtain ⟨aw,y⟩:∃ M,M=l ++BH f.ex l.length:=⟨_,rfl⟩
 obtain ⟨aL,z⟩:∃ M,M=X ++DG f.ex:=⟨_,rfl⟩
 obtain ⟨bO,K⟩:∃ M,M=bj ++aH:=⟨_,rfl⟩
 obtain ⟨bP,L⟩:∃ M,M=bk ++aI:=⟨_,rfl⟩
 rw[← y,← z,← K,← L] at aJ;rw[← J];have i:aw.length=l.length+f.ex.cnt:=by rw[y,zA,Am]
 have j:aL.length=X.length+f.ex.cnt:=by rw[z,zA,Bn]
 have bQ:aw.length+1≤65535:=by omega
 have bR:aL.length+1≤65535:=by omega
 have bS:=Ab (And.intro J (And.intro y (And.intro z (And.intro K (And.intro L (And.intro i (And.intro j (And.intro bm au.low.size))))))));clear J y z K L i j bm au bl ar bi bK bL;dsimp only;go_wp2_with fail
 obtain ⟨ah,hat⟩:=Aa bz;refine (Kk bN aa aJ bQ bR [a1,a2,a3] _ 3 rfl rfl (by unfold maxLen;omega) 27 lo ah).mono ?_;rintro r bT ⟨rfl,bU,bV,aM,bn⟩;have bo:=aK.trans bn;rw[hat] at aM;obtain ⟨A,n,o,C,E,i,j,bp⟩:=Aa bH;obtain ⟨F,s,x,H,I,ax,bW,bq,br⟩:=Aa bM;obtain ⟨J,y,z,K,L,bs,bX,bt,bu⟩:=Aa bS;have bY:=aK.low.size;have bZ:=Ab (show L2A B Y (.slice (some ⟨Z,0,none⟩) T.length c) N (BH (Pt.ite t.at_ h g f).ex N.length) P (DG (Pt.ite t.at_ h g f).ex) nd ad ae af w (.returned (.int .i64 (aw.length:Int))) bT from by
  have b0:aw ++ [⟨27,0,⟨#[]⟩, [], [a1,a2,a3]⟩]=N ++BH (Pt.ite t.at_ h g f).ex N.length:=by
   have e1:a1=((N.length+h.ex.cnt - 1 :Nat):Int):=by rw[A,Am]
   have e2:a2=((N.length+h.ex.cnt+g.ex.cnt - 1 :Nat):Int):=by rw[F,Am,i]
   have e3:a3=((N.length+h.ex.cnt+g.ex.cnt+f.ex.cnt - 1 :Nat):Int):=by rw[J,Am,ax,i]
   rw[e1,e2,e3,y,ax,i,s,i,n,Pt.ex,BH];simp only[zC]
  have b1:aL ++ [(t.at_:Int)]=P ++DG (Pt.ite t.at_ h g f).ex:=by
   rw[z,x,o,Pt.ex,DG];simp only[zC]
  refine ⟨by rw[Am,Pt.ex,Ex.cnt,bs,ax,i];congr 2;omega,bU,bV,aD ++aF ++aH ++ [.slice none 0 0],aE ++aG ++aI ++ [.slice (some ⟨av.heap.size,0,none⟩) 3 3], ?_,bo, ?_⟩
  ·rw[← b0,← b1];have e1:ae ++(aD ++aF ++aH ++ [.slice none 0 0])=bO ++ [.slice none 0 0]:=by rw[K,H,C];simp
   have e2:af ++(aE ++aG ++aI ++ [.slice (some ⟨av.heap.size,0,none⟩) 3 3])=bP ++ [.slice (some ⟨av.heap.size,0,none⟩) 3 3]:=by rw[L,I,E];simp
   rw[e1,e2];exact aM
  ·exact EW (EW (EW (Cl bp ao.size) (Cl bq br)) (Cl bt bu)) (GE (fun q hq=>by
    have:av.heap.size=q:=by simpa[Value.ownBlock] using hq
    omega)))
 clear aM bn bo A n o C E i j bp F s x H I ax bW bq br J y z K L bs bX bt bu bY;dsimp only;go_wp2_with fail
 go_ret
 exact Aa bZ
end Go.Proofs.YtchakjeegneeoaaGreatDoor
