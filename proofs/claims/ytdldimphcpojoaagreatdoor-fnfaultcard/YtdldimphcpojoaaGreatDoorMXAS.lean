/-
  HA0, KTG, KTH, KTJ, GS, GT. Own work.
-/
import Derived.Test.YtdldimphcpojoaaGreatDoorGX
import Derived.Test.YtdldimphcpojoaaGreatDoorMXAR
import Derived.Test.YtdldimphcpojoaaGreatDoorMXAM
import Derived.Test.YtdldimphcpojoaaGreatDoorMXAF
import Derived.Test.YtdldimphcpojoaaGreatDoorMXAQ
import Derived.Test.YtdldimphcpojoaaGreatDoorKTF
import Derived.Test.YtdldimphcpojoaaGreatDoorMXAU
import Derived.Test.YtdldimphcpojoaaGreatDoorNUI
namespace Go.Proofs.YtdldimphcpojoaaGreatDoor
open Go.RowKit
set_option linter.unusedVariables false
def IX:List Sx→Option Int
 | []=>none
 | x ::X=>if 64 < mx (LG x.cond) (LG x.grant) then some x.at' else IX X
def XV (ss:List ByteArray):List ByteArray:=(Kg ss).map Ax
theorem QD {a K:List ByteArray}(h:Cx a K):K=XV a:=h.unique (H5 a)
def Pt.ex:Pt→Ex
 | .int i n=> .int i n
 | .text i s=> .text i s
 | .bool i b=> .bool i b
 | .set i ss=> .set i none 0 0 (XV ss)
 | .name i s=> .name i s
 | .un i op k=> .un i op k.ex
 | .bin i op l r=> .bin i op l.ex r.ex
 | .ite i c t e=> .ite i c.ex t.ex e.ex
def Ps.sx (s:Ps):Sx:=⟨(s.at_:Int),s.kind,s.name,s.cond.map Pt.ex,s.grant.map Pt.ex⟩
def LE (L:List (Nat × List ByteArray)):List Int:=L.filterMap fun q=>if 64 < (XV q.2).length then some (q.1:Int) else none
theorem J5 (a B:List (Nat × List ByteArray)):LE (a ++B)=LE a ++LE B:=by simp[LE]
def FP (t:ByteArray) (x:QR):List Nd × List St × List Int × Int × Int:=
 if (Ar t).code≠0 then ([], [], [],(Ar t).code,((Ar t).at_:Int)) else match x with
 | .bad q=>([], [], [],4,((CW t.size q).at_:Int))
 | .ok S=>match (LE (S.flatMap Ps.sets)).head? with
  | some i=>([], [], [],5,i)
  | none=>match IX (S.map Ps.sx) with
   | some i=>([], [], [],6,i)
   | none=>(Bi 0 (S.map Ps.sx),DZ 0 (S.map Ps.sx),Dd (S.map Ps.sx),0,0)
theorem H9 {t:ByteArray}{x:QR}(h:(Ar t).code≠0):FP t x=([], [], [],(Ar t).code,((Ar t).at_:Int)):=by
 unfold FP;rw[if_pos h]
theorem Gi {t:ByteArray}{q:List Af}(h:(Ar t).code=0):FP t (.bad q)=([], [], [],4,((CW t.size q).at_:Int)):=by
 unfold FP;rw[if_neg (by omega)]
theorem Kl {t:ByteArray}{S:List Ps}{i:Int}(h:(Ar t).code=0)(a:(LE (S.flatMap Ps.sets)).head? =some i):FP t (.ok S)=([], [], [],5,i):=by
 unfold FP;rw[if_neg (by omega)];simp only[a]
theorem Km {t:ByteArray}{S:List Ps}{i:Int}(h:(Ar t).code=0)(a:(LE (S.flatMap Ps.sets)).head? =none)(b:IX (S.map Ps.sx)=some i):FP t (.ok S)=([], [], [],6,i):=by
 unfold FP;rw[if_neg (by omega)];simp only[a,b]
theorem Qd {t:ByteArray}{S:List Ps}(h:(Ar t).code=0)(a:(LE (S.flatMap Ps.sets)).head? =none)(b:IX (S.map Ps.sx)=none):FP t (.ok S)=(Bi 0 (S.map Ps.sx),DZ 0 (S.map Ps.sx),Dd (S.map Ps.sx),0,0):=by
 unfold FP;rw[if_neg (by omega)];simp only[a,b]
theorem Mj (n:Nat):∀ (f:Nat) (l:List UInt8) (out:List Af),(AH n f l out).toks.length≤out.length+l.length
 | 0,l,out=>by simp[AH]
 | f+1,l,out=>by
  rw[AH];have b:=FA false l;split
  ·simp
  ·rename_i c r d;rw[d] at b;split
   ·simp
   ·rename_i k m s a g;have h1:=ES (c ::r);rw[g] at h1;have h2: 1≤a∧a≤(c ::r).length:=⟨h1.1,h1.2.1⟩
    have h:=Mj n f ((c ::r).drop a) (out ++ [⟨k,m,Ax s,n - (r.length+1)⟩]);rw[List.length_drop,List.length_append] at h;simp only[List.length_cons,List.length_nil] at *;omega
theorem KJ (t:ByteArray):(Ar t).toks.length≤4000:=by
 unfold Ar;split
 ·simp
 ·have:=Mj t.size (t.size+1) (Ak t) [];rw[As] at this;simp only[List.length_nil] at this;omega
theorem G.cnt {k:Nat}{c:List Af}{p:Pt}(g:G k c p):p.ex.cnt≤c.length:=by
 induction g with
 | up hk g a=>exact a
 | ite ht hu b l m n o q id=>simp only[Pt.ex,Ex.cnt,List.length_cons,List.length_append];omega
 | bin hk d ht f i j=>simp only[Pt.ex,Ex.cnt,List.length_cons,List.length_append];omega
 | cmp d ht f i j=>simp only[Pt.ex,Ex.cnt,List.length_cons,List.length_append];omega
 | not ht g a=>simp only[Pt.ex,Ex.cnt,List.length_cons];omega
 | neg ht g a=>simp only[Pt.ex,Ex.cnt,List.length_cons];omega
 | par ht g hu a=>simp only[List.length_cons,List.length_append];omega
 | size ht hu g b a=>simp only[Pt.ex,Ex.cnt,List.length_cons,List.length_append];omega
 | set ht hc hu=>simp only[Pt.ex,Ex.cnt,List.length_cons,List.length_append];omega
 | num h | text h | name h | tru h | fls h=>simp[Pt.ex,Ex.cnt]
theorem GC.cnt {c:List Af}{g:Option Pt}(h:GC c g):A9 (g.map Pt.ex)≤c.length:=by
 cases h with
 | deny h=>simp[A9]
 | grant h g=>have:=g.cnt;simp only[Option.map_some,A9,List.length_cons];omega
theorem SC.cnt {c:List Af}{s:Ps}(h:SC c s):A9 s.sx.cond+A9 s.sx.grant≤c.length:=by
 cases h with
 | let_ h d he g=>have:=g.cnt;simp only[Ps.sx,Option.map_some,Option.map_none,A9,List.length_cons];omega
 | when h b f a=>have:=b.cnt;have:=a.cnt;simp only[Ps.sx,Option.map_some,A9,List.length_cons,List.length_append] at *;omega
 | else_ h a=>have:=a.cnt;simp only[Ps.sx,Option.map_none,A9,List.length_cons] at *;omega
theorem PC.cnt {a:List Af}{S:List Ps}(h:PC a S):DH (S.map Ps.sx)+S.length≤a.length:=by
 induction h with
 | nil=>simp[DH]
 | cons b hu c d=>
  have:=b.cnt;rw[List.map_cons,CP,List.length_cons,List.length_append,List.length_cons];omega
theorem U7 {X:List Sx}{x:Sx}(h:x∈X):A9 x.cond+A9 x.grant≤DH X:=by
 induction X with
 | nil=>cases h
 | cons y X a=>
  rw[CP];rcases List.mem_cons.1 h with rfl | h
  ·omega
  ·have:=a h;omega
def WH (ss:List ByteArray):Prop:=(∀ x∈ss,x.size≤maxLen)∧ss.length≤1048576
theorem M1:∀ (a:List Af),(∀ t∈a,t.text.size≤maxLen)→(∀ x∈I1 a,x.size≤maxLen)∧(I1 a).length≤a.length
 | [],_=>⟨fun x h=>(by cases h),by simp[I1]⟩
 | t ::r,h=>by
  obtain ⟨b,c⟩:=M1 r (fun u hu=>h u (List.mem_cons_of_mem _ hu));rw[I1];split
  ·exact ⟨fun x h=>(by cases h),by simp⟩
  ·split
   ·refine ⟨fun x hx=>?_,by simp;omega⟩;rcases List.mem_cons.1 hx with rfl | hx
    ·exact h t (List.mem_cons_self ..)
    ·exact b x hx
   ·exact ⟨b,by simp;omega⟩
theorem KK:∀ (a:List Af),(∀ t∈a,t.text.size≤maxLen)→a.length≤1048576→∀ q∈Dc a,WH q.2
 | [],_,_,q,h=>by cases h
 | t ::r,h,hl,q,hq=>by
  have b:∀ u∈r,u.text.size≤maxLen:=fun u hu=>h u (List.mem_cons_of_mem _ hu);have c:r.length≤1048576:=by simp at hl;omega
  rw[Dc] at hq;split at hq
  ·rcases List.mem_cons.1 hq with rfl | hq
   ·have:=M1 r b;exact ⟨this.1,by show (I1 r).length≤_;omega⟩
   ·exact KK r b c q hq
  ·exact KK r b c q hq
theorem DP.ne {a:List Af}{x:QR}(d:DP a x):∀ S,x= .ok S→S≠ []:=by
 induction d with
 | bad=>intro S h;cases h
 | over=>intro S h;cases h
 | @more a r s x d hk d2 b=>
  intro S h;cases x with
  | bad=>cases h
  | ok T=>cases h;simp
 | last=>intro S h;cases h;simp
set_option maxRecDepth 100000
set_option maxHeartbeats 3200000
def YX (B R gb:Nat) (a:Option Addr) (n c m:Nat) (L:List (ByteArray × Int)) (nd lt:Value) (t:Nat) (w:World) (vx vi:Value) (wr:World):Prop:=
 ∃ (j m':Nat) (k:Int) (nd':Value),1≤j∧j≤t∧vi= .int .i64 (j:Int)∧vx= .int .i64 k∧m≤m'∧m'≤m+j∧GF B R gb a n c m' L nd' lt wr∧Gk B R gb lt nd w nd' wr
theorem Vx {B R b:Nat}{a:Option Addr}{n c m:Nat}{L:List (ByteArray × Int)}{nd lt:Value}{w:World}(h:GF B R b a n c m L nd lt w)(hm:m+65≤1000000)(v:L.length≤100)(t:Nat)(z: 1≤t)(P:t≤64):
  Calls Tryz.prog 43 #[.pointer (some ⟨b,0,none⟩),.int .i64 (t:Int)] w (Eu B R b a n c m 64 L nd lt w):=by
 go_enter Tryz.func43,Tryz.ntmps43
 go_wp2_with fail
 refine (De h (by omega) v 1 (by omega)).mono ?_;rintro r A ⟨⟨x,rfl⟩,C,E,a1,a2,o,p⟩;have q:=Ab (show YX B R b a n c m L nd lt t w (.int .i64 x) (.int .i64 1) A from ⟨1,C,x,E,by omega,z,rfl,rfl,a1,a2,o,p⟩);clear o p a1 a2 h;dsimp only;go_wp2_with fail
 go_loopw [5,6] (fun F g wr=>YX B R b a n c m L nd lt t w F g wr) (fun _ g _=>t - (intOf g).toNat)
 case atStart=>exact Aa q
 case round=>
  clear q;obtain ⟨j,H,k,I,Q,S,rfl,rfl,b1,b2,d,f⟩:=hrel;by_cases i:j < t
  ·have J:(j:Int) < (t:Int):=by omega
   have K:=Ab (Vw t j i);go_wp2_with fail
   refine (DT d (by omega) [k] _ 1 rfl rfl (by omega) 9).mono ?_;rintro r M ⟨⟨y,rfl⟩,N,O,b3,b4,s,u⟩;have l:=Ab (show YX B R b a n c m L nd lt t w (.int .i64 y) (.int .i64 ((j:Int)+1)) M from ⟨j+1,N,y,O,by omega,by omega,by rw[Int.natCast_add];rfl,rfl,by omega,by omega,s,f.trans u⟩);clear d f s u i;dsimp only;go_wp2_with fail
   exact ⟨Aa l,Aa K⟩
  ·have J: ¬ ((j:Int) < (t:Int)):=by omega
   have l:=Ab (show Eu B R b a n c m 64 L nd lt w (.returned (.int .i64 k)) wr from ⟨⟨k,rfl⟩,H,I,b1,by omega,d,f⟩);clear d f i;go_wp2_with fail
   go_ret
   exact Aa l
structure Wf (w:World) (B pb:Nat) (S:List St) (sv:Value):Prop where
 row:An w pb #[.slice none 0 0,sv] 27
 st:w.ownsRow B 49 4 sv S.length (CA S)
 good:∀ s∈S,s.name.size≤1048576
theorem Gk.row {B R d:Nat}{a:Option Addr}{n c m:Nat}{L:List (ByteArray × Int)}{nd lt f:Value}{w w':World}(K:Gk B R d lt nd w f w')(S:GF B R d a n c m L nd lt w){b:Nat}{cs:Array Value}{t:TypeId}(h:An w b cs t)(h1:t≠99)(h2:t≠61)(h3:t≠114)(h4:t≠102):An w' b cs t:=by
 obtain ⟨N,i,j,k,C,e⟩:=S;obtain ⟨p,g⟩:=C.rd;exact ⟨(K.block b h.lt (Ej h C.row h1) (Ej h g.row h2) (Ad h C.nodes.own h3) (Ad h C.lets h4)).trans h.out⟩
theorem Gk.own {B R b:Nat}{a:Option Addr}{n c m:Nat}{L:List (ByteArray × Int)}{nd lt g:Value}{w w':World}(K:Gk B R b lt nd w g w')(S:GF B R b a n c m L nd lt w){d t size k:Nat}{v:Value}{f:List Value}(h:w.ownsRow d t size v k f)(h1: 99≠t)(h2: 61≠t)(h3:t≠114)(h4:t≠102):w'.ownsRow d t size v k f:=by
 obtain ⟨N,j,l,o,C,e⟩:=S;obtain ⟨p,i⟩:=C.rd;exact Ac h (fun q hq=>K.block q (h.lt q hq).2 (fun e=>Ad C.row h h1 (by rw[hq,e])) (fun e=>Ad i.row h h2 (by rw[hq,e])) (fun e=>Al h C.nodes.own h3 q hq e) (fun e=>Al h C.lets h4 q hq e))
theorem Wf.gk {B R b d:Nat}{a:Option Addr}{n c m:Nat}{L:List (ByteArray × Int)}{nd lt g f:Value}{w w':World}{S:List St}(P:Wf w B d S f)(K:Gk B R b lt nd w g w')(G:GF B R b a n c m L nd lt w):Wf w' B d S f:=
 ⟨K.row G P.row (by decide) (by decide) (by decide) (by decide),K.own G P.st (by decide) (by decide) (by decide) (by decide),P.good⟩
theorem Wf.below {B a:Nat}{b:Value}{w w':World}{S:List St}(P:Wf w B a S b)(c:Below w.heap.size w w'):Wf w' B a S b:=
 ⟨P.row.after c NLN,Ac P.st (fun q hq=>c.block q (P.st.lt q hq).2),P.good⟩
theorem GF.others {B R s:Nat}{a:Option Addr}{n c m:Nat}{L:List (ByteArray × Int)}{nd lt:Value}{w w':World}(h:GF B R s a n c m L nd lt w)(A:Below B w w')(T:TypeId)(X:Nat→Prop)(x:∀ q,X q→(∃ cs,An w q cs T)∨∃ g size k v i,v.ownBlock=some q∧w.ownsRow g T size v k i)(h1:T≠99)(h2:T≠61)(h3:T≠114)(h4:T≠102)(h5:T≠9)(h6:T≠3)(hk:∀ q,q < w.heap.size→¬ X q→w'.heap[q]? =w.heap[q]?):GF B R s a n c m L nd lt w':=by
 obtain ⟨N,E,F,H,C,e⟩:=h;obtain ⟨p,f⟩:=C.rd;have y:∀ {b:Nat} {cs:Array Value} {t:TypeId},An w b cs t→T≠t→¬ X b:=fun r l hx=>by
  rcases x _ hx with ⟨I,k⟩ | ⟨g,size,k,v,i,u,o⟩
  ·exact Ej k r l rfl
  ·exact Ad r o (Ne.symm l) u
 have no:∀ {g t size k:Nat} {v:Value} {i:List Value},w.ownsRow g t size v k i→T≠t→∀ q,v.ownBlock=some q→¬ X q:=fun o l q hq hx=>by
  rcases x _ hx with ⟨I,k⟩ | ⟨g,size,k,v,i,u,J⟩
  ·exact Ad k o l hq
  ·exact Al J o l q u hq
 refine ⟨N,E,F,H,⟨⟨(hk s C.row.lt (y C.row h1)).trans C.row.out⟩,⟨p,⟨(hk R f.row.lt (y f.row h2)).trans f.row.out⟩,f.le,f.small,fun j d=>?_⟩,C.nodes.upto (fun q hq=>hk q (C.nodes.lts.1 q hq).2 (no C.nodes.own h3 q hq)) (fun j d q hq=>hk q (C.nodes.lts.2.1 j d q hq).2 (no (C.nodes.names j (by rw[← C.nodes.len];exact d) d) h5 q hq)) (fun j d q hq=>hk q (C.nodes.lts.2.2 j d q hq).2 (no (C.nodes.kids j (by rw[← C.nodes.lenk];exact d) d) h6 q hq)),Ac C.lets (fun q hq=>hk q (C.lets.lt q hq).2 (no C.lets h4 q hq)),C.low,C.good⟩,e⟩;obtain ⟨b,z,K,e1,e2,e3,e4,e5⟩:=f.cells j d;exact ⟨b,z,K,e1,e2,(A.cell (p:=⟨b,z+j,none⟩) (show b < B from C.low.2 (by omega) _ e1)).trans e3,e4,e5⟩
theorem PW.pushL {k g:World}{B R f g7 c7:Nat}{a:Option Addr}{n c:Nat}{N:List Nd}{L:List (ByteArray × Int)}{nd lt:Value}{s t:List Value}{u:Bool}(C:PW k B R f a n c N L nd lt s t u)(v:Obj)(x:ByteArray × Int)(hx:x.1.size≤1000)(A:B≤k.heap.size)
  (l:(k.alloc v).grownBy g lt.ownBlock)(w:g.ownsRow B 102 2 (.slice (some ⟨g7,0,none⟩) (L.length+1) c7) (L.length+1) (J1 L ++ [.string x.1,.int .i64 x.2])):
  PW (g.setCell ⟨f,2,none⟩ (.slice (some ⟨g7,0,none⟩) (L.length+1) c7)) B R f a n c N (L ++ [x]) nd (.slice (some ⟨g7,0,none⟩) (L.length+1) c7) s t u:=by
 have E:=(Below.refl k.heap.size k).alloc NLN v;have F:lt.ownBlock≠some f:=Ad C.row C.lets (by decide);have o:An g f #[.pointer (some ⟨R,0,none⟩),nd,lt,.bool u] 99:=⟨(Ap l f C.row.lt F).trans C.row.out⟩
 have r:∀ q,q≠f→(g.setCell ⟨f,2,none⟩ (.slice (some ⟨g7,0,none⟩) (L.length+1) c7)).heap[q]? =g.heap[q]? :=fun q hq=>heap_setCell_other g ⟨f,2,none⟩ q _ hq;obtain ⟨p,i⟩:=C.rd;have H:R≠f:=Ej i.row C.row (by decide);have I:Below B k (g.setCell ⟨f,2,none⟩ (.slice (some ⟨g7,0,none⟩) (L.length+1) c7)):=((E.mono A).grown l (by simp;omega) (fun q hq=>(C.lets.lt q hq).1)).setCell (p:=⟨f,2,none⟩) C.low.1.1 _;have m:BY g B nd N s t:=C.nodes.upto (fun q hq=>Ap l q (C.nodes.lts.1 q hq).2 (fun e=>Al C.lets C.nodes.own (by decide) q e hq)) (fun j d q hq=>Ap l q (C.nodes.lts.2.1 j d q hq).2 (fun e=>Al C.lets (C.nodes.names j (by rw[← C.nodes.len];exact d) d) (by decide) q e hq)) (fun j d q hq=>Ap l q (C.nodes.lts.2.2 j d q hq).2 (fun e=>Al C.lets (C.nodes.kids j (by rw[← C.nodes.lenk];exact d) d) (by decide) q e hq));refine ⟨o.set 2 _,⟨p,⟨((r R H).trans (Ap l R i.row.lt (Ad i.row C.lets (by decide)))).trans i.row.out⟩,i.le,i.small,fun j d=>?_⟩,m.upto (fun q hq=>r q (fun e=>Ad o m.own (by decide) (by rw[hq,e]))) (fun j d q hq=>r q (fun e=>Ad o (m.names j (by rw[← m.len];exact d) d) (by decide) (by rw[hq,e]))) (fun j d q hq=>r q (fun e=>Ad o (m.kids j (by rw[← m.lenk];exact d) d) (by decide) (by rw[hq,e]))), ?_,C.low,⟨C.good.1,fun y hy=>?_⟩⟩
 ·obtain ⟨b,z,J,e1,e2,e3,e4,e5⟩:=i.cells j d;exact ⟨b,z,J,e1,e2,(I.cell (p:=⟨b,z+j,none⟩) (show b < B from C.low.2 (by omega) _ e1)).trans e3,e4,e5⟩
 ·have:=Ac (w':=g.setCell ⟨f,2,none⟩ (.slice (some ⟨g7,0,none⟩) (L.length+1) c7)) w (fun q hq=>r q (fun e=>Ad o w (by decide) (by rw[hq,e])));rw[TN,List.length_append];exact this
 ·rcases List.mem_append.1 hy with h | h
  ·exact C.good.2 y h
  ·rw[List.mem_singleton.1 h];exact hx
end Go.Proofs.YtdldimphcpojoaaGreatDoor
namespace Go.Proofs.YtdldimphcpojoaaGreatDoor
open Go.RowKit
set_option linter.unusedVariables false
theorem Df:(Tryz.prog.info? 49).map (fun i=>(i.zero,i.size,i.bytes))=some (some (.agg #[.int .i64 0,.string ByteArray.empty,.int .i64 0,.int .i64 0]),4,40):=by kernel_rfl
theorem La:(Tryz.prog.info? 102).map (fun i=>(i.zero,i.size,i.bytes))=some (some (.agg #[.string ByteArray.empty,.int .i64 0]),2,24):=by kernel_rfl
theorem Q6 (L:List St)(s:St):CA (L ++ [s])=CA L ++ [.int .i64 s.kind,.string s.name,.int .i64 s.cond,.int .i64 s.grant]:=by simp[CA]
structure KZ (B R gb pb b0 sb:Nat) (a:Option Addr) (n c m:Nat) (L:List (ByteArray × Int)) (nd lt:Value) (S:List St) (sv v0 v1 v2 v3:Value) (w w':World):Prop where
 G:GF B R gb a n c m L nd lt w'
 P:Wf w' B pb S sv
 Z:An w' b0 #[.slice none 0 0,.slice none 0 0] 27
 s:An w' sb #[v0,v1,v2,v3] 49
 bel:Below B w w'
 far:sv.ownBlock≠some sb∧B≤sb∧B≤pb∧b0≠pb
section
variable {B R gb pb b0 sb : Nat} {a : Option Addr} {n c m : Nat} {L : List (ByteArray × Int)} {nd lt : Value} {S : List St} {sv v0 v1 v2 v3 : Value} {w w1 w2 : World}
theorem KZ.below (h:KZ B R gb pb b0 sb a n c m L nd lt S sv v0 v1 v2 v3 w w1)(b:Below w1.heap.size w1 w2):KZ B R gb pb b0 sb a n c m L nd lt S sv v0 v1 v2 v3 w w2:=
 ⟨h.G.below b,h.P.below b,h.Z.after b NLN,h.s.after b NLN,h.bel.trans (b.mono h.G.lt.1.1),h.far⟩
theorem KZ.gk {d:Nat}{b:Value}(h:KZ B R gb pb b0 sb a n c m L nd lt S sv v0 v1 v2 v3 w w1)(G:GF B R gb a n c d L b lt w2)(K:Gk B R gb lt nd w1 b w2):KZ B R gb pb b0 sb a n c d L b lt S sv v0 v1 v2 v3 w w2:=
 ⟨G,h.P.gk K h.G,K.row h.G h.Z (by decide) (by decide) (by decide) (by decide),K.row h.G h.s (by decide) (by decide) (by decide) (by decide),h.bel.trans K.low,h.far⟩
theorem KZ.touch (h:KZ B R gb pb b0 sb a n c m L nd lt S sv v0 v1 v2 v3 w w1)(t:Ai R (R+1) w1 w2)(b:Cr w2 R a n c):KZ B R gb pb b0 sb a n c m L nd lt S sv v0 v1 v2 v3 w w2:=
 h.gk (h.G.touch t b) (Gk.of_touch t h.G.lt.2.1.2 h.G.lt.1.2.2)
theorem KZ.set {b d f g:Value}(h:KZ B R gb pb b0 sb a n c m L nd lt S sv v0 v1 v2 v3 w w1)(j:Nat)(u:Value)(hu: #[v0,v1,v2,v3].setIfInBounds j u= #[b,d,f,g]):KZ B R gb pb b0 sb a n c m L nd lt S sv b d f g w (w1.setCell ⟨sb,j,none⟩ u):=by
 have hs:∀ q,q≠sb→(w1.setCell ⟨sb,j,none⟩ u).heap[q]? =w1.heap[q]? :=fun q hq=>heap_setCell_other w1 ⟨sb,j,none⟩ q u hq;have i:Below B w1 (w1.setCell ⟨sb,j,none⟩ u):=(Below.refl B w1).setCell (p:=⟨sb,j,none⟩) h.far.2.1 u;refine ⟨h.G.others i 49 (fun q=>q=sb) (fun q hq=> .inl ⟨#[v0,v1,v2,v3],by rw[hq];exact h.s⟩) (by decide) (by decide) (by decide) (by decide) (by decide) (by decide) (fun q _ hq=>hs q hq),⟨⟨(hs pb (Ej h.P.row h.s (by decide))).trans h.P.row.out⟩,Ac h.P.st (fun q hq=>hs q (fun e=>h.far.1 (by rw[hq,e]))),h.P.good⟩,⟨(hs b0 (Ej h.Z h.s (by decide))).trans h.Z.out⟩,by have:=h.s.set j u;rw[hu] at this;exact this,h.bel.trans i,h.far⟩
theorem KZ.cells (h:KZ B R gb pb b0 sb a n c m L nd lt S sv v0 v1 v2 v3 w w1):(w1.cell? ⟨sb,0,none⟩=some v0∧w1.cell? ⟨sb,1,none⟩=some v1∧w1.cell? ⟨sb,2,none⟩=some v2∧w1.cell? ⟨sb,3,none⟩=some v3)∧(∀ j,w1.frozen? ⟨sb,j,none⟩=false)∧(w1.cell? ⟨gb,1,none⟩=some nd∧w1.cell? ⟨gb,2,none⟩=some lt∧∀ j,w1.frozen? ⟨gb,j,none⟩=false)∧(w1.cell? ⟨pb,0,none⟩=some (.slice none 0 0)∧w1.cell? ⟨pb,1,none⟩=some sv∧∀ j,w1.frozen? ⟨pb,j,none⟩=false):=by
 obtain ⟨N,b,d,f,C,e⟩:=h.G;exact ⟨⟨h.s.cell 0,h.s.cell 1,h.s.cell 2,h.s.cell 3⟩,fun j=>h.s.frozen j,⟨C.row.cell 1,C.row.cell 2,fun j=>C.row.frozen j⟩,h.P.row.cell 0,h.P.row.cell 1,fun j=>h.P.row.frozen j⟩
theorem KZ.pushS {g i j:Int}{nm:ByteArray}{b:World}{g7 c7:Nat}(h:KZ B R gb pb b0 sb a n c m L nd lt S sv v0 v1 v2 v3 w w1)(k:Obj)(u:nm.size≤1048576)(l:(w1.alloc k).grownBy b sv.ownBlock)(o:b.ownsRow B 49 4 (.slice (some ⟨g7,0,none⟩) (S.length+1) c7) (S.length+1) (CA S ++ [.int .i64 g,.string nm,.int .i64 i,.int .i64 j])):
  GF B R gb a n c m L nd lt (b.setCell ⟨pb,1,none⟩ (.slice (some ⟨g7,0,none⟩) (S.length+1) c7))∧Wf (b.setCell ⟨pb,1,none⟩ (.slice (some ⟨g7,0,none⟩) (S.length+1) c7)) B pb (S ++ [⟨g,nm,i,j⟩]) (.slice (some ⟨g7,0,none⟩) (S.length+1) c7)∧An (b.setCell ⟨pb,1,none⟩ (.slice (some ⟨g7,0,none⟩) (S.length+1) c7)) b0 #[.slice none 0 0,.slice none 0 0] 27∧Below B w (b.setCell ⟨pb,1,none⟩ (.slice (some ⟨g7,0,none⟩) (S.length+1) c7)):=by
 have v:=h.G.lt.1.1;have x:=(Below.refl B w1).alloc v k;have r:Below B w1 b:=x.grown l (by simp;omega) (fun q hq=>(h.P.st.lt q hq).1);have gk:=Ap l;have y:=h.G.others r 49 (fun q=>sv.ownBlock=some q) (fun q hq=> .inr ⟨_,_,_,_,_,hq,h.P.st⟩) (by decide) (by decide) (by decide) (by decide) (by decide) (by decide) (fun q h1 h2=>gk q h1 h2);have d:An b pb #[.slice none 0 0,sv] 27:=⟨(gk pb h.P.row.lt (Ad h.P.row h.P.st (by decide))).trans h.P.row.out⟩
 have z:An b b0 #[.slice none 0 0,.slice none 0 0] 27:=⟨(gk b0 h.Z.lt (Ad h.Z h.P.st (by decide))).trans h.Z.out⟩
 have f:∀ q,q≠pb→(b.setCell ⟨pb,1,none⟩ (.slice (some ⟨g7,0,none⟩) (S.length+1) c7)).heap[q]? =b.heap[q]? :=fun q hq=>heap_setCell_other b ⟨pb,1,none⟩ q _ hq;have t:Below B b (b.setCell ⟨pb,1,none⟩ (.slice (some ⟨g7,0,none⟩) (S.length+1) c7)):=(Below.refl B b).setCell (p:=⟨pb,1,none⟩) h.far.2.2.1 _;refine ⟨y.others t 27 (fun q=>q=pb) (fun q hq=> .inl ⟨#[.slice none 0 0,sv],by rw[hq];exact d⟩) (by decide) (by decide) (by decide) (by decide) (by decide) (by decide) (fun q _ hq=>f q hq),⟨d.set 1 _, ?_,fun s hs=>?_⟩,⟨(f b0 h.far.2.2.2).trans z.out⟩,(h.bel.trans r).trans t⟩
 ·rw[Q6,List.length_append];exact Ac o (fun q hq=>f q (fun e=>Ad d o (by decide) (by rw[hq,e])))
 ·rcases List.mem_append.1 hs with hs | hs
  ·exact h.P.good s hs
  ·rw[List.mem_singleton.1 hs];exact u
theorem KZ.pushL {d:World}{g7 c7:Nat}(h:KZ B R gb pb b0 sb a n c m L nd lt S sv v0 v1 v2 v3 w w1)(f:Obj)(x:ByteArray × Int)(hx:x.1.size≤1000)(g:(w1.alloc f).grownBy d lt.ownBlock)(l:d.ownsRow B 102 2 (.slice (some ⟨g7,0,none⟩) (L.length+1) c7) (L.length+1) (J1 L ++ [.string x.1,.int .i64 x.2])):
  KZ B R gb pb b0 sb a n c m (L ++ [x]) nd (.slice (some ⟨g7,0,none⟩) (L.length+1) c7) S sv v0 v1 v2 v3 w (d.setCell ⟨gb,2,none⟩ (.slice (some ⟨g7,0,none⟩) (L.length+1) c7)):=by
 have j:=h.G.lt.1.1;have o:=h.G.lt.2.1.1;obtain ⟨N,u,v,y,C,e⟩:=h.G;have z:=(Below.refl B w1).alloc j f;have A:Below B w1 d:=z.grown g (by simp;omega) (fun q hq=>(C.lets.lt q hq).1);have gk:=Ap g;have k:∀ q,q≠gb→(d.setCell ⟨gb,2,none⟩ (.slice (some ⟨g7,0,none⟩) (L.length+1) c7)).heap[q]? =d.heap[q]? :=fun q hq=>heap_setCell_other d ⟨gb,2,none⟩ q _ hq;have i:∀ {b:Nat} {cs:Array Value} {t:TypeId},An w1 b cs t→t≠99→t≠102→An (d.setCell ⟨gb,2,none⟩ (.slice (some ⟨g7,0,none⟩) (L.length+1) c7)) b cs t:=fun r h1 h2=>⟨((k _ (Ej r C.row h1)).trans (gk _ r.lt (Ad r C.lets h2))).trans r.out⟩
 have E:Below B d (d.setCell ⟨gb,2,none⟩ (.slice (some ⟨g7,0,none⟩) (L.length+1) c7)):=(Below.refl B d).setCell (p:=⟨gb,2,none⟩) o _;exact ⟨⟨N,u,v,y,C.pushL f x hx j g l,e⟩,⟨i h.P.row (by decide) (by decide),Ac h.P.st (fun q hq=>(k q (fun e=>Ad C.row h.P.st (by decide) (by rw[hq,e]))).trans (gk q (h.P.st.lt q hq).2 (fun e=>Al h.P.st C.lets (by decide) q hq e))),h.P.good⟩,i h.Z (by decide) (by decide),i h.s (by decide) (by decide),(h.bel.trans A).trans E,h.far⟩
end
def OZ (X:World) (pb b0:Nat) (nd V:Value):World:=((X.setCell ⟨pb,0,none⟩ nd).setCell ⟨b0,0,none⟩ nd).setCell ⟨b0,1,none⟩ V
theorem J6 {X w:World}{B R r d b:Nat}{a:Option Addr}{n c:Nat}{N:List Nd}{L:List (ByteArray × Int)}{nd lt f s u:Value}{i l:List Value}{x:Bool}{S:List St}(C:PW X B R r a n c N L nd lt i l x)(P:Wf X B d S f)(Z:An X b #[s,u] 27)(y:Below B w X)(z:B≤d)(h0:B≤b):An (OZ X d b nd f) b #[nd,f] 27∧BY (OZ X d b nd f) B nd N i l∧(OZ X d b nd f).ownsRow B 49 4 f S.length (CA S)∧Below B w (OZ X d b nd f):=by
 have A:∀ q,q≠d→q≠b→(OZ X d b nd f).heap[q]? =X.heap[q]? :=fun q h1 h2=>by
  unfold OZ;rw[heap_setCell_other _ _ q _ h2,heap_setCell_other _ _ q _ h2,heap_setCell_other _ _ q _ h1]
 have h:∀ {t size k:Nat} {v:Value} {E:List Value},X.ownsRow B t size v k E→27≠t→∀ q,v.ownBlock=some q→(OZ X d b nd f).heap[q]? =X.heap[q]? :=fun m o q hq=>A q (fun e=>Ad P.row m o (by rw[hq,e])) (fun e=>Ad Z m o (by rw[hq,e]));refine ⟨?_,C.nodes.upto (fun q hq=>h C.nodes.own (by decide) q hq) (fun j g q hq=>h (C.nodes.names j (by rw[← C.nodes.len];exact g) g) (by decide) q hq) (fun j g q hq=>h (C.nodes.kids j (by rw[← C.nodes.lenk];exact g) g) (by decide) q hq),Ac P.st (fun q hq=>h P.st (by decide) q hq),((y.setCell (p:=⟨d,0,none⟩) z nd).setCell (p:=⟨b,0,none⟩) h0 nd).setCell (p:=⟨b,1,none⟩) h0 f⟩;unfold OZ;by_cases e:b=d
 ·subst e;have:=((Z.set 0 nd).set 0 nd).set 1 f;exact this
 ·have:=((Z.setFar (p:=⟨d,0,none⟩) e nd).set 0 nd).set 1 f;exact this
theorem No {f:Func}{a:Tmp}(h:f.results= #[.cell a 27]){g:Array Value}{w:World}{b:Nat}{c d:Value}(i:g.getD a undef= .pointer (some ⟨b,0,none⟩))
  (R:An w b #[c,d] 27):(results f g).run Tryz.prog w= .ok (.agg #[c,d]) w:=by
 rw[Array.getD_eq_getD_getElem?] at i;have j:w.cell? ⟨b,0,none⟩=some c:=R.cell 0;have g1:w.cell? ⟨b,1,none⟩=some d:=R.cell 1;simp[results,h,i,go_sem,j,g1]
end Go.Proofs.YtdldimphcpojoaaGreatDoor
namespace Go.Proofs.YtdldimphcpojoaaGreatDoor
open Go.RowKit
set_option linter.unusedVariables false
variable {aY : Addr} {pb g c : Nat} {T : List Af} {tl : Nat}
theorem Tj (j: 17≤pb):∀ (n:Nat) (nt:NT) (f:List Af) (x:PR),D nt f x→nt.good→nt.slow=false→f.length * 17+nt.rank≤n→CS aY pb g c T tl nt f x:=by
 intro n
 induction n using Nat.strongRecOn with
 | ind n q=>
  intro nt f x d m hs hm;have i:∀ b r y,D b r y→b.good→b.slow=false→r.length * 17+b.rank < f.length * 17+nt.rank→CS aY pb g c T tl b r y:=fun b r y a o l p=>q _ (by omega) b r y a o l NLN;have t:∀ b:NT,b.slow=false→b.rank≤15:=fun b h=>by
   cases b with
   | more k e=>cases h
   | opd k=>simp only[NT.rank];split <;> (try split) <;> (try split) <;> (try split) <;> omega
   | chain k=>simp only[NT.rank];split <;> (try split) <;> (try split) <;> omega
   | _=>simp[NT.rank]
  cases nt with
  | more k e=>cases hs
  | beh s=>exact UO j s f x d (fun r x a hl=>i _ _ _ a trivial rfl (by simp only[NT.rank];omega))
  | encl=>exact Tc j f x d (fun x a=>i _ _ _ a trivial rfl (by simp only[NT.rank];omega))
  | prim=>exact Ti j f x d (fun r x a hl=>i _ _ _ a trivial rfl (by simp only[NT.rank];omega))
  | una=>exact UR j f x d (fun x a=>i _ _ _ a trivial rfl (by simp only[NT.rank];omega)) (fun r x a hl=>i _ _ _ a trivial rfl (by simp only[NT.rank];omega))
  | neg=>exact UQ j f x d (fun x a=>i _ _ _ a trivial rfl (by simp only[NT.rank];omega)) (fun r x a hl=>i _ _ _ a trivial rfl (by simp only[NT.rank];omega))
  | cmp=>exact UT j f x d (fun r x a hl=>i _ _ _ a (.inr (.inr (.inl rfl))) rfl (by simp[NT.rank];omega))
  | opd k=>exact UP k f x d (fun b x a o p=>by
    cases l:b.slow
    ·exact i _ _ _ a o l (by omega)
    ·cases b with
     | more u e=>exfalso;have:(NT.opd k).rank≤15:=t _ rfl;simp only[NT.rank] at p this;omega
     | _=>cases l)
  | chain k=>
   have v:(NT.opd k).rank+1=(NT.chain k).rank:=by simp[NT.good] at m;rcases m with rfl | rfl | rfl | rfl <;> rfl
   exact Qr j k f x d (fun r x a hl=>i _ _ _ a (by simp[NT.good] at m ⊢;omega) rfl (by omega))
  | expr=>exact Tf j f x d (fun x a=>i _ _ _ a (.inl rfl) rfl (by simp[NT.rank])) (fun s r x a hl=>i _ _ _ a trivial rfl (by simp only[NT.rank];omega))
theorem Ig (b: 17≤pb)(s:List UInt8)(a:List Af)(x:PR)(d:D (.beh s) a x)(w:World)(k:Nat)(h:Pp w pb g c T tl a k)(f:Gy w aY):
  Calls Tryz.prog 108 #[.pointer (some ⟨pb,0,none⟩),.string (Ax s)] w (EQ aY pb g c T tl x w):=Tj b _ (.beh s) a x d trivial rfl NLN w k h f
end Go.Proofs.YtdldimphcpojoaaGreatDoor
namespace Go.Proofs.YtdldimphcpojoaaGreatDoor
set_option maxRecDepth 100000
set_option maxHeartbeats 1600000
open Go.RowKit
set_option linter.unusedVariables false
variable {aY : Addr} {pb g c : Nat} {T : List Af} {tl : Nat}
def Xy:Option Ex→Option Pt→Prop
 | none,none=>True
 | some e,some p=>Er e p
 | _,_=>False
def JV (lo:Nat) (w:World):Option Ex→Prop
 | none=>True
 | some e=>e.own lo w
theorem KB {a:Nat}{w w':World}(T:Ai a (a+1) w w')(b:Option Ex)(h:JV (a+1) w b):JV (a+1) w' b:=by
 cases b with
 | none=>trivial
 | some e=>exact e.own_touch T h
theorem Gq (a:Option Ex):FT (DE a):=by
 cases a with
 | none=>exact .inl rfl
 | some e=>exact e.val_if
def Zi (aY:Addr) (pb g c:Nat) (T:List Af) (tl:Nat):DR→World→Ending→World→Prop
 | .ok p q,w,r,w'=>(∃ o k,r= .returned (.tuple #[DE o,.nilIface])∧Xy o p∧JV (pb+1) w' o∧Pp w' pb g c T tl q k)∧Ai pb (pb+1) w w'
 | .bad q,w,r,w'=>(∃ v b,r= .returned (.tuple #[v,BS b])∧FT v∧Uu aY tl q b w')∧Ai pb (pb+1) w w'
theorem Ih (z: 17≤pb)(s:List UInt8)(I:List Af)(x:DR)(d:DD s I x)(w:World)(k:Nat)(h:Pp w pb g c T tl I k)(l:Gy w aY):
  Calls Tryz.prog 110 #[.pointer (some ⟨pb,0,none⟩),.string (Ax s)] w (Zi aY pb g c T tl x w):=by
 have J:=Ab l;cases d with
 | no hs=>
  have i:=Ab (DB h l s hs);clear h hs l;go_enter Tryz.func110,Tryz.ntmps110
  go_wp2_with fail
  refine (Aa i).mono ?_;rintro e B ⟨b,rfl,M,N⟩;dsimp only[BS];go_wp2_with fail
  go_ret2
  exact ⟨⟨.nilIface,b,rfl,.inl rfl,M⟩,Ai.of_below N NLN⟩
 | @deny t u r hs hu=>
  have i:=Ab (CN h s hs);have m:=Ab (show AL EA (u ::r)=true from hu);clear h hs l hu;go_enter Tryz.func110,Tryz.ntmps110
  go_wp2_with fail
  refine (Aa i).mono ?_;rintro e B ⟨rfl,a,j⟩;have n:=Ab (AR a EA);have o:=Ab a;clear a;dsimp only;go_wp2_with fail
  refine (Aa n).mono ?_;rintro e A ⟨rfl,f⟩;rw[Aa m];have p:=Ab (BD ((Aa o).below f));dsimp only;go_wp2_with fail
  refine (Aa p).mono ?_;rintro e K ⟨rfl,C,y⟩;dsimp only[Cw];go_wp2_with fail
  go_ret2
  exact ⟨⟨none,_,rfl,trivial,trivial,C⟩,(j.allP f).trans y⟩
 | @grant t r q e hs hu d=>
  have i:=Ab (CN h s hs);have m:=Ab hu;have E:=Ab d;clear h hs l hu d;go_enter Tryz.func110,Tryz.ntmps110
  go_wp2_with fail
  refine (Aa i).mono ?_;rintro e B ⟨rfl,a,j⟩;have n:=Ab (AR a EA);have o:=Ab a;clear a;dsimp only;go_wp2_with fail
  refine (Aa n).mono ?_;rintro e A ⟨rfl,f⟩;rw[Aa m];have p:=Ab (Ig (aY:=aY) z Br _ _ (Aa E) A _ ((Aa o).below f) (((Aa J).touch j z).below f));dsimp only;go_wp2_with fail
  refine (Aa p).mono ?_;rintro e K ⟨⟨e,O,rfl,he,L,C⟩,y⟩;obtain ⟨R,S,F⟩:=e.form;have H:=Ab (And.intro he (And.intro L F));rw[F];clear he L F;dsimp only;go_wp2_with fail
  go_ret2
  exact ⟨⟨some e,O,by rw[DE,(Aa H).2.2];rfl,(Aa H).1,(Aa H).2.1,C⟩,(j.allP f).trans y⟩
 | @grant_bad t r q hs hu d=>
  have i:=Ab (CN h s hs);have m:=Ab hu;have E:=Ab d;clear h hs l hu d;go_enter Tryz.func110,Tryz.ntmps110
  go_wp2_with fail
  refine (Aa i).mono ?_;rintro e B ⟨rfl,a,j⟩;have n:=Ab (AR a EA);have o:=Ab a;clear a;dsimp only;go_wp2_with fail
  refine (Aa n).mono ?_;rintro e A ⟨rfl,f⟩;rw[Aa m];have p:=Ab (Ig (aY:=aY) z Br _ _ (Aa E) A _ ((Aa o).below f) (((Aa J).touch j z).below f));dsimp only;go_wp2_with fail
  refine (Aa p).mono ?_;rintro e K ⟨⟨v,b,rfl,P,Q⟩,y⟩;rcases P with rfl | ⟨U,V,rfl⟩
  all_goals
   dsimp only[BS];go_wp2_with fail
   go_ret2
   exact ⟨⟨_,b,rfl,by first | exact .inl rfl | exact .inr ⟨_,_,rfl⟩,Q⟩,(j.allP f).trans y⟩
def LO (aY:Addr) (pb g c:Nat) (T:List Af) (tl:Nat):SR→World→Ending→World→Prop
 | .ok s q,w,r,w'=>(∃ o1 o2 k,r= .returned (.tuple #[.agg #[.int .i64 (s.at_:Int),.int .i64 s.kind,.string s.name,DE o1,DE o2],.nilIface])∧Xy o1 s.cond∧Xy o2 s.grant∧JV (pb+1) w' o1∧JV (pb+1) w' o2∧Pp w' pb g c T tl q k)∧Ai pb (pb+1) w w'
 | .bad q,w,r,w'=>(∃ i1 i2 n v3 v4 b,r= .returned (.tuple #[.agg #[.int .i64 i1,.int .i64 i2,.string n,v3,v4],BS b])∧FT v3∧FT v4∧Uu aY tl q b w')∧Ai pb (pb+1) w w'
theorem LO.from {aY:Addr}{a g c:Nat}{T:List Af}{b:Nat}{x:SR}{d w w':World}{r:Ending}(h:LO aY a g c T b x w r w')(f:Ai a (a+1) d w):LO aY a g c T b x d r w':=by
 cases x with
 | ok p q=>exact ⟨h.1,f.trans h.2⟩
 | bad q=>exact ⟨h.1,f.trans h.2⟩
theorem Oi (a b c d:Value)(w:World):(Instr.field 41 (.agg #[a,b,c,d]) 0).run Tryz.prog w= .ok a w:=by
 simp[Instr.field,run_underlying Tryz.underlying41,Sem.run_bind,part,asAgg,isAgg,go_sem]
def Ii (W:World) (b:Nat) (v0 v1 v2 v3 v4:Value):World:=(BN W b v0 v1 v2 v3).setCell ⟨b,4,none⟩ v4
theorem FD (a:World)(b k:Nat)(c d f g i:Value)(h:k≠b):(Ii a b c d f g i).heap[k]? =a.heap[k]? :=by
 unfold Ii;rw[heap_setCell_other _ _ _ _ h,GN _ _ _ _ _ _ _ h]
theorem Bv {i:World}{b:Nat}{j k l m n:Value}{t:TypeId}(h:An i b #[j,k,l,m,n] t)(a c d f g:Value):An (Ii i b a c d f g) b #[a,c,d,f,g] t:=by
 have:=((((h.set 0 a).set 1 c).set 2 d).set 3 f).set 4 g;exact this
theorem Ai.put5 {lo hi:Nat}{w w':World}{b:Nat}(T:Ai lo hi w w')(a:w.heap.size≤b)(c d f g h:Value):Ai lo hi w (Ii w' b c d f g h):=(T.put4P a c d f g).setNewP ⟨b,4,none⟩ h a
theorem Di {k:Func}{a u:Tmp}(h:k.results= #[.cell a 122,.tmp u]){c:Array Value}{w:World}{b:Nat}{cs:Array Value}{d f g i j e:Value}(l:c.getD a undef= .pointer (some ⟨b,0,none⟩))(hu:c.getD u undef=e)
  (R:An w b #[d,f,g,i,j] 122):
  (results k c).run Tryz.prog w= .ok (.tuple #[.agg #[d,f,g,i,j],e]) w:=by
 rw[Array.getD_eq_getD_getElem?] at l hu;have m:w.cell? ⟨b,0,none⟩=some d:=R.cell 0;have g1:w.cell? ⟨b,1,none⟩=some f:=R.cell 1;have g2:w.cell? ⟨b,2,none⟩=some g:=R.cell 2;have g3:w.cell? ⟨b,3,none⟩=some i:=R.cell 3;have g4:w.cell? ⟨b,4,none⟩=some j:=R.cell 4;simp[results,h,l,hu,go_sem,m,g1,g2,g3,g4]
theorem EF {w:World}{b:Nat}{a c d f g:Value}{t:TypeId}(R:An w b #[a,c,d,f,g] t):w.cell? ⟨b,0,none⟩=some a∧w.cell? ⟨b,1,none⟩=some c∧w.cell? ⟨b,2,none⟩=some d∧w.cell? ⟨b,3,none⟩=some f∧w.cell? ⟨b,4,none⟩=some g∧∀ j,w.frozen? ⟨b,j,none⟩=false:=⟨R.cell 0,R.cell 1,R.cell 2,R.cell 3,R.cell 4,fun j=>R.frozen j⟩
theorem Pp.put5 {w:World}{k:Nat}{d:List Af}(h:Pp w pb g c T tl d k){b:Nat}{cs:Array Value}(R:An w b cs 122)(f i j l m:Value):Pp (Ii w b f i j l m) pb g c T tl d k:=by
 have n:pb≠b:=fun e=>by
  have o:=R.out;have a:=h.row.out;rw[e,o] at a;injection a with a;injection a with _ a;exact absurd a (by decide)
 exact ⟨⟨(FD w b pb _ _ _ _ _ n).trans h.row.out⟩,Ac h.toks (fun q hq=>FD w b q _ _ _ _ _ (fun e=>Ad R h.toks (by decide) (by rw[hq,e]))),h.drop,h.len,h.small⟩
theorem Ex.own_of {lo:Nat}{w w':World}(hk:∀ (v:Value) (n:Nat) (b:List Value),w.ownsRow lo 9 1 v n b→∀ q,v.ownBlock=some q→w'.heap[q]? =w.heap[q]?):∀ (e:Ex),e.own lo w→e.own lo w'
 | .int ..,h=>h
 | .text ..,h=>h
 | .bool ..,h=>h
 | .set _ a n c ss,h=>Ac h (fun q hq=>hk _ _ _ h q hq)
 | .name ..,h=>h
 | .attr ..,h=>h
 | .lett ..,h=>h
 | .un _ _ k,h=>k.own_of hk h
 | .bin _ _ l r,h=>⟨l.own_of hk h.1,r.own_of hk h.2⟩
 | .ite _ c t e,h=>⟨c.own_of hk h.1,t.own_of hk h.2.1,e.own_of hk h.2.2⟩
theorem Ex.own_put5 {lo:Nat}{w:World}{b:Nat}{cs:Array Value}(R:An w b cs 122)(a c d f g:Value)(e:Ex)(h:e.own lo w):e.own lo (Ii w b a c d f g):=
 e.own_of (fun v n j i q hq=>FD w b q _ _ _ _ _ (fun e=>Ad R i (by decide) (by rw[hq,e]))) h
theorem Et {lo:Nat}{w:World}{b:Nat}{cs:Array Value}(R:An w b cs 122)(c d f g i:Value)(a:Option Ex)(h:JV lo w a):JV lo (Ii w b c d f g i) a:=by
 cases a with
 | none=>trivial
 | some e=>exact e.own_put5 R c d f g i h
theorem Uu.put5 {w:World}{c:Nat}{q:List Af}(h:Uu aY tl q c w){b:Nat}{cs:Array Value}(R:An w b cs 122)(f g i j k:Value):Uu aY tl q c (Ii w b f g i j k):=by
 have d:An w c _ 92:=h;have l:c≠b:=fun e=>by
  have m:=R.out;have a:=d.out;rw[e,m] at a;injection a with a;injection a with _ a;exact absurd a (by decide)
 exact ⟨(FD w b c _ _ _ _ _ l).trans d.out⟩
end Go.Proofs.YtdldimphcpojoaaGreatDoor
