/-
  CLN, JT, Comp, QC, QD, Laws, Rd, MKL. Own work.
-/
import Derived.Test.YtffkofkjpckmpaaGreatDoorMXAB
import Derived.Test.YtffkofkjpckmpaaGreatDoorMXAD
import Derived.Test.YtffkofkjpckmpaaGreatDoorMXAF
import Derived.Lib.SmallJoins
import Derived.Test.YtffkofkjpckmpaaGreatDoorMXAJ
import Derived.Test.YtffkofkjpckmpaaGreatDoorMXAC
import Derived.Lib.SlicesCompact
import Derived.Test.YtffkofkjpckmpaaGreatDoorMXAA
import Derived.Lib.Builder
import Derived.Lib.AppendStr
import Derived.Lib.OthersKept
import Derived.Lib.UnsafeStr
import Derived.Test.YtffkofkjpckmpaaGreatDoorMXAM
import Derived.Test.YtffkofkjpckmpaaGreatDoorRows
import Derived.WalkKit
import Derived.WalkSpells
import Derived.WalkLawsBesides
import Derived.RegionTactic
import Derived.ChangeAlike
import Derived.Deep.QuietTactic
import Derived.BigQuiet
import Derived.ProofKit
import Derived.OpenShut
import Derived.Test.YtffkofkjpckmpaaGreatDoorShelf
import Derived.Sort.OwnSorted
namespace Go.Proofs.YtffkofkjpckmpaaGreatDoor
set_option maxRecDepth 100000
set_option maxHeartbeats 2000000
open Go.RowKit
set_option linter.unusedVariables false
theorem TM (a:Option Addr)(n c:Nat)(d:List ByteArray)(w:World)(h:BL w a n c d)(hl:d.length≤1048576):
  Calls Tryz.prog 152 #[.slice a n c] w fun e w'=>(∃ x l,e= .returned (.slice x d.length l)∧w'.ownsRow w.heap.size 9 1 (.slice x d.length l) d.length (d.map Value.string))∧Below w.heap.size w w':=by
 obtain ⟨v,y,z,A,B⟩:=info_parts Mf;have m:=h.len;cases a with
 |none=>
  have h0:n=0:=by
   rcases Nat.eq_zero_or_pos n with q | q
   ·exact q
   ·obtain ⟨b,C,e,_⟩:=h.cells 0 q;cases e
  subst h0;obtain rfl:d= []:=z7 m.symm;clear h hl m;have E:∀ (w:World) (a:Option Addr) (n c f g:Nat),(binOp .eql 47 (.slice a n c) (.slice none f g)).run Tryz.prog w= .ok (.bool a.isNone) w:=fun w a n c f g=>Lib.run_eql_slice_nil w _ _ a n c f g Tryz.underlying47;go_enter Tryz.func152,Tryz.ntmps152
  go_wp2_with fail
  go_ret
  exact ⟨⟨none,0,rfl,World.ownsRow_nil _ _ _ _⟩,BRN⟩
 |some F=>
  have E:∀ (w:World) (a:Option Addr) (n c f g:Nat),(binOp .eql 47 (.slice a n c) (.slice none f g)).run Tryz.prog w= .ok (.bool a.isNone) w:=fun w a n c f g=>Lib.run_eql_slice_nil w _ _ a n c f g Tryz.underlying47;have M:∀ w,Sem.run Tryz.prog (underlying 47) w= .ok (TypeDesc.slice 9) w:=run_underlying Tryz.underlying47;have H:=Ab h;have i:=Ab m;have N:n≤1048576:=by omega
  clear h m;go_enter Tryz.func152,Tryz.ntmps152
  go_wp2_with (at_builtin;refine wpList_append_own _ rfl _ _ 47 rfl w.heap.size 9 v (.string ByteArray.empty) 1 16 Tryz.underlying47 y z A B rfl (by decide) _ _ _ rfl (World.ownsRow_made w #[] 0 NLN (zN _) rfl) F n c (d.map Value.string) rfl ?qc1 ?qc2 ?qc3 ?qc4 ?qc5 ?qc6 ?_)
  case qc1=>rw[zv,Aa i];omega
  case qc2=>
   intro j u p;have o:j < n:=by
    have:=(zX.1 p).1;rw[zv] at this;rw[Aa i];exact this
   obtain ⟨b,C,e,O,hc⟩:=(Aa H).cells j o;cases e;rw[Addr.add_lit];refine Lib.cell?_alloc_some _ ?_;rw[hc,← p,zd,zM (by rw[← Aa i];exact o),Cw _ _ (by rw[← Aa i];exact o)];rfl
  case qc3=>intro u hu;obtain ⟨x,_,rfl⟩:=zb.1 hu;rfl
  case qc4=>unfold maxLen;omega
  case qc5=>omega
  case qc6=>simp
  intro I J r s K;have L:=((Below.refl _ w).alloc NLN (.cells #[] 9)).grown s (by simp) (by intro k hk;simp[Value.ownBlock] at hk;omega);have t:J.ownsRow w.heap.size 9 1 I n (d.map Value.string):=by simpa using r
  obtain ⟨x,l,rfl,_⟩:=Af t;clear r K s;go_wp2_with fail
  go_ret
  have e:=Aa i;subst e;exact ⟨⟨x,l,rfl,t⟩,L⟩
theorem Cx {w:World}{a base':Nat}{e:TypeId}{size:Nat}{v:Value}{n:Nat}{b:List Value}(h:w.ownsRow a e size v n b)(c:base'≤a):w.ownsRow base' e size v n b:=by
 refine ⟨h.1, ?_⟩;rcases h.2 with h2 | ⟨g,cap,d,f,h3,h4⟩
 ·exact .inl h2
 ·exact .inr ⟨g,cap,d,f,zL c h3,h4⟩
def Ex.kids:Ex→List Ex
 | .un _ _ k=> [k]
 | .bin _ _ l r=> [l,r]
 | .ite _ c t e=> [c,t,e]
 |_=> []
end Go.Proofs.YtffkofkjpckmpaaGreatDoor
namespace Go.Proofs.YtffkofkjpckmpaaGreatDoor
open Go.RowKit Go.Lib
theorem Aab {x y:List UInt8}(h:AB x=AB y):x=y:=by rw[← Dg x,h,Dg]
theorem AbK (x y:List UInt8):sl (AB x) (AB y)=true↔x < y:=by rw[Mg];simp[AB]
theorem PM (x y:List UInt8):x≤y↔sl (AB y) (AB x)=false:=by
 rw[Z2,Ne,AbK];exact List.not_lt.symm
theorem Wo {x y a:ByteArray}(h:sl y x=false)(k:sl a y=false):sl a x=false:=by
 rw[Z2];intro hc;rcases Jq y a with h1 | h1 | h1
 ·rw[GP h1 hc] at h;cases h
 ·subst h1;rw[hc] at h;cases h
 ·rw[h1] at k;cases k
theorem Wp (d:List (List UInt8)):(d.mergeSort fun x y=>decide (x≤y)).Pairwise fun x y=>sl (AB y) (AB x)=false:=by
 have:=List.pairwise_mergeSort (le:=fun x y:List UInt8=>decide (x≤y)) (fun a b c h k=>by
  rw[zF,PM] at h k ⊢;exact Wo h k) (fun a b=>by
  rw[Bool.or_eq_true,zF,zF,PM,PM];cases h:sl (AB b) (AB a) with
  |false=>exact .inl rfl
  |true=>exact .inr (Mh h)) d
 exact this.imp fun {a b} h=>by rwa[zF,PM] at h
theorem Mi (d:Array (List UInt8))(f:∀ i j,i≤j→j < d.size→sl (AB d[j]!) (AB d[i]!)=false):
  ∀ m,m≤d.size→Fz ((compactUpTo d m).map AB)=true∧∀ x,x∈compactUpTo d m↔∃ j,j < m∧d[j]! =x
 | 0,_=>⟨rfl,fun x=>⟨fun h=>by simp[compactUpTo] at h,fun ⟨j,c,_⟩=>by omega⟩⟩
 |m+1,hm=>by
  obtain ⟨h1,h2⟩:=Mi d f m (by omega);rw[compactUpTo_succ];cases hk:keeps d m with
  |true=>
   rw[if_pos rfl];refine ⟨?_,fun x=>?_⟩
   ·rw[Fz,zF] at h1 ⊢;rw[zl,List.pairwise_append];refine ⟨h1,by simp,fun a l b k=>?_⟩;simp only[List.map_cons,Z1,zJ] at k;subst k;obtain ⟨x,hx,rfl⟩:=zb.1 l;obtain ⟨j,c,rfl⟩:=(h2 x).1 hx;simp only[keeps,zF] at hk;have n:d[m]! ≠d[m - 1]! :=by
     rcases hk with hk | hk
     ·omega
     ·exact hk
    rcases Jq (AB d[j]!) (AB d[m]!) with h | h | h
    ·exact h
    ·exfalso;have a1:=f j (m - 1) (by omega) (by omega);rw[h] at a1;have a2:=f (m - 1) m (by omega) (by omega);exact n (Aab (TN _ _ a2 a1))
    ·have:=f j m (by omega) (by omega);rw[h] at this;cases this
   ·rw[zH,h2,zJ];constructor
    ·rintro (⟨j,c,e⟩ | e)
     ·exact ⟨j,by omega,e⟩
     ·exact ⟨m,by omega,e.symm⟩
    ·rintro ⟨j,c,e⟩;by_cases g:j=m
     ·subst g;exact .inr e.symm
     ·exact .inl ⟨j,by omega,e⟩
  |false=>
   rw[if_neg (by simp),zp];refine ⟨h1,fun x=>?_⟩;rw[h2];simp only[keeps,yH,not_or,Classical.not_not] at hk;constructor
   ·rintro ⟨j,c,e⟩;exact ⟨j,by omega,e⟩
   ·rintro ⟨j,c,e⟩;by_cases g:j=m
    ·subst g;exact ⟨j - 1,by omega,by rw[← hk.2];exact e⟩
    ·exact ⟨j,by omega,e⟩
def Mj (ss:List ByteArray):List (List UInt8):=Lib.compact ((ss.map Aj).mergeSort fun x y=>decide (x≤y))
theorem EH (c:List ByteArray):Cl c ((Mj c).map AB):=by
 unfold Mj Lib.compact;generalize d:((c.map Aj).mergeSort fun x y=>decide (x≤y))=b;have f:=Wp (c.map Aj);rw[d] at f;obtain ⟨h1,h2⟩:=Mi b.toArray (fun i j k a=>by
  have h:j < b.length:=by simpa using a
  have g:i < b.length:=by omega
  rw[getElem!_pos _ j a,getElem!_pos _ i (by simpa using g)];simp only[List.getElem_toArray];by_cases e:i=j
  ·subst e;exact DG _
  ·exact List.pairwise_iff_getElem.1 f i j g h (by omega)) b.length (by simp)
 refine ⟨h1,fun x=>?_⟩;rw[zb];have hm:∀ y,y∈b↔y∈c.map Aj:=fun y=>by rw[← d,List.mem_mergeSort]
 constructor
 ·rintro ⟨y,hy,rfl⟩;obtain ⟨j,a,e⟩:=(h2 y).1 hy;rw[getElem!_pos _ j (by simpa using a)] at e;simp only[List.getElem_toArray] at e;have:y∈b:=by rw[← e];exact zP a
  obtain ⟨s,hs,rfl⟩:=zb.1 ((hm y).1 this);rw[Bn];exact hs
 ·intro hx;have:Aj x∈b:=(hm _).2 (zb.2 ⟨x,hx,rfl⟩);obtain ⟨j,a,e⟩:=yE this;refine ⟨Aj x,(h2 _).2 ⟨j,a, ?_⟩,Bn x⟩;rw[getElem!_pos _ j (by simpa using a)];simpa using e
theorem Aac (a:List ByteArray):((a.map Aj).map fun l=>Value.string ⟨l.toArray⟩)=a.map Value.string:=by
 rw[List.map_map];apply List.map_congr_left;intro s _;cases s;simp[Aj]
theorem Aad (ts:List (List UInt8)):(ts.map AB).map Value.string=ts.map fun l=>Value.string ⟨l.toArray⟩:=by
 rw[List.map_map];rfl
end Go.Proofs.YtffkofkjpckmpaaGreatDoor
namespace Go.Proofs.YtffkofkjpckmpaaGreatDoor
set_option maxRecDepth 100000
set_option maxHeartbeats 2000000
open Go.RowKit
set_option linter.unusedVariables false
theorem V9:(Tryz.prog.info? 61).map (·.size)=some 2:=by kernel_rfl
theorem Aa0:liesAt Tryz.prog Tryz.prog.depth 63 (2 / Tryz.prog.cellsOf 63) 0 61 1=true:=by kernel_rfl
theorem Xt: Tryz.prog.cellsOf 5 =1:=by kernel_rfl
theorem Zy:(Tryz.prog.info? 5).map (fun i=>(i.zero,i.size,i.bytes))=some (some (.int .u8 0),1,1):=by kernel_rfl
structure Kp (B b:Nat) (w w':World):Prop where
 low:Below B w w'
 oth:Lib.OthersKept 5 (some b) w w'
theorem Kp.refl (B b:Nat)(w:World):Kp B b w w:=⟨BRN,Lib.OthersKept.refl _ _ _⟩
theorem Kp.trans {B b:Nat}{w a c:World}(h:Kp B b w a)(k:Kp B b a c):Kp B b w c:=⟨h.low.trans k.low,h.oth.trans k.oth⟩
theorem Kp.size {B b:Nat}{w w':World}(h:Kp B b w w'):w.heap.size≤w'.heap.size:=h.low.size
theorem Kp.of_all {B b:Nat}{w w':World}(h:Below w.heap.size w w')(a:B≤w.heap.size):Kp B b w w':=
 ⟨h.mono a,fun k c hk _ _=>(h.block k (yD.1 hk).1).trans hk⟩
theorem Kp.row {B b:Nat}{w w':World}(h:Kp B b w w'){g:Nat}{cs:Array Value}{t:TypeId}(R:Am w g cs t)(a:g≠b)(ht:t≠5):Am w' g cs t:=
 ⟨h.oth g _ R.out (fun e=>a (Option.some.inj e)) (fun c d e=>ht (by injection e))⟩
def Pr (B b:Nat) (acc:ByteArray) (w:World):Prop:=Lib.IsBuilder 63 5 B b (Lib.strCells acc) w
theorem Pr.at {B b:Nat}{acc:ByteArray}{w:World}(h:Pr B b acc w):∃ p,Lib.BuilderAt 63 5 B b p (Lib.strCells acc) w:=by
 rcases h with h | h
 ·exact ⟨_,h⟩
 ·exact ⟨_,h⟩
theorem Pr.le {B b:Nat}{acc:ByteArray}{w:World}(h:Pr B b acc w):B≤b∧b < w.heap.size:=by
 obtain ⟨p,h⟩:=h.at;exact ⟨h.1,h.lt⟩
theorem LC {B b:Nat}{p:Value}{a:List Value}{w w':World}(h:Lib.BuilderAt 63 5 B b p a w)(c:Below w.heap.size w w'):Lib.BuilderAt 63 5 B b p a w':=by
 have hl:=h.lt;obtain ⟨f,v,h1,h2,h3⟩:=h;refine ⟨f,v,(c.block b hl).trans h1,⟨h2.1, ?_⟩,h3⟩;rcases h2.2 with k | ⟨g,cap,i,j,l,d,m⟩
 ·exact .inl k
 ·exact .inr ⟨g,cap,i,j,l,(c.block g (yD.1 d).1).trans d,m⟩
theorem Pr.below {B b:Nat}{acc:ByteArray}{w w':World}(h:Pr B b acc w)(a:Below w.heap.size w w'):Pr B b acc w':=by
 rcases h with h | h
 ·exact .inl (LC h a)
 ·exact .inr (LC h a)
theorem QE (a b:ByteArray):Lib.strCells (a ++b)=Lib.strCells a ++Lib.strCells b:=by
 simp[Lib.strCells,ByteArray.data_append]
theorem Ng (b:Nat)(w:World)(h0:w.cell? ⟨b,0,none⟩=some (.pointer (some ⟨b,0,none⟩))):
  Calls Tryz.prog 133 #[.pointer (some ⟨b,0,none⟩)] w fun e w'=>e= .returned (.tuple #[])∧w'=w:=by
 obtain ⟨j,a,_⟩:=Option.map_eq_some_iff.1 V9;go_enter Tryz.func133,Tryz.ntmps133
 go_wp2
 rw[Lib.run_neq_ptr_same w _ Tryz.underlying59 a];go_wp2
 go_end0
 exact ⟨rfl,rfl⟩
theorem LX (b:Nat)(w:World)(h0:w.cell? ⟨b,0,none⟩=some (.pointer none))(a:w.shape? b=some (63,2))(f:w.frozen? ⟨b,0,none⟩=false):
  Calls Tryz.prog 133 #[.pointer (some ⟨b,0,none⟩)] w fun e w'=>e= .returned (.tuple #[])∧w'=w.setCell ⟨b,0,none⟩ (.pointer (some ⟨b,0,none⟩)):=by
 obtain ⟨j,c,d⟩:=Option.map_eq_some_iff.1 V9;go_enter Tryz.func133,Tryz.ntmps133
 go_wp2
 rw[Lib.run_to_unsafe w ⟨b,0,none⟩ Tryz.underlying59 Tryz.underlying156 c (by rw[d];decide) a (Nat.zero_lt_succ 1)];simp only[Result.andThen];rw[Oper.upon_value];go_wp2
 rw[run_callFunc_extern Tryz.func153 (by kernel_rfl) (by kernel_rfl) (by kernel_rfl) (e:=Extern.AbiNoEscape.same) (by kernel_rfl)];rw[Lib.run_noEscape];simp only[Result.andThen];rw[Oper.upon_value];go_wp2
 rw[Lib.run_from_unsafe w ⟨b,0,none⟩ Tryz.underlying156 Tryz.underlying59 c a Aa0];simp only[Result.andThen];rw[Oper.upon_value];go_wp2
 go_end0
 exact ⟨rfl,rfl⟩
theorem Ol (B b:Nat)(a:List Value)(w:World)(h:Lib.IsBuilder 63 5 B b a w):
  Calls Tryz.prog 133 #[.pointer (some ⟨b,0,none⟩)] w fun e w'=>e= .returned (.tuple #[])∧Lib.BuilderAt 63 5 B b (.pointer (some ⟨b,0,none⟩)) a w'∧Kp B b w w':=by
 rcases h with h | h
 ·refine (LX b w h.cell0 h.shape h.frozen0).mono ?_;rintro e w' ⟨rfl,rfl⟩;exact ⟨rfl,h.used _,(Below.refl B w).setCell (p:=⟨b,0,none⟩) h.1 _,(Lib.OthersKept.refl _ _ w).setCell ⟨b,0,none⟩ rfl _⟩
 ·refine (Ng b w h.cell0).mono ?_;rintro e w' ⟨rfl,rfl⟩;exact ⟨rfl,h,Kp.refl _ _ _⟩
theorem LY (B b:Nat)(acc s:ByteArray)(w:World)(h:Pr B b acc w)(J:acc.size+s.size≤140737488355328):
  Calls Tryz.prog 94 #[.pointer (some ⟨b,0,none⟩),.string s] w fun e w'=>e= .returned (.tuple #[.int .i64 s.size,.nilIface])∧Pr B b (acc ++s) w'∧Kp B b w w':=by
 obtain ⟨y,hi,z,A,C⟩:=info_parts Zy;have K:B≤w.heap.size:=by have:=h.le;omega
 go_enter Tryz.func94,Tryz.ntmps94
 go_wp2_with (go_at_call 133;refine (Ol B b _ _ h).mono ?_)
 rintro e i ⟨rfl,h1,o⟩;obtain ⟨q,v,a,c,E⟩:=h1;have j:=o.low;have L:i.cell? ⟨b,0,none⟩=some (.pointer (some ⟨b,0,none⟩)):=by rw[Lib.cell_of_heap a];rfl
 have c1:i.cell? ⟨b,1,none⟩=some v:=by rw[Lib.cell_of_heap a];rfl
 rw[Lib.strCells_length] at c;go_wp2_with (at_builtin;refine Lib.wpList_append_own_string _ rfl _ _ 22 9 rfl B 5 y Tryz.underlying22 Tryz.underlying9 hi z A C _ _ _ rfl c s rfl ?c3 ?c4 ?c5 ?_)
 case c3=>unfold maxLen;omega
 case c4=>omega
 case c5=>have:=j.size;omega
 intro F d r l _;have H:b < i.heap.size:=(yD.1 a).1;have f:d.heap[b]? =some (.cells #[.pointer (some ⟨b,0,none⟩),v] 63 (0,0)):=by
  rw[l.block b H (fun e=>E e.symm)];exact a
 have M:d.cell? ⟨b,0,none⟩=some (.pointer (some ⟨b,0,none⟩)):=by rw[Lib.cell_of_heap f];rfl
 have d1:d.cell? ⟨b,1,none⟩=some v:=by rw[Lib.cell_of_heap f];rfl
 have f1:d.frozen? ⟨b,1,none⟩=false:=Lib.frozen_of_heap f 1;obtain ⟨t,u,cap,rfl⟩:∃ t u cap,F= .slice t u cap:=by
  rcases r.2 with ⟨m,_⟩ | ⟨g,cap,x,m,_⟩
  ·exact ⟨_,_,_,m⟩
  ·exact ⟨_,_,_,m⟩
 go_wp2
 go_ret2
 refine ⟨rfl,Or.inr ?_, ?_, ?_⟩
 ·exact Lib.BuilderAt.put (T:=63) (e:=5) q f (bs':=Lib.strCells (acc ++s)) (by rw[Lib.strCells_length,QE,zD];exact r) (by decide)
 ·exact (j.grown l (by have:=j.size;omega) (fun k hk=>(c.lt k hk).1)).setCell (p:=⟨b,1,none⟩) q _
 ·refine Lib.OthersKept.setCell (o.oth.grown l ?_) ⟨b,1,none⟩ rfl _;intro g n;rcases c.2 with ⟨rfl,_⟩ | ⟨N,O,x,rfl,_,I,_⟩
  ·simp[Value.ownBlock] at n
  ·simp[Value.ownBlock] at n;subst n;exact ⟨x,_,I⟩
def Dl:List ByteArray→ByteArray
 | []=>⟨#[]⟩
 |x ::r=>x ++Dl r
theorem KS (x:ByteArray):∀ (l:List ByteArray),Dl (l ++ [x])=Dl l ++x
 | []=>by simp[Dl,FP,Eo]
 |y ::r=>by rw[List.cons_append,Dl,Dl,KS x r,zT]
theorem SG:∀ (l m:List ByteArray),Dl (l ++m)=Dl l ++Dl m
 | [],m=>by simp[Dl,FP]
 |y ::r,m=>by rw[List.cons_append,Dl,Dl,SG r m,zT]
theorem Xu (l:List ByteArray)(k:Nat)(h:k < l.length):(Dl (l.take k)).size+l[k].size≤(Dl l).size:=by
 have e:l=l.take k ++(l[k] ::l.drop (k+1)):=by rw[List.getElem_cons_drop,yG]
 have e2:=congrArg (fun x=>(Dl x).size) e;simp only[SG,Dl,zD] at e2;omega
theorem AcU (a b c:ByteArray):Dl [a,b,c]=a ++b ++c:=by simp[Dl,Eo,ByteArray.append_assoc]
theorem AcV (a:ByteArray):Dl [a]=a:=by simp[Dl,Eo]
theorem Po (B b g:Nat)(a:List ByteArray)(n:Nat)(o:n=a.length)(acc:ByteArray)(w:World)(h:Pr B b acc w)(R:Am w g (a.map Value.string).toArray 9)(t:g≠b)(y:acc.size+(Dl a).size≤140737488355328)(hm:n≤1000):
  Calls Tryz.prog 48 #[.pointer (some ⟨b,0,none⟩),.slice (some ⟨g,0,none⟩) n n] w fun e w'=>e= .returned (.tuple #[])∧Pr B b (acc ++Dl a) w'∧Kp B b w w':=by
 have p:=Ab o;clear o;go_enter Tryz.func48,Tryz.ntmps48
 go_wp2_with fail
 go_loopw [8] (fun i wr=>∃ k:Nat,k≤n∧i= .int .i64 k∧Pr B b (acc ++Dl (a.take k)) wr∧Kp B b w wr) (fun i _=>n - (intOf i).toNat)
 case atStart=>exact ⟨0,zN _,rfl,by rw[List.take_zero,Dl,Eo];exact h,Kp.refl _ _ _⟩
 case round=>
  obtain ⟨k,hk,rfl,j,c⟩:=hrel;by_cases l:k < n
  ·have z:(k:Int) < (n:Int):=by omega
   have d:k < a.length:=by rw[← Aa p];exact l
   have m:=c.row R t (by decide);have u:wr.cell? ⟨g,k,none⟩=some (.string a[k]):=by
    have:=m.cell k;rw[this];simp[d]
   have q:=Ab (Xu a k d);have f:=Ab (show acc ++Dl (a.take (k+1))=acc ++Dl (a.take k) ++a[k] by rw[zx d,KS,zT]);have r:=Ab l;generalize a[k]=s at u q f;have A:=h.le.2;have C:=m.lt;have E:=c.size;clear m l d;go_wp2_with (go_at_call 94;refine (LY B b _ s _ j (by have:=Aa q;rw[zD];omega)).mono ?_)
   rintro e F ⟨rfl,v,x⟩;go_wp2_with fail
   go_roundw
   case rel=>exact ⟨k+1,Aa r,by go_num,by rw[Aa f];exact v,c.trans x⟩
   case measure=>have:=Aa r;simp[intOf];omega
  ·have e:k=n:=by omega
   subst e;have f:=Ab (show a.take k=a by rw[Aa p,List.take_length]);go_wp2_with fail
   go_end0
   rw[Aa f] at j;exact ⟨rfl,j,c⟩
theorem Kp.alloc0 {B b:Nat}(w:World)(a:Obj)(c:B≤w.heap.size):Kp B b w (w.alloc a):=⟨(Below.refl B w).alloc c a,(Lib.OthersKept.refl _ _ w).alloc a⟩
theorem Pr.alloc {B b:Nat}{acc:ByteArray}{w:World}(h:Pr B b acc w)(a:Obj):Pr B b acc (w.alloc a):=h.below ((Below.refl _ w).alloc NLN a)
theorem Dn (B b:Nat)(s acc:ByteArray)(w:World)(h:Pr B b acc w)(c:acc.size+s.size≤140737488355328):
  Calls Tryz.prog 48 #[.pointer (some ⟨b,0,none⟩),.slice (some ⟨w.heap.size,0,none⟩) 1 1] (w.alloc (.cells #[.string s] 9)) fun e w'=>e= .returned (.tuple #[])∧Pr B b (acc ++s) w'∧Kp B b w w':=by
 have f:=h.le;refine (Po B b w.heap.size [s] 1 rfl acc _ (h.alloc _) (Am.new w #[.string s] 9) (by omega) (by rw[AcV];exact c) (by decide)).mono ?_;rintro e w' ⟨rfl,a,d⟩;exact ⟨rfl,by rw[AcV] at a;exact a,(Kp.alloc0 w _ (by omega)).trans d⟩
theorem Nf (B b:Nat)(s t u acc:ByteArray)(w:World)(h:Pr B b acc w)(c:acc.size+(s.size+t.size+u.size)≤140737488355328):
  Calls Tryz.prog 48 #[.pointer (some ⟨b,0,none⟩),.slice (some ⟨w.heap.size,0,none⟩) 3 3] (w.alloc (.cells #[.string s,.string t,.string u] 9)) fun e w'=>e= .returned (.tuple #[])∧Pr B b (acc ++(s ++t ++u)) w'∧Kp B b w w':=by
 have f:=h.le;refine (Po B b w.heap.size [s,t,u] 3 rfl acc _ (h.alloc _) (Am.new w #[.string s,.string t,.string u] 9) (by omega) (by rw[AcU,zD,zD];exact c) (by decide)).mono ?_;rintro e w' ⟨rfl,a,d⟩;exact ⟨rfl,by rw[AcU] at a;exact a,(Kp.alloc0 w _ (by omega)).trans d⟩
theorem UP (B b:Nat)(acc:ByteArray)(w:World)(h:Pr B b acc w)(h0:acc.size≠0):
  Calls Tryz.prog 21 #[.pointer (some ⟨b,0,none⟩)] w fun e w'=>e= .returned (.string acc)∧Below B w w':=by
 obtain ⟨p,o,v,d,c,q⟩:=h.at;rw[Lib.strCells_length] at c;obtain ⟨g,cap,a,rfl,f,i,s,k,t,u⟩:∃ g cap a,v= .slice (some ⟨g,0,none⟩) acc.size cap∧B≤g∧w.heap[g]? =some (.cells a 5 (0,0))∧acc.size≤cap∧cap≤maxLen∧a.size=cap * 1∧a.toList.take (acc.size * 1)=Lib.strCells acc:=by
  rcases c.2 with ⟨_,l⟩ | ⟨g,cap,a,m,r⟩
  ·exact absurd l h0
  ·exact ⟨g,cap,a,m,r⟩
 have c1:w.drew.cell? ⟨b,1,none⟩=some (.slice (some ⟨g,0,none⟩) acc.size cap):=by
  have:w.drew.heap[b]? =some (.cells #[p,.slice (some ⟨g,0,none⟩) acc.size cap] 63 (0,0)):=d;rw[Lib.cell_of_heap this];rfl
 have y:(Builtin.unsafeSliceData_ #[22] 116 #[.slice (some ⟨g,0,none⟩) acc.size cap]).run Tryz.prog w.drew= .ok (.pointer (some ⟨g,0,none⟩)) w.drew:=
  Lib.run_unsafeSliceData_row _ _ _ _ _ _ (by omega)
 have z:(Builtin.unsafeString_ #[116,3] 9 #[.pointer (some ⟨g,0,none⟩),.int .i64 acc.size]).run Tryz.prog w.drew= .ok (.string acc) (w.drew.freeze ⟨g,0,none⟩ acc.size):=by
  have hl:acc.data.toList.length=acc.size:=by simp
  have:=Lib.run_unsafeString_row w.drew 116 3 9 5 Tryz.underlying116 Xt g a.size (by have n:w.drew.heap[g]? =some (.cells a 5 (0,0)):=i;simp[World.shape?,n]) acc.data.toList (fun e=>h0 (by rw[← hl,e];rfl)) (by rw[hl];omega) (by rw[hl];unfold maxLen at k;omega) (fun j x hx=>c.cells (g:=g) rfl j (.int .u8 x.toNat) (by simp[Lib.strCells,hx]));rw[hl] at this;exact this
 go_enter Tryz.func21,Tryz.ntmps21
 go_wp2
 go_region
 all_goals (go_wp2;go_ret;exact ⟨rfl,Lib.below_freeze (Below.drew (Below.refl B w)) (p:=⟨g,0,none⟩) f _⟩)
end Go.Proofs.YtffkofkjpckmpaaGreatDoor
namespace Go.Proofs.YtffkofkjpckmpaaGreatDoor
open Go.RowKit Go.ChangeShapes
structure FA (w:World) (a:Option Addr) (n c:Nat) (zs:List Int):Prop where
 cap:n≤c
 small:c≤maxLen
 cells:∀ j,j < n→∃ b off z,a=some ⟨b,off,none⟩∧b < w.heap.size∧w.cell? ⟨b,off+j,none⟩=some (.int .u8 z)∧0≤z∧z≤255
theorem FA.below {w w':World}{B:Nat}{a:Option Addr}{n c:Nat}{d:List Int}(h:FA w a n c d)(f:Below B w w')(k:w.heap.size≤B):FA w' a n c d:=
 ⟨h.cap,h.small,fun j l=>by
  obtain ⟨b,g,m,o,i,hc,q⟩:=h.cells j l;exact ⟨b,g,m,o,zY i f.size,by rw[← hc];exact f.cell (p:=⟨b,g+j,none⟩) (zY i k),q⟩⟩
theorem FA.of_trod {k:Type}{enc:TypeId × Value→k}{P:Program}{w:World}{o:Bool}{t e:TypeId}{fuel:Nat}{x:DataW k × List MemPlace}{a:Option Addr}{n c:Nat}
  (ht:P.underlying t=some (.slice e))(he:P.underlying e=some (.int .u8))(hc:P.cellsOf e=1)
  (h:DataW.trod enc P w 0 (fun _=>true) o fuel t [.slice a n c]=some x):∃ d,FA w a n c d:=by
 rcases open_ints ht he hc h with ⟨f,_⟩ | ⟨p,len,cap,d,f,_,hl,hm,q,_,l,r⟩
 ·simp only[List.cons.injEq,Value.slice.injEq,and_true] at f;obtain ⟨rfl,rfl,rfl⟩:=f;exact ⟨[],NLN,zN _,fun j s=>by omega⟩
 ·simp only[List.cons.injEq,Value.slice.injEq,and_true] at f;obtain ⟨rfl,rfl,rfl⟩:=f;simp only[if_true] at q;refine ⟨d,hl,hm,fun j s=>?_⟩;have hs:=World.cell?_spot (l 0 (by omega));obtain ⟨b,g,y⟩:=p;simp only[Addr.add,if_true] at hs;subst hs;have i:=l j (by omega);have u:(⟨b,g,none⟩:Addr).add j=⟨b,g+j,none⟩:=by
   by_cases e:j=0 <;> simp[Addr.add,e]
  rw[u] at i;have m:=bounds_u8 (r (d.getD j 0) (by simp[List.getD,show j < d.length from by omega]));refine ⟨b,g,d.getD j 0,rfl, ?_,i,m.1,m.2⟩;by_cases v:b < w.heap.size
  ·exact v
  ·have:w.heap[b]? =none:=Array.getElem?_eq_none (by omega);simp[World.cell?,this] at i
structure Rd (w:World) (R:Nat) (a:Option Addr) (n c p:Nat):Prop where
 row:Am w R #[.slice a n c,.int .i64 (p:Int)] 78
 le:p≤n
 small:n≤1048576
 cells:∀ j,j < n→∃ b off z,a=some ⟨b,off,none⟩∧b < R∧w.cell? ⟨b,off+j,none⟩=some (.int .u8 z)∧0≤z∧z≤255
theorem Rd.after {w w':World}{B R:Nat}{a:Option Addr}{n c p:Nat}(h:Rd w R a n c p)(d:Below B w w')(g:R < B):Rd w' R a n c p:=
 ⟨h.row.below d g,h.le,h.small,fun j i=>by
  obtain ⟨b,f,k,l,m,hc,o⟩:=h.cells j i;exact ⟨b,f,k,l,m,by rw[← hc];exact d.cell (p:=⟨b,f+j,none⟩) (by show b < B;omega),o⟩⟩
theorem Rd.new {w:World}{a:Option Addr}{n c:Nat}{g:List Int}(h:FA w a n c g)(i:n≤1048576):Rd (w.alloc (.cells #[.slice a n c,.int .i64 0] 78)) w.heap.size a n c 0:=
 ⟨Am.new _ _ _,zN _,i,fun j k=>by
  obtain ⟨b,d,l,m,f,hc,o⟩:=h.cells j k;exact ⟨b,d,l,m,f,by rw[← hc];exact ((Below.refl w.heap.size w).alloc NLN _).cell (p:=⟨b,d+j,none⟩) f,o⟩⟩
theorem Rd.step {w:World}{R:Nat}{a:Option Addr}{n c p:Nat}(h:Rd w R a n c p)(hp:p < n):Rd (w.setCell ⟨R,1,none⟩ (.int .i64 ((p+1 :Nat):Int))) R a n c (p+1):=
 ⟨by simpa using h.row.set 1 (.int .i64 ((p+1 :Nat):Int)),hp,h.small,fun j d=>by
  obtain ⟨b,f,g,i,k,hc,l⟩:=h.cells j d;refine ⟨b,f,g,i,k, ?_,l⟩;rw[← hc];exact World.cell?_of_block (heap_setCell_other w ⟨R,1,none⟩ b _ (by show b≠R;omega))⟩
def CE (w:World) (R:Nat) (a:Option Addr) (n c:Nat):Prop:=∃ p,Rd w R a n c p
end Go.Proofs.YtffkofkjpckmpaaGreatDoor
namespace Go.Proofs.YtffkofkjpckmpaaGreatDoor
open Go.RowKit Go.Lib Go.Sort
theorem Yo (d g n c:Nat)(a:List (List UInt8))(w:World)(h:w.ownsRow d 9 1 (.slice (some ⟨g,0,none⟩) n c) n (a.map encStr))(j:n≤1048576):
  Calls Tryz.prog 198 #[.slice (some ⟨g,0,none⟩) n c] w fun e w'=>e= .returned (.tuple #[])∧w'.ownsRow d 9 1 (.slice (some ⟨g,0,none⟩) n c) n ((a.mergeSort fun x y=>decide (x≤y)).map encStr)∧w.grownBy w' (some g):=by
 have hl:a.length=n:=by have:=h.1;simpa using this
 subst hl;rcases h.2 with ⟨h0,_⟩ | ⟨k,cap,l,f,i,b,h1,h2,h3,h4⟩
 ·cases h0
 ·simp only[Value.slice.injEq,Option.some.injEq,Addr.mk.injEq,and_true,true_and] at f;obtain ⟨rfl,rfl⟩:=f;refine (Tryz.slices_Sort_string g 0 c a w (holds_of_block b (by simpa using h4)) (yD.1 b).1 (by omega)).mono ?_;rintro e w' ⟨rfl,q,os,rfl⟩;exact ⟨rfl,ownsRow_sorted (by simp) i b h1 h2 h3,grownBy_sorted _⟩
theorem KO (a:Array Value)(ts rs:List (List UInt8))(h:(ts ++rs).length≤a.size):(putCells encStr 0 (ts ++rs).toArray a).toList.take ts.length=ts.map encStr:=by
 have e:=take_putCells a (ts ++rs) h;have:=congrArg (List.take ts.length) e;rw[List.take_take,Nat.min_eq_left (by simp)] at this;rw[this,zl,List.take_left' (by simp)]
theorem Sl (a:List (List UInt8)):(Lib.compact a).length≤a.length:=by
 unfold Lib.compact compactUpTo;rw[zv];exact zL (List.length_filter_le _ _) (by simp)
theorem RB (b g n c:Nat)(a:List (List UInt8))(w:World)(h:w.ownsRow b 9 1 (.slice (some ⟨g,0,none⟩) n c) n (a.map encStr))(o:n≤1048576):
  Calls Tryz.prog 199 #[.slice (some ⟨g,0,none⟩) n c] w fun e w'=>e= .returned (.slice (some ⟨g,0,none⟩) (Lib.compact a).length c)∧w'.ownsRow b 9 1 (.slice (some ⟨g,0,none⟩) (Lib.compact a).length c) (Lib.compact a).length ((Lib.compact a).map encStr)∧w.grownBy w' (some g):=by
 have hl:a.length=n:=by have:=h.1;simpa using this
 subst hl;rcases h.2 with ⟨h0,_⟩ | ⟨p,cap,k,d,l,f,h1,h2,h3,h4⟩
 ·cases h0
 ·simp only[Value.slice.injEq,Option.some.injEq,Addr.mk.injEq,and_true,true_and] at d;obtain ⟨rfl,rfl⟩:=d;refine (Tryz.slices_Compact_string g 0 c a w (holds_of_block f (by simpa using h4)) (by omega) h1).mono ?_;rintro e w' ⟨rfl,q,rfl⟩;have m:=(grow_empty (putRow encStr (Sort.ahead w q) g 0 (Lib.compact a ++List.replicate (a.length - (Lib.compact a).length) []).toArray)).symm;have r:=Sl a;have i:=heap_sorted (n:=q) (os:=#[]) (Lib.compact a ++List.replicate (a.length - (Lib.compact a).length) []).toArray f;have j:=grownBy_sorted (w:=w) (g:=g) (n:=q) (os:=#[]) (Lib.compact a ++List.replicate (a.length - (Lib.compact a).length) []).toArray;rw[← m] at i j;refine ⟨rfl,⟨by simp,.inr ⟨g,c,_,rfl,l,i,by omega,h2,by simp[putCells,h3], ?_⟩⟩,j⟩;rw[Nat.mul_one];exact KO k _ _ (by simp;omega)
end Go.Proofs.YtffkofkjpckmpaaGreatDoor
