/-
  The walk over the program's stack of open trees. Own work.
-/
import Derived.Test.YtoplnhndilmlcaaGreatDoorMXAK
namespace Go.Proofs.YtoplnhndilmlcaaGreatDoor
set_option maxRecDepth 100000
set_option maxHeartbeats 6400000
open Go.RowKit
set_option linter.unusedVariables false
theorem AbA:(Tryz.prog.info? 182).map (fun i=>(i.zero,i.size,i.bytes))=some (some (.agg #[.int .i64 0,.int .i64 0]),2,16):=by kernel_rfl
def Aax (B:Nat) (r:Option (List (Nat × Nat))) (e:Ending) (w':World):Prop:=match r with
 | none=>e= .returned (.tuple #[.slice none 0 0,.bool false])
 | some S=>∃ v,e= .returned (.tuple #[v,.bool true])∧w'.ownsRow B 3 1 v S.length (At (Ar S))
def AbB (K:List (List Int)) (B k:Nat) (v:Value) (wr:World):Prop:=∃ S,Cj K k [] 0=some S∧S.length≤k∧(∀ p∈S,p.1 < k∧p.2≤64)∧wr.ownsRow B 182 2 v S.length (CG S)
theorem Sa {S a:List (Nat × Nat)}{k:Nat}{ks:List Int}(h:CW S k ks=some a)(h1:S.length≤k)(h2:∀ p∈S,p.1 < k∧p.2≤64):a.length≤k+1∧∀ p∈a,p.1 < k+1∧p.2≤64:=by
 obtain ⟨d,B,rfl,e2,e3,rfl⟩:=MR h;have f:Ep B≤64:=by
  clear h e2 e3 h1
  induction B with
  | nil=>simp[Ep]
  | cons q B c=>
   have hq:=h2 q (by simp);have g:=c (fun p b=>h2 p (by rcases List.mem_append.1 b with e | e <;> simp[e]));rw[Ep];omega
 rw[List.length_append] at h1;refine ⟨by rw[List.length_append];simp;omega,fun p b=>?_⟩;rcases List.mem_append.1 b with e | e
 ·have:=h2 p (List.mem_append_left _ e);omega
 ·simp at e;subst e;exact ⟨by show k < k+1;omega,by show Ep B+1≤64;omega⟩
theorem YP {w:World}{b:Nat}{e:TypeId}{size:Nat}{x:Option Addr}{n c:Nat}{d:List Value}(h:w.ownsRow b e size (.slice x n c) n d):n≤c:=by
 rcases h.2 with ⟨a,f⟩ | ⟨g,cap,i,a,h1,h2,h3,h4,h5,h6⟩
 ·omega
 ·cases a;exact h3
theorem Sb (S:List (Nat × Nat))(f k d:Nat):(CG S).take (f * 2) ++ [.int .i64 k,.int .i64 ((d:Int)+1)]=CG (S.take f ++ [(k,d+1)]):=by
 have e:∀ (S:List (Nat × Nat)) (f:Nat),(CG S).take (f * 2)=CG (S.take f):=by
  intro S
  induction S with
  | nil=>intro f;simp[CG]
  | cons p S a=>
   intro f;cases f with
   | zero=>simp[CG]
   | succ f=>
    have e1:CG (p ::S)= .int .i64 p.1 :: .int .i64 p.2 ::CG S:=rfl;have e2:CG (p ::S.take f)= .int .i64 p.1 :: .int .i64 p.2 ::CG (S.take f):=rfl;rw[e1,show (f+1) * 2=f * 2+1+1 by omega,List.take_succ_cons,List.take_succ_cons,a f,List.take_succ_cons,e2]
 rw[e,CG,CG,List.flatMap_append];simp
theorem Ks {w:World}{a base':Nat}{e:TypeId}{size:Nat}{v:Value}{n:Nat}{b:List Value}(h:w.ownsRow a e size v n b)(i:base'≤a):w.ownsRow base' e size v n b:=by
 refine ⟨h.1, ?_⟩;rcases h.2 with c | ⟨g,cap,d,f,h1,h2,h3⟩
 ·exact .inl c
 ·exact .inr ⟨g,cap,d,f,by omega,h2,h3⟩
theorem TR (S:List (Nat × Nat))(k:Nat)(h:k < S.length):Ar (S.take (k+1))=Ar (S.take k) ++ [(S[k].1 :Int)]:=by
 rw[List.take_succ_eq_append_getElem h,Ar,Ar,List.map_append];rfl
theorem MS (a:Option Addr)(n c:Nat)(L:List Nd)(w:World)(h:Fe w a n c L):
  Calls Tryz.prog 54 #[.slice a n c] w fun e w'=>Aax w.heap.size (Cj (L.map Nd.kids) n [] 0) e w'∧Below w.heap.size w w':=by
 have bh:=h.small;have aq:=Ab h.len;obtain ⟨aG,aH,aI,aJ,aK⟩:=info_parts AbA;obtain ⟨i,hi,aL,aM,aN⟩:=info_parts Qc;go_enter Tryz.func54,Tryz.ntmps54
 go_wp2_with fail
 go_loopw [4,16] (fun v i wr=>∃ k:Nat,k≤n∧i= .int .i64 k∧Below w.heap.size w wr∧AbB (L.map Nd.kids) w.heap.size k v wr) (fun _ i _=>n - (intOf i).toNat)
 case atStart=>exact ⟨0,by omega,rfl,BRN, [],rfl,by simp,by simp,World.ownsRow_nil _ _ _ _⟩
 case round=>
  obtain ⟨k,hk,rfl,o,S,T,aO,U,V⟩:=hrel;by_cases ae:k < n
  ·have bi:(k:Int) < (n:Int):=by omega
   have ar:k < L.length:=by rw[Aa aq];exact ae
   obtain ⟨b,bj,rfl,bk,an,nn,W,X,l,Y,aP,c1,c2,c3,c4,au,F⟩:=(h.below o NLN).cells k ar;have H:=Ab (Wq T (show (L.map Nd.kids)[k]? =some L[k].kids by rw[List.getElem?_map,List.getElem?_eq_getElem ar];rfl));have r:=Ab (show CW S k L[k].kids=none→Cj (L.map Nd.kids) n [] 0=none from fun e=>Wr (k:=k+1) ae (by rw[Aa H,e]));have af:=Ab (fun aQ (aR:CW S k L[k].kids=some aQ)=>Sa aR aO U);have av:=Ab ae;have aS:=Ab U;clear T U;generalize L[k]=x at aP c1 c2 c3 c4 au F H r af;have bl:=F.small;have t:=Ab F.len;have bm:=Aj.new wr #[.int .i64 x.op,.int .i64 x.num,.string x.text,.slice an nn W,.slice X l Y] 80;have s:=o.alloc o.size (.cells #[.int .i64 x.op,.int .i64 x.num,.string x.text,.slice an nn W,.slice X l Y] 80);have aT:=(Below.refl wr.heap.size wr).alloc NLN (.cells #[.int .i64 x.op,.int .i64 x.num,.string x.text,.slice an nn W,.slice X l Y] 80);have ag:=V.alloc (.cells #[.int .i64 x.op,.int .i64 x.num,.string x.text,.slice an nn W,.slice X l Y] 80);have aU:=F.below aT NLN;obtain ⟨aV,aw,rfl,I⟩:=Af ag;have ah:=Ab I;clear au F I;by_cases hs:S.length < l
   ·have is:(S.length:Int) - (l:Int) < 0:=by omega
    have J:=Ab (Aa r (RZ (by rw[Aa t];exact hs)));clear hs r;go_wp2_with fail
    exact bodyPost_ret (v:= .tuple #[.slice none 0 0,.bool false]) (by simp[results,Tryz.results54,go_sem]) rfl ⟨by rw[Aa J];rfl,s⟩
   ·have is: ¬ ((S.length:Int) - (l:Int) < 0):=by omega
    obtain ⟨f,hf⟩:∃ f,f+l=S.length:=⟨S.length - l,by omega⟩
    have aW:=Ab (show (S.length:Int) - (l:Int)=(f:Int) by omega);have bn:=Ab hf;clear hs;go_wp2_with fail
    rw[Aa aW];go_loop [8,32] (fun d i=>∃ j:Nat,j≤l∧i= .int .i64 j∧d= .int .i64 (Ep ((S.drop f).take j))∧Ep ((S.drop f).take j)≤64∧Jr S f x.kids j) (fun _ i=>l - (intOf i).toNat)
    case atStart=>exact ⟨0,by omega,rfl,rfl,by simp[Ep],TP _ _ _⟩
    case round=>
     obtain ⟨j,aX,rfl,rfl,Z,ax⟩:=hrel;have aa:=Ab ax;clear ax;by_cases C:j < l
     ·have aY:(j:Int) < (l:Int):=by omega
      obtain ⟨g,rfl,aZ,z⟩:=Aa ah (by omega);have K:f+j < S.length:=by omega
      have ai:j < x.kids.length:=by rw[Aa t];exact C
      obtain ⟨bo,ok,rfl,bp,a0⟩:=aU.cells j ai;obtain ⟨M,N⟩:=JV S (f+j) K;have aj:=z _ _ M;have ak:=z _ _ N;have a1:=Aa aS S[f+j] (List.getElem_mem K);have ab:=Ab (show Ep ((S.drop f).take (j+1))=max (Ep ((S.drop f).take j)) S[f+j].2 by rw[GO S f j K,YN]);have O:=Ab (fun e=>TN (i:=k) (ks:=x.kids) (by rw[Aa t];exact hf) ai K e);have P:=Ab (fun e=>TQ ai K (Aa aa) e);clear M N z aa;generalize S[f+j]=p at aj ak a1 ab O P;generalize x.kids[j]=y at a0 O P;generalize Ep ((S.drop f).take j)=D at Z ab;by_cases hy:(p.1:Int)=y
      ·have a2:((p.1:Int) != y)=false:=by rw[hy];simp
       have a3:=Ab (Aa P hy);clear hy O P;have Q:=Ab C;go_wp2_with fail
       have a4:(Value.int .i64 (if D < p.2 then (p.2:Int) else (D:Int)))= .int .i64 (Ep ((S.drop f).take (j+1))):=by
        rw[Aa ab];split <;> congr 1 <;> omega
       (first|rw[a4]|rw[show Value.int .i64 (max (D:Int) (p.2:Int))= .int .i64 (Ep ((S.drop f).take (j+1))) by rw[Aa ab];congr 1;omega]);exact ⟨⟨j+1,Aa Q,by go_num,rfl,by rw[Aa ab];omega,Aa a3⟩,by have:=Aa Q;simp[intOf];omega⟩
      ·have a2:((p.1:Int) != y)=true:=bne_iff_ne.2 hy;have J:=Ab (Aa r (Aa O hy));clear hy O P r;go_wp2_with fail
       exact bodyPost_ret (v:= .tuple #[.slice none 0 0,.bool false]) (by simp[results,Tryz.results54,go_sem]) rfl ⟨by rw[Aa J];rfl,s⟩
     ·have e:j=l:=by omega
      subst e;have ay:=Ab (Ws (by rw[Aa t];exact hf) (by rw[Aa t];exact Aa aa));have a5:=Ab (show (S.drop f).take j=S.drop f from List.take_of_length_le (by rw[List.length_drop];omega));rw[Aa a5] at Z ⊢;clear aa;by_cases ac:Ep (S.drop f)=64
      ·have al:((Ep (S.drop f):Int)== 64)=true:=beq_iff_eq.2 (by omega);have J:=Ab (Aa r (TO (by rw[Aa t];exact hf) ac));clear ac r;generalize Ep (S.drop f)=D at Z al ⊢;go_wp2_with fail
       exact bodyPost_ret (v:= .tuple #[.slice none 0 0,.bool false]) (by simp[results,Tryz.results54,go_sem]) rfl ⟨by rw[Aa J];rfl,s⟩
      ·have al:((Ep (S.drop f):Int)== 64)=false:=beq_eq_false_iff_ne.2 (by omega);have ad:=Ab (YO (i:=k) (by rw[Aa t];exact hf) (Aa ay) ac);clear ac r ay;generalize Ep (S.drop f)=D at Z al ad ⊢;have az:=Nc (m:=f) ag (by omega);have bq:=YP ag;have br:(f:Int)≤(aw:Int):=by omega
       have a6:=o.size;go_wp2_with (at_builtin;refine wpList_append_own _ rfl _ _ 180 rfl w.heap.size 182 aG (.agg #[.int .i64 0,.int .i64 0]) 2 16 Tryz.underlying180 aH aI aJ aK rfl (by decide) _ _ _ rfl (World.ownsRow.alloc az _) ⟨wr.heap.size+1,0,none⟩ 1 1 [.int .i64 k,.int .i64 ((D:Int)+1)] rfl rfl ?c1 ?c2 ?c3 ?c4 ?c5 ?_)
       case c2=>exact ⟨rfl,rfl⟩
       case c3=>unfold maxLen;omega
       case c4=>omega
       case c5=>omega
       intro a7 a8 aA E _;have a9:=(s.alloc s.size (.cells #[.int .i64 k,.int .i64 ((D:Int)+1)] 182)).grown E (by simp;omega) (fun q hq=>(az.lt q hq).1);clear E;rw[Sb] at aA;go_wp2_with fail
       go_roundw
       case rel=>exact ⟨k+1,Aa av,by go_num,a9,S.take f ++ [(k,D+1)],by rw[Aa H,Aa ad],(Aa af _ (Aa ad)).1,(Aa af _ (Aa ad)).2,by rw[List.length_append,List.length_take,List.length_singleton,show min f S.length=f by omega];exact aA⟩
       case measure=>have:=Aa av;simp[intOf];omega
  ·have e:k=n:=by omega
   subst e;obtain ⟨aV,aw,rfl,I⟩:=Af V;have H:=Ab T;obtain ⟨A,ba⟩:∃ A,A=wr:=⟨_,rfl⟩
   subst ba;have ah:=Ab I;have bb:=Ab V;have aB:=Ab o;clear T I U V o h aq;go_wp2_with fail
   go_loopw [11,70] (fun v i wr=>∃ j:Nat,j≤S.length∧i= .int .i64 j∧wr.ownsRow A.heap.size 3 1 v (Ar (S.take j)).length (At (Ar (S.take j)))∧Below w.heap.size w wr∧Below A.heap.size A wr) (fun _ i _=>S.length - (intOf i).toNat)
   case atStart=>exact ⟨0,by omega,rfl,World.ownsRow_nil _ _ _ _,Aa aB,BRN⟩
   case round=>
    obtain ⟨j,aX,rfl,B,o,R⟩:=hrel;by_cases C:j < S.length
    ·have aY:(j:Int) < (S.length:Int):=by omega
     obtain ⟨g,rfl,aZ,z⟩:=Aa ah (by omega);obtain ⟨M,N⟩:=JV S j C;have aC:g < A.heap.size:=((Aa bb).lt g rfl).2;have aj:=(R.cell (p:=⟨g,j * 2,none⟩) aC).trans (z _ _ M);have ak:=(R.cell (p:=⟨g,j * 2+1,none⟩) aC).trans (z _ _ N);have ao:=Ab (TR S j C);have bc:(Ar (S.take j)).length≤1048576:=by rw[Ar,List.length_map,List.length_take];omega
     have Q:=Ab C;clear M N z;generalize S[j]=p at aj ak ao;generalize Ar (S.take j)=bs at B bc ao;have s:=o.alloc o.size (.cells #[.int .i64 p.1,.int .i64 p.2] 182);have aD:=R.alloc R.size (.cells #[.int .i64 p.1,.int .i64 p.2] 182);have ap:=B.alloc (.cells #[.int .i64 p.1,.int .i64 p.2] 182);obtain ⟨aE,aF,rfl,_⟩:=Af B;have a6:=o.size;have bt:=R.size;have bu:=Aj.new wr #[.int .i64 p.1,.int .i64 p.2] 182;go_wp2_with (at_builtin;refine wpList_append_own _ rfl _ _ 30 rfl A.heap.size 3 i (.int .i64 0) 1 8 Tryz.underlying30 hi aL aM aN rfl (by decide) _ _ _ rfl (World.ownsRow.alloc ap _) ⟨wr.heap.size+1,0,none⟩ 1 1 [.int .i64 p.1] rfl rfl ?d1 ?d2 ?d3 ?d4 ?d5 ?_)
     case d1=>exact Bn _ _ _ _ (by simp)
     case d2=>intro u hu;simp at hu;subst hu;rfl
     case d3=>unfold maxLen;omega
     case d4=>omega
     case d5=>simp;omega
     intro a7 a8 bd E _;have bf:=(s.alloc s.size (.cells #[.int .i64 p.1] 3)).grown E (by simp;omega) (fun q hq=>by have:=(ap.lt q hq).1;omega);have bg:=(aD.alloc aD.size (.cells #[.int .i64 p.1] 3)).grown E (by simp;omega) (fun q hq=>(ap.lt q hq).1);clear E;go_wp2_with fail
     go_roundw
     case rel=>exact ⟨j+1,Aa Q,by go_num,by rw[Aa ao,At,List.map_append,List.length_append];exact bd,bf,bg⟩
     case measure=>have:=Aa Q;simp[intOf];omega
    ·have e:j=S.length:=by omega
     subst e;have e2:S.take S.length=S:=List.take_of_length_le NLN;rw[e2] at B;obtain ⟨aE,aF,rfl,_⟩:=Af B;go_wp2_with fail
     refine bodyPost_ret (v:= .tuple #[.slice aE (Ar S).length aF,.bool true]) (by simp[results,Tryz.results54,go_sem]) rfl ⟨?_,o⟩
     rw[Aa H];exact ⟨_,rfl,Ks (by rw[JW] at B ⊢;exact B) (Aa aB).size⟩
end Go.Proofs.YtoplnhndilmlcaaGreatDoor
