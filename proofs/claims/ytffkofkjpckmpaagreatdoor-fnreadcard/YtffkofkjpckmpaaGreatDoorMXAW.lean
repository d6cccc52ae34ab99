/-
  VPI, VPK, VPL, VPJ, VPU, TP, TQ, TG. Own work.
-/
import Derived.Test.YtffkofkjpckmpaaGreatDoorMXAB
import Derived.Test.YtffkofkjpckmpaaGreatDoorMXAO
import Derived.Test.YtffkofkjpckmpaaGreatDoorMXAG
import Derived.Test.YtffkofkjpckmpaaGreatDoorMXAS
import Derived.Lib.SmallJoins
namespace Go.Proofs.YtffkofkjpckmpaaGreatDoor
open Go.RowKit
set_option linter.unusedVariables false
def Df (S:List (Nat × Nat)):List Value:=S.flatMap fun p=> [.int .i64 p.1,.int .i64 p.2]
theorem Lc:∀ (S:List (Nat × Nat)) (i:Nat) (h:i < S.length),(Df S)[i * 2]? =some (.int .i64 (S[i].1 :Int))∧(Df S)[i * 2+1]? =some (.int .i64 (S[i].2 :Int))
 | [],i,h=>absurd h (by simp)
 |p ::S,0,h=>⟨rfl,rfl⟩
 |p ::S,i+1,h=>by
  have a:=Lc S i (by simpa using h);have e:Df (p ::S)= .int .i64 p.1 :: .int .i64 p.2 ::Df S:=rfl;rw[e,show (i+1) * 2=i * 2+1+1 by omega,zc,zc,show i * 2+1+1+1=(i * 2+1)+1+1 by omega,zc,zc];simpa using a
theorem ZX (l:List (Nat × Nat))(p:Nat × Nat):Ea (l ++ [p])=max (Ea l) p.2:=by
 induction l with
 |nil=>simp[Ea]
 |cons q l a=>rw[List.cons_append,Ea,Ea,a];omega
theorem XJ {K:List (List Int)}{k:Nat}{S:List (Nat × Nat)}{ks:List Int}(h:CJ K k [] 0=some S)(hk:K[k]? =some ks):CJ K (k+1) [] 0=Dv S k ks:=by
 rw[Gq K k 1 [] 0,h];show CJ K 1 S (0+k)=_;rw[zW,CJ,hk];dsimp only;cases Dv S k ks <;> rfl
theorem XK {K:List (List Int)}{k n:Nat}(hk:k≤n)(h:CJ K k [] 0=none):CJ K n [] 0=none:=by
 have e:n=k+(n - k):=by omega
 rw[e,Gq K k (n - k) [] 0,h];rfl
theorem Tp {S:List (Nat × Nat)}{i:Nat}{ks:List Int}(h:S.length < ks.length):Dv S i ks=none:=by rw[Dv,if_pos h]
theorem Va {S:List (Nat × Nat)}{i f j:Nat}{ks:List Int}(hf:f+ks.length=S.length)(a:j < ks.length)(b:f+j < S.length)(h:(S[f+j].1 :Int)≠ks[j]):Dv S i ks=none:=by
 have c:S.length - ks.length=f:=by omega
 rw[Dv,if_neg (by omega),if_pos];rw[c];intro e;apply h;have h1:(Av (S.drop f))[j]? =some ks[j]:=by rw[e];exact zM a
 rw[Av,zd,List.getElem?_drop,zM b] at h1;simpa using h1
theorem Vb {S:List (Nat × Nat)}{i f:Nat}{ks:List Int}(hf:f+ks.length=S.length)(a:Ea (S.drop f)=64):Dv S i ks=none:=by
 have b:S.length - ks.length=f:=by omega
 rw[Dv,if_neg (by omega),b];by_cases h:Av (S.drop f)≠ks
 ·rw[if_pos h]
 ·rw[if_neg h,if_pos a]
theorem ZY {S:List (Nat × Nat)}{i f:Nat}{ks:List Int}(hf:f+ks.length=S.length)(ht:Av (S.drop f)=ks)(a:Ea (S.drop f)≠64):Dv S i ks=some (S.take f ++ [(i,Ea (S.drop f)+1)]):=by
 have b:S.length - ks.length=f:=by omega
 rw[Dv,if_neg (by omega),b,if_neg (by simp[ht]),if_neg a]
def Ki (S:List (Nat × Nat)) (f:Nat) (ks:List Int) (j:Nat):Prop:=Av ((S.drop f).take j)=ks.take j
theorem Vc (S:List (Nat × Nat))(f:Nat)(ks:List Int):Ki S f ks 0:=by simp[Ki,Av]
theorem Ih (S:List (Nat × Nat))(f j:Nat)(h:f+j < S.length):(S.drop f).take (j+1)=(S.drop f).take j ++ [S[f+j]]:=by
 have hl:j < (S.drop f).length:=by rw[zj];omega
 rw[zx hl,List.getElem_drop]
theorem Vd {S:List (Nat × Nat)}{f j:Nat}{ks:List Int}(a:j < ks.length)(b:f+j < S.length)(h:Ki S f ks j)(e:(S[f+j].1 :Int)=ks[j]):Ki S f ks (j+1):=by
 rw[Ki,Ih S f j b,zx a,← e];rw[Ki] at h;rw[← h];simp[Av]
theorem XL {S:List (Nat × Nat)}{f:Nat}{ks:List Int}(hf:f+ks.length=S.length)(h:Ki S f ks ks.length):Av (S.drop f)=ks:=by
 rw[Ki,zk (by rw[zj];omega),zk NLN] at h;exact h
set_option maxRecDepth 100000
set_option maxHeartbeats 6400000
theorem Acx:(Tryz.prog.info? 198).map (fun i=>(i.zero,i.size,i.bytes))=some (some (.agg #[.int .i64 0,.int .i64 0]),2,16):=by kernel_rfl
def Abs (B:Nat) (r:Option (List (Nat × Nat))) (e:Ending) (w':World):Prop:=match r with
 |none=>e= .returned (.tuple #[.slice none 0 0,.bool false])
 |some S=>∃ v,e= .returned (.tuple #[v,.bool true])∧w'.ownsRow B 3 1 v S.length (AF (Av S))
def Acy (K:List (List Int)) (B k:Nat) (v:Value) (wr:World):Prop:=∃ S,CJ K k [] 0=some S∧S.length≤k∧(∀ p∈S,p.1 < k∧p.2≤64)∧wr.ownsRow B 198 2 v S.length (Df S)
theorem Tq {S a:List (Nat × Nat)}{k:Nat}{ks:List Int}(h:Dv S k ks=some a)(h1:S.length≤k)(h2:∀ p∈S,p.1 < k∧p.2≤64):a.length≤k+1∧∀ p∈a,p.1 < k+1∧p.2≤64:=by
 obtain ⟨c,B,rfl,e2,e3,rfl⟩:=NH h;have d:Ea B≤64:=by
  clear h e2 e3 h1
  induction B with
  |nil=>simp[Ea]
  |cons q B b=>
   have hq:=h2 q (by simp);have f:=b (fun p hp=>h2 p (by rcases zH.1 hp with e | e <;> simp[e]));rw[Ea];omega
 rw[zB] at h1;refine ⟨by rw[zB];simp;omega,fun p hp=>?_⟩;rcases zH.1 hp with e | e
 ·have:=h2 p (za _ e);omega
 ·simp at e;subst e;exact ⟨by show k < k+1;omega,by show Ea B+1≤64;omega⟩
theorem ZZ {w:World}{b:Nat}{e:TypeId}{size:Nat}{x:Option Addr}{n c:Nat}{d:List Value}(h:w.ownsRow b e size (.slice x n c) n d):n≤c:=by
 rcases h.2 with ⟨a,f⟩ | ⟨g,cap,i,a,h1,h2,h3,h4,h5,h6⟩
 ·omega
 ·cases a;exact h3
theorem Ts (S:List (Nat × Nat))(f k d:Nat):(Df S).take (f * 2) ++ [.int .i64 k,.int .i64 ((d:Int)+1)]=Df (S.take f ++ [(k,d+1)]):=by
 have e:∀ (S:List (Nat × Nat)) (f:Nat),(Df S).take (f * 2)=Df (S.take f):=by
  intro S
  induction S with
  |nil=>intro f;simp[Df]
  |cons p S a=>
   intro f;cases f with
   |zero=>simp[Df]
   |succ f=>
    have e1:Df (p ::S)= .int .i64 p.1 :: .int .i64 p.2 ::Df S:=rfl;have e2:Df (p ::S.take f)= .int .i64 p.1 :: .int .i64 p.2 ::Df (S.take f):=rfl;rw[e1,show (f+1) * 2=f * 2+1+1 by omega,List.take_succ_cons,List.take_succ_cons,a f,List.take_succ_cons,e2]
 rw[e,Df,Df,List.flatMap_append];simp
theorem LE {w:World}{a base':Nat}{e:TypeId}{size:Nat}{v:Value}{n:Nat}{b:List Value}(h:w.ownsRow a e size v n b)(i:base'≤a):w.ownsRow base' e size v n b:=by
 refine ⟨h.1, ?_⟩;rcases h.2 with c | ⟨g,cap,d,f,h1,h2,h3⟩
 ·exact .inl c
 ·exact .inr ⟨g,cap,d,f,by omega,h2,h3⟩
theorem Ve (S:List (Nat × Nat))(k:Nat)(h:k < S.length):Av (S.take (k+1))=Av (S.take k) ++ [(S[k].1 :Int)]:=by
 rw[zx h,Av,Av,zl];rfl
theorem NI (a:Option Addr)(n c:Nat)(L:List Nd)(w:World)(h:IZ w a n c L):
  Calls Tryz.prog 53 #[.slice a n c] w fun e w'=>Abs w.heap.size (CJ (L.map Nd.kids) n [] 0) e w'∧Below w.heap.size w w':=by
 have bg:=h.small;have aq:=Ab h.len;obtain ⟨aG,aH,aI,aJ,aK⟩:=info_parts Acx;obtain ⟨i,hi,aL,aM,aN⟩:=info_parts Wi;go_enter Tryz.func53,Tryz.ntmps53
 go_wp2_with fail
 go_loopw [4,16] (fun v i wr=>∃ k:Nat,k≤n∧i= .int .i64 k∧Below w.heap.size w wr∧Acy (L.map Nd.kids) w.heap.size k v wr) (fun _ i _=>n - (intOf i).toNat)
 case atStart=>exact ⟨0,by omega,rfl,BRN, [],rfl,by simp,by simp,World.ownsRow_nil _ _ _ _⟩
 case round=>
  obtain ⟨k,hk,rfl,o,S,U,aO,V,W⟩:=hrel;by_cases ae:k < n
  ·have bh:(k:Int) < (n:Int):=by omega
   have ar:k < L.length:=by rw[Aa aq];exact ae
   obtain ⟨b,bi,rfl,bj,an,nn,X,Y,l,Z,aP,c1,c2,c3,c4,au,F⟩:=(h.below o NLN).cells k ar;have H:=Ab (XJ U (show (L.map Nd.kids)[k]? =some L[k].kids by rw[zd,zM ar];rfl));have r:=Ab (show Dv S k L[k].kids=none→CJ (L.map Nd.kids) n [] 0=none from fun e=>XK (k:=k+1) ae (by rw[Aa H,e]));have af:=Ab (fun aQ (aR:Dv S k L[k].kids=some aQ)=>Tq aR aO V);have av:=Ab ae;have aS:=Ab V;clear U V;generalize L[k]=x at aP c1 c2 c3 c4 au F H r af;have bk:=F.small;have t:=Ab F.len;have bl:=Am.new wr #[.int .i64 x.op,.int .i64 x.num,.string x.text,.slice an nn X,.slice Y l Z] 124;have s:=o.alloc o.size (.cells #[.int .i64 x.op,.int .i64 x.num,.string x.text,.slice an nn X,.slice Y l Z] 124);have aT:=(Below.refl wr.heap.size wr).alloc NLN (.cells #[.int .i64 x.op,.int .i64 x.num,.string x.text,.slice an nn X,.slice Y l Z] 124);have ag:=W.alloc (.cells #[.int .i64 x.op,.int .i64 x.num,.string x.text,.slice an nn X,.slice Y l Z] 124);have aU:=F.below aT NLN;obtain ⟨aV,aw,rfl,I⟩:=Af ag;have ah:=Ab I;clear au F I;by_cases hs:S.length < l
   ·have is:(S.length:Int) - (l:Int) < 0:=by omega
    have J:=Ab (Aa r (Tp (by rw[Aa t];exact hs)));clear hs r;go_wp2_with fail
    exact bodyPost_ret (v:= .tuple #[.slice none 0 0,.bool false]) (by simp[results,Tryz.results53,go_sem]) rfl ⟨by rw[Aa J];rfl,s⟩
   ·have is: ¬ ((S.length:Int) - (l:Int) < 0):=by omega
    obtain ⟨f,hf⟩:∃ f,f+l=S.length:=⟨S.length - l,by omega⟩
    have aW:=Ab (show (S.length:Int) - (l:Int)=(f:Int) by omega);have bm:=Ab hf;clear hs;go_wp2_with fail
    rw[Aa aW];go_loop [8,32] (fun d i=>∃ j:Nat,j≤l∧i= .int .i64 j∧d= .int .i64 (Ea ((S.drop f).take j))∧Ea ((S.drop f).take j)≤64∧Ki S f x.kids j) (fun _ i=>l - (intOf i).toNat)
    case atStart=>exact ⟨0,by omega,rfl,rfl,by simp[Ea],Vc _ _ _⟩
    case round=>
     obtain ⟨j,aX,rfl,rfl,aa,ax⟩:=hrel;have ab:=Ab ax;clear ax;by_cases C:j < l
     ·have aY:(j:Int) < (l:Int):=by omega
      obtain ⟨g,rfl,aZ,z⟩:=Aa ah (by omega);have K:f+j < S.length:=by omega
      have ai:j < x.kids.length:=by rw[Aa t];exact C
      obtain ⟨bn,ok,rfl,bo,a0⟩:=aU.cells j ai;obtain ⟨M,N⟩:=Lc S (f+j) K;have aj:=z _ _ M;have ak:=z _ _ N;have hp:=Aa aS S[f+j] (zP K);have O:=Ab (show Ea ((S.drop f).take (j+1))=max (Ea ((S.drop f).take j)) S[f+j].2 by rw[Ih S f j K,ZX]);have P:=Ab (fun e=>Va (i:=k) (ks:=x.kids) (by rw[Aa t];exact hf) ai K e);have Q:=Ab (fun e=>Vd ai K (Aa ab) e);clear M N z ab;generalize S[f+j]=p at aj ak hp O P Q;generalize x.kids[j]=y at a0 P Q;generalize Ea ((S.drop f).take j)=D at aa O;by_cases hy:(p.1:Int)=y
      ·have a1:((p.1:Int) != y)=false:=by rw[hy];simp
       have a2:=Ab (Aa Q hy);clear hy P Q;have R:=Ab C;go_wp2_with fail
       have a3:(Value.int .i64 (if D < p.2 then (p.2:Int) else (D:Int)))= .int .i64 (Ea ((S.drop f).take (j+1))):=by
        rw[Aa O];split <;> congr 1 <;> omega
       (first | rw[a3] | rw[show Value.int .i64 (max (D:Int) (p.2:Int))= .int .i64 (Ea ((S.drop f).take (j+1))) by rw[Aa O];congr 1;omega])
       exact ⟨⟨j+1,Aa R,by go_num,rfl,by rw[Aa O];omega,Aa a2⟩,by have:=Aa R;simp[intOf];omega⟩
      ·have a1:((p.1:Int) != y)=true:=zw.2 hy;have J:=Ab (Aa r (Aa P hy));clear hy P Q r;go_wp2_with fail
       exact bodyPost_ret (v:= .tuple #[.slice none 0 0,.bool false]) (by simp[results,Tryz.results53,go_sem]) rfl ⟨by rw[Aa J];rfl,s⟩
     ·have e:j=l:=by omega
      subst e;have ay:=Ab (XL (by rw[Aa t];exact hf) (by rw[Aa t];exact Aa ab));have a4:=Ab (show (S.drop f).take j=S.drop f from zk (by rw[zj];omega));rw[Aa a4] at aa ⊢;clear ab;by_cases ac:Ea (S.drop f)=64
      ·have al:((Ea (S.drop f):Int)== 64)=true:=zI.2 (by omega);have J:=Ab (Aa r (Vb (by rw[Aa t];exact hf) ac));clear ac r;generalize Ea (S.drop f)=D at aa al ⊢;go_wp2_with fail
       exact bodyPost_ret (v:= .tuple #[.slice none 0 0,.bool false]) (by simp[results,Tryz.results53,go_sem]) rfl ⟨by rw[Aa J];rfl,s⟩
      ·have al:((Ea (S.drop f):Int)== 64)=false:=zA.2 (by omega);have ad:=Ab (ZY (i:=k) (by rw[Aa t];exact hf) (Aa ay) ac);clear ac r ay;generalize Ea (S.drop f)=D at aa al ad ⊢;have az:=Oh (m:=f) ag (by omega);have bp:=ZZ ag;have bq:(f:Int)≤(aw:Int):=by omega
       have a5:=o.size;go_wp2_with (at_builtin;refine wpList_append_own _ rfl _ _ 196 rfl w.heap.size 198 aG (.agg #[.int .i64 0,.int .i64 0]) 2 16 Tryz.underlying196 aH aI aJ aK rfl (by decide) _ _ _ rfl (World.ownsRow.alloc az _) ⟨wr.heap.size+1,0,none⟩ 1 1 [.int .i64 k,.int .i64 ((D:Int)+1)] rfl rfl ?c1 ?c2 ?c3 ?c4 ?c5 ?_)
       case c2=>exact ⟨rfl,rfl⟩
       case c3=>unfold maxLen;omega
       case c4=>omega
       case c5=>omega
       intro a6 a7 aA E _;have a8:=(s.alloc s.size (.cells #[.int .i64 k,.int .i64 ((D:Int)+1)] 198)).grown E (by simp;omega) (fun q hq=>(az.lt q hq).1);clear E;rw[Ts] at aA;go_wp2_with fail
       go_roundw
       case rel=>exact ⟨k+1,Aa av,by go_num,a8,S.take f ++ [(k,D+1)],by rw[Aa H,Aa ad],(Aa af _ (Aa ad)).1,(Aa af _ (Aa ad)).2,by rw[zB,zg,z9,show min f S.length=f by omega];exact aA⟩
       case measure=>have:=Aa av;simp[intOf];omega
  ·have e:k=n:=by omega
   subst e;obtain ⟨aV,aw,rfl,I⟩:=Af W;have H:=Ab U;obtain ⟨A,a9⟩:∃ A,A=wr:=⟨_,rfl⟩
   subst a9;have ah:=Ab I;have ba:=Ab W;have aB:=Ab o;clear U I V W o h aq;go_wp2_with fail
   go_loopw [11,70] (fun v i wr=>∃ j:Nat,j≤S.length∧i= .int .i64 j∧wr.ownsRow A.heap.size 3 1 v (Av (S.take j)).length (AF (Av (S.take j)))∧Below w.heap.size w wr∧Below A.heap.size A wr) (fun _ i _=>S.length - (intOf i).toNat)
   case atStart=>exact ⟨0,by omega,rfl,World.ownsRow_nil _ _ _ _,Aa aB,BRN⟩
   case round=>
    obtain ⟨j,aX,rfl,B,o,T⟩:=hrel;by_cases C:j < S.length
    ·have aY:(j:Int) < (S.length:Int):=by omega
     obtain ⟨g,rfl,aZ,z⟩:=Aa ah (by omega);obtain ⟨M,N⟩:=Lc S j C;have aC:g < A.heap.size:=((Aa ba).lt g rfl).2;have aj:=(T.cell (p:=⟨g,j * 2,none⟩) aC).trans (z _ _ M);have ak:=(T.cell (p:=⟨g,j * 2+1,none⟩) aC).trans (z _ _ N);have ao:=Ab (Ve S j C);have bb:(Av (S.take j)).length≤1048576:=by rw[Av,zv,zg];omega
     have R:=Ab C;clear M N z;generalize S[j]=p at aj ak ao;generalize Av (S.take j)=br at B bb ao;have s:=o.alloc o.size (.cells #[.int .i64 p.1,.int .i64 p.2] 198);have aD:=T.alloc T.size (.cells #[.int .i64 p.1,.int .i64 p.2] 198);have ap:=B.alloc (.cells #[.int .i64 p.1,.int .i64 p.2] 198);obtain ⟨aE,aF,rfl,_⟩:=Af B;have a5:=o.size;have bs:=T.size;have bt:=Am.new wr #[.int .i64 p.1,.int .i64 p.2] 198;go_wp2_with (at_builtin;refine wpList_append_own _ rfl _ _ 28 rfl A.heap.size 3 i (.int .i64 0) 1 8 Tryz.underlying28 hi aL aM aN rfl (by decide) _ _ _ rfl (World.ownsRow.alloc ap _) ⟨wr.heap.size+1,0,none⟩ 1 1 [.int .i64 p.1] rfl rfl ?d1 ?d2 ?d3 ?d4 ?d5 ?_)
     case d1=>exact BD _ _ _ _ (by simp)
     case d2=>intro u hu;simp at hu;subst hu;rfl
     case d3=>unfold maxLen;omega
     case d4=>omega
     case d5=>simp;omega
     intro a6 a7 bc E _;have bd:=(s.alloc s.size (.cells #[.int .i64 p.1] 3)).grown E (by simp;omega) (fun q hq=>by have:=(ap.lt q hq).1;omega);have bf:=(aD.alloc aD.size (.cells #[.int .i64 p.1] 3)).grown E (by simp;omega) (fun q hq=>(ap.lt q hq).1);clear E;go_wp2_with fail
     go_roundw
     case rel=>exact ⟨j+1,Aa R,by go_num,by rw[Aa ao,AF,zl,zB];exact bc,bd,bf⟩
     case measure=>have:=Aa R;simp[intOf];omega
    ·have e:j=S.length:=by omega
     subst e;have e2:S.take S.length=S:=zk NLN;rw[e2] at B;obtain ⟨aE,aF,rfl,_⟩:=Af B;go_wp2_with fail
     refine bodyPost_ret (v:= .tuple #[.slice aE (Av S).length aF,.bool true]) (by simp[results,Tryz.results53,go_sem]) rfl ⟨?_,o⟩
     rw[Aa H];exact ⟨_,rfl,LE (by rw[Ld] at B ⊢;exact B) (Aa aB).size⟩
theorem LM {w:World}{a:Nat}{x:Option Addr}{n c:Nat}{L:List Int}(h:w.ownsRow a 3 1 (.slice x n c) n (AF L))(b:n≤1048576):IP w x n c L:=by
 have hl:L.length=n:=by have:=h.1;rw[AF,zv] at this;omega
 refine ⟨hl,b,fun j d=>?_⟩;obtain ⟨k,l,f,hc⟩:=Af h;cases f;obtain ⟨g,rfl,_,i⟩:=hc (by omega);refine ⟨g,0,rfl,(h.lt g rfl).2, ?_⟩;rw[zW];exact i j _ (by rw[AF,zd,zM d];rfl)
set_option linter.unusedSimpArgs false
theorem Fv (a:Option Addr)(n c:Nat)(L:List Nd)(w:World)(h:IZ w a n c L)(ac:CU w):
  Calls Tryz.prog 52 #[.slice a n c,.func (.func 23) #[] #[]] w fun e w'=>e= .returned (.bool (L.all Aw))∧Below w.heap.size w w':=by
 have aj:=h.small;have T:=Ab h.len;go_enter Tryz.func52,Tryz.ntmps52
 go_wp2_with fail
 go_loopw [9] (fun i wr=>∃ k:Nat,k≤n∧i= .int .i64 k∧Below w.heap.size w wr∧∀ j,(s:j < L.length)→j < k→Aw L[j]=true) (fun i _=>n - (intOf i).toNat)
 case atStart=>exact ⟨0,by omega,rfl,BRN,fun j s h=>absurd h (by omega)⟩
 case round=>
  obtain ⟨k,hk,rfl,A,U⟩:=hrel;have H:=Ab U;clear U;by_cases V:k < n
  ·have ak:(k:Int) < (n:Int):=by omega
   have I:k < L.length:=by rw[Aa T];exact V
   have J:=h.sizes L[k] (zP I);obtain ⟨b,al,rfl,ao,an,nn,l,f,d,g,ad,c1,c2,c3,c4,M,B⟩:=(h.below A NLN).cells k I;have W:=ac.below A NLN;have t:=Ab (show Aw L[k]=false→L.all Aw=false from fun e=>by
    rw[← Bool.not_eq_true,GK];intro ae;rw[ae k I] at e;cases e)
   have C:=Ab (show Aw L[k]=true→∀ j,(s:j < L.length)→j < k+1→Aw L[j]=true from fun e j s ap=>by
    by_cases af:j=k
    ·subst af;exact e
    ·exact Aa H j s (by omega))
   have X:=Ab V;clear H;generalize L[k]=x at ad c1 c2 c3 c4 M B J t C;have N:=Ab (NG x);have Y:=Ab B.len;have q:=Am.new wr #[.int .i64 x.op,.int .i64 x.num,.string x.text,.slice an nn l,.slice f d g] 124;have u:=A.alloc A.size (.cells #[.int .i64 x.op,.int .i64 x.num,.string x.text,.slice an nn l,.slice f d g] 124);have Z:=(Below.refl wr.heap.size wr).alloc NLN (.cells #[.int .i64 x.op,.int .i64 x.num,.string x.text,.slice an nn l,.slice f d g] 124);have aa:=M.below Z NLN;have y:=W.below Z NLN;clear M W B;by_cases r:(d:Int)=Eg x.op
   ·have ek:((d:Int) != Eg x.op)=false:=by rw[r];simp
    cases z:wfB x
    ·have O:=Ab (Aa t (by rw[Aa N,z,Bool.and_false]));have P:=Ab z;clear z r t C;go_wp2_with fail
     have o:Below (wr.alloc (.cells #[.int .i64 x.op,.int .i64 x.num,.string x.text,.slice an nn l,.slice f d g] 124)).heap.size (wr.alloc (.cells #[.int .i64 x.op,.int .i64 x.num,.string x.text,.slice an nn l,.slice f d g] 124)) (wr.alloc (.cells #[.int .i64 x.op,.int .i64 x.num,.string x.text,.slice an nn l,.slice f d g] 124)).drew:=BRN.drew;have Q:=Ig q o;go_region_held3 (fun w'=>w'.cell? ⟨wr.heap.size,0,none⟩=some (.int .i64 x.op)∧w'.cell? ⟨wr.heap.size,1,none⟩=some (.int .i64 x.num)∧w'.cell? ⟨wr.heap.size,2,none⟩=some (.string x.text)∧w'.cell? ⟨wr.heap.size,3,none⟩=some (.slice an nn l)∧w'.cell? ⟨wr.heap.size,4,none⟩=some (.slice f d g)) (first | assumption | go_keep)
      (first
       |(go_at_call 102;refine (GJ _ _ (y.below o NLN).lt (y.below o NLN).cells).mono ?_;rintro e ab ⟨rfl,E⟩;have p:=o.trans (E.mono NLN);have q2:=Ig q p)
       |(go_at_call 23;refine (FT x an nn l f d g _ (aa.below p NLN) J).mono ?_;rintro e ag ⟨rfl,R⟩;rw[Aa P];have F:=p.trans (R.mono p.size);have q3:=Ig q F))
     go_wp2_with fail
     go_ret
     exact ⟨Ah (Aa O).symm,u.trans (F.mono u.size)⟩
    ·have ah:=Ab (Aa C (by rw[Aa N,z,Aa Y,zR r];rfl));have P:=Ab z;clear z r t C;go_wp2_with fail
     have o:Below (wr.alloc (.cells #[.int .i64 x.op,.int .i64 x.num,.string x.text,.slice an nn l,.slice f d g] 124)).heap.size (wr.alloc (.cells #[.int .i64 x.op,.int .i64 x.num,.string x.text,.slice an nn l,.slice f d g] 124)) (wr.alloc (.cells #[.int .i64 x.op,.int .i64 x.num,.string x.text,.slice an nn l,.slice f d g] 124)).drew:=BRN.drew;have Q:=Ig q o;go_region_held3 (fun w'=>w'.cell? ⟨wr.heap.size,0,none⟩=some (.int .i64 x.op)∧w'.cell? ⟨wr.heap.size,1,none⟩=some (.int .i64 x.num)∧w'.cell? ⟨wr.heap.size,2,none⟩=some (.string x.text)∧w'.cell? ⟨wr.heap.size,3,none⟩=some (.slice an nn l)∧w'.cell? ⟨wr.heap.size,4,none⟩=some (.slice f d g)) (first | assumption | go_keep)
      (first
       |(go_at_call 102;refine (GJ _ _ (y.below o NLN).lt (y.below o NLN).cells).mono ?_;rintro e ab ⟨rfl,E⟩;have p:=o.trans (E.mono NLN);have q2:=Ig q p)
       |(go_at_call 23;refine (FT x an nn l f d g _ (aa.below p NLN) J).mono ?_;rintro e ag ⟨rfl,R⟩;rw[Aa P];have F:=p.trans (R.mono p.size);have q3:=Ig q F))
     go_wp2_with fail
     go_roundw
     case rel=>exact ⟨k+1,Aa X,by go_num,u.trans (F.mono u.size),Aa ah⟩
     case measure=>have:=Aa X;simp[intOf];omega
   ·have ek:((d:Int) != Eg x.op)=true:=zw.2 r;have O:=Ab (Aa t (by rw[Aa N,Aa Y,zK r];rfl));clear r t C;go_wp2_with fail
    have o:Below (wr.alloc (.cells #[.int .i64 x.op,.int .i64 x.num,.string x.text,.slice an nn l,.slice f d g] 124)).heap.size (wr.alloc (.cells #[.int .i64 x.op,.int .i64 x.num,.string x.text,.slice an nn l,.slice f d g] 124)) (wr.alloc (.cells #[.int .i64 x.op,.int .i64 x.num,.string x.text,.slice an nn l,.slice f d g] 124)).drew:=BRN.drew;have Q:=Ig q o;refine wp_region_held_drew (S:=(fun w'=>w'.cell? ⟨wr.heap.size,0,none⟩=some (.int .i64 x.op)∧w'.cell? ⟨wr.heap.size,1,none⟩=some (.int .i64 x.num)∧w'.cell? ⟨wr.heap.size,2,none⟩=some (.string x.text)∧w'.cell? ⟨wr.heap.size,3,none⟩=some (.slice an nn l)∧w'.cell? ⟨wr.heap.size,4,none⟩=some (.slice f d g))) rfl Q (fun aq=>?_);refine wpAnyH_take (i:=0) (v:= .pointer (some ⟨wr.heap.size,4,none⟩)) rfl (by kernel_rfl) (by kernel_rfl) (by kernel_rfl) (fun _ _ _ h=>h) (Or.inl ⟨rfl,fun w' m=>by (try dsimp only at m);go_simp⟩) (by assumption) ?_
    simp only[Act.put,z3,z4,z6];refine wpAnyH_take (i:=1) (v:= .slice f d g) rfl (by kernel_rfl) (by kernel_rfl) (by kernel_rfl) (fun _ _ _ h=>h) (Or.inl ⟨rfl,fun w' m=>by (try dsimp only at m);go_simp⟩) (by assumption) ?_
    simp only[Act.put,z3,z4,z6];refine wpAnyH_take (i:=2) (v:= .int .i64 d) rfl (by kernel_rfl) (by kernel_rfl) (by kernel_rfl) (fun _ _ _ h=>h) (Or.inl ⟨rfl,fun w' m=>by (try dsimp only at m);go_simp⟩) (by assumption) ?_
    simp only[Act.put,z3,z4,z6];refine wpAnyH_take (i:=3) (v:= .pointer (some ⟨wr.heap.size,0,none⟩)) rfl (by kernel_rfl) (by kernel_rfl) (by kernel_rfl) (fun _ _ _ h=>h) (Or.inl ⟨rfl,fun w' m=>by (try dsimp only at m);go_simp⟩) (by assumption) ?_
    simp only[Act.put,z3,z4,z6];refine wpAnyH_take (i:=4) (v:= .int .i64 x.op) rfl (by kernel_rfl) (by kernel_rfl) (by kernel_rfl) (fun _ _ _ h=>h) (Or.inl ⟨rfl,fun w' m=>by (try dsimp only at m);go_simp⟩) (by assumption) ?_
    simp only[Act.put,z3,z4,z6];refine wpAnyH_ready (rs:= [5]) (by kernel_rfl) (by simp) ?_;refine AllReadyH.cons rfl (fun K B=>?_) AllReadyH.nil;go_simp
    go_at_call 102
    refine (GJ _ _ (y.below o NLN).lt (y.below o NLN).cells).mono ?_;rintro e ab ⟨rfl,E⟩;have p:=o.trans (E.mono NLN);have q2:=Ig q p;refine B.out _ _ q2 (fun ar=>?_);refine wpAnyH_take (i:=6) (v:= .bool true) rfl (by kernel_rfl) (by kernel_rfl) (by kernel_rfl) (fun _ _ _ h=>h) (Or.inl ⟨rfl,fun w' m=>by (try dsimp only at m);go_simp⟩) (by assumption) ?_
    simp only[Act.put,z3,z4,z6];refine wpAnyH_take (i:=7) (v:= .bool true) rfl (by kernel_rfl) (by kernel_rfl) (by kernel_rfl) (fun _ _ _ h=>h) (Or.inl ⟨rfl,fun w' m=>by (try dsimp only at m);go_simp⟩) (by assumption) ?_
    simp only[Act.put,z3,z4,z6];refine wpAnyH_take (i:=8) (v:=undef) rfl (by kernel_rfl) (by kernel_rfl) (by kernel_rfl) (fun _ _ _ h=>h) (Or.inr ⟨rfl,rfl⟩) (by assumption) ?_;simp only[Act.put,z3,z4,z6];refine wpAnyH_take (i:=9) (v:=undef) rfl (by kernel_rfl) (by kernel_rfl) (by kernel_rfl) (fun _ _ _ h=>h) (Or.inr ⟨rfl,rfl⟩) (by assumption) ?_;simp only[Act.put,z3,z4,z6];refine wpAnyH_take (i:=10) (v:=undef) rfl (by kernel_rfl) (by kernel_rfl) (by kernel_rfl) (fun _ _ _ h=>h) (Or.inr ⟨rfl,rfl⟩) (by assumption) ?_;simp only[Act.put,z3,z4,z6];refine wpAnyH_take (i:=11) (v:=undef) rfl (by kernel_rfl) (by kernel_rfl) (by kernel_rfl) (fun _ _ _ h=>h) (Or.inr ⟨rfl,rfl⟩) (by assumption) ?_;simp only[Act.put,z3,z4,z6];refine wpAnyH_take (i:=12) (v:= .bool true) rfl (by kernel_rfl) (by kernel_rfl) (by kernel_rfl) (fun _ _ _ h=>h) (Or.inl ⟨rfl,fun w' m=>by (try dsimp only at m);go_simp⟩) (by assumption) ?_
    simp only[Act.put,z3,z4,z6];refine wpAnyH_done (by kernel_rfl) ?_ _;go_wp2_with fail
    go_ret
    exact ⟨Ah (Aa O).symm,u.trans (p.mono u.size)⟩
  ·have e:k=n:=by omega
   subst e;have ai:=Ab (show L.all Aw=true from (GK L).2 (fun j s=>Aa H j s (by have:=Aa T;omega)));go_wp2
   go_ret
   exact ⟨Ah (Aa ai).symm,A⟩
structure Ac3 (w:World) (a:Option Addr) (n c:Nat) (L:List Int):Prop where
 len:L.length=n
 cap:n≤c
 small:c≤maxLen
 cells:∀ j,(h:j < L.length)→∃ b off,a=some ⟨b,off,none⟩∧b < w.heap.size∧w.cell? ⟨b,off+j,none⟩=some (.int .i64 L[j])
def Ac4 (w:World) (b o:Nat) (x:Nd):Prop:=∃ an nn cn ak nk ck,w.cell? ⟨b,o,none⟩=some (.int .i64 x.op)∧w.cell? ⟨b,o+1,none⟩=some (.int .i64 x.num)∧w.cell? ⟨b,o+2,none⟩=some (.string x.text)∧w.cell? ⟨b,o+3,none⟩=some (.slice an nn cn)∧w.cell? ⟨b,o+4,none⟩=some (.slice ak nk ck)∧BL w an nn cn x.names∧Ac3 w ak nk ck x.kids
structure AdZ (w:World) (a:Option Addr) (n c:Nat) (L:List Nd):Prop where
 len:L.length=n
 cap:n≤c
 small:c≤maxLen
 sizes:∀ x∈L,x.text.size≤maxLen
 cells:∀ j,(h:j < L.length)→∃ b off,a=some ⟨b,off,none⟩∧b < w.heap.size∧Ac4 w b (off+j * 5) L[j]
structure Ad0 (w:World) (a:Option Addr) (n c:Nat) (L:List St):Prop where
 len:L.length=n
 cap:n≤c
 small:c≤maxLen
 sizes:∀ s∈L,s.name.size≤maxLen
 cells:∀ j,(h:j < L.length)→∃ b off,a=some ⟨b,off,none⟩∧b < w.heap.size∧w.cell? ⟨b,off+j * 4,none⟩=some (.int .i64 L[j].kind)∧w.cell? ⟨b,off+j * 4+1,none⟩=some (.string L[j].name)∧w.cell? ⟨b,off+j * 4+2,none⟩=some (.int .i64 L[j].cond)∧w.cell? ⟨b,off+j * 4+3,none⟩=some (.int .i64 L[j].grant)
theorem Abl {x:ByteArray}{q:Nat}(h:q < x.size):x[q]∈Aj x:=by
 have a:q < (Aj x).length:=by rw[At];exact h
 exact zP (l:=Aj x) a
theorem NA {s:ByteArray}{j k:Nat}(h:k < s.size)(b:j≤k):BH ((Aj s).drop j) (k - j)=(Jt s[k] || decide (s[k]=95)):=by
 have e:((Aj s).drop j)[k - j]? =some s[k]:=by
  have a:k < (Aj s).length:=by rw[At];exact h
  rw[List.getElem?_drop,show j+(k - j)=k by omega,zM a];rfl
 rw[BH,e]
theorem LJ {s:ByteArray}{j k:Nat}(h:s.size≤k):BH ((Aj s).drop j) (k - j)=false:=by
 have e:((Aj s).drop j)[k - j]? =none:=by
  rw[List.getElem?_eq_none];rw[zj,At];omega
 rw[BH,e]
theorem ZR {c:UInt8}(h:(c.toNat:Int)=95):c=95:=UInt8.toNat_inj.1 (by have:(95 :UInt8).toNat=95:=rfl;omega)
theorem Wg {c:UInt8}(h: ¬ (c.toNat:Int)=95): ¬ c=95:=fun e=>h (by rw[e];rfl)
theorem Wh {r:List UInt8}{n:Nat}(b:AR CK r=n)(c:n=19):(r.take n < Nx↔DZ (r.take n) < 9223372036854775807)∧(Nx < r.take n↔9223372036854775807 < DZ (r.take n)):=by
 have h:=GI CK r;have hl:(r.take n).length=Nx.length:=by
  rw[zg];show _=19;omega
 have a:(r.take n).all CK=true:=by rw[← b];exact Ep CK r
 have hm:Nx.all CK=true:=by decide
 have h1:=U7 _ _ hl a hm;have h2:=U7 _ _ hl.symm hm a;rw[ZQ] at h1 h2;exact ⟨h1,h2⟩
theorem ZS {x:ByteArray}{l:List UInt8}(hx:Aj x=l):Op.bytesLess x.toList [57,50,50,51,51,55,50,48,51,54,56,53,52,55,55,53,56,48,55]=true↔l < Nx:=by
 have h0:Op.bytesLess x.toList [57,50,50,51,51,55,50,48,51,54,56,53,52,55,55,53,56,48,55]=sl x (AB Nx):=by
  unfold sl;rw[zZ (AB Nx)];rfl
 rw[h0,Mg,← hx];exact Iff.rfl
theorem ZT {r:List UInt8}{n:Nat}(a:AR CK r=n)(b:n=19){x:ByteArray}(hx:Aj x=r.take n)(h:Op.bytesLess x.toList [57,50,50,51,51,55,50,48,51,54,56,53,52,55,55,53,56,48,55]=true):DZ (r.take n)≤9223372036854775807:=by
 have:=(Wh a b).1.1 ((ZS hx).1 h);omega
theorem ZU {r:List UInt8}{n:Nat}{x:ByteArray}(hx:Aj x=r.take n)(h:(x.toList== [57,50,50,51,51,55,50,48,51,54,56,53,52,55,55,53,56,48,55])=true):DZ (r.take n)≤9223372036854775807:=by
 rw[zI,zZ] at h;have e:Aj x=Nx:=h;rw[← hx,e,ZQ];omega
theorem XD {r:List UInt8}{n:Nat}(b:AR CK r=n)(c:n=19){x:ByteArray}(hx:Aj x=r.take n)(h:Op.bytesLess x.toList [57,50,50,51,51,55,50,48,51,54,56,53,52,55,55,53,56,48,55]=false)
  (a:(x.toList== [57,50,50,51,51,55,50,48,51,54,56,53,52,55,55,53,56,48,55])=false): 9223372036854775807 < DZ (r.take n):=by
 refine (Wh b c).2.1 ?_;have h1: ¬ r.take n < Nx:=fun k=>by rw[(ZS hx).2 k] at h;cases h
 rw[zA,zZ] at a;have h2:r.take n≠Nx:=fun k=>a (hx.trans k);rcases List.le_iff_lt_or_eq.1 (List.not_lt.1 h1) with k | k
 ·exact k
 ·exact absurd k.symm h2
theorem XE {r:List UInt8}{n:Nat}(a:AR CK r=n)(b:n≤18):DZ (r.take n)≤9223372036854775807:=by
 have:=GI CK r;have c:=Ef n (r.take n) (by rw[zg];omega) (by rw[← a];exact Ep CK r);have h1: 10 ^ n≤10 ^ 18:=Nat.pow_le_pow_right (n:=10) (by decide) b;have e1: 10 ^ 18=1000000000000000000:=rfl;have h2:(10 :Int) ^ n≤1000000000000000000:=by
  show ((10 :Nat):Int) ^ n≤_;rw[← Int.natCast_pow];omega
 omega
theorem XF {r:List UInt8}{n:Nat}(a:AR CK r=n){x:ByteArray}(hx:Aj x=r.take n): 19 < n∨(n=19∧Op.bytesLess x.toList [57,50,50,51,51,55,50,48,51,54,56,53,52,55,55,53,56,48,55]=false∧(x.toList== [57,50,50,51,51,55,50,48,51,54,56,53,52,55,55,53,56,48,55])=false∧9223372036854775807 < DZ (r.take n))∨(n=19∧Op.bytesLess x.toList [57,50,50,51,51,55,50,48,51,54,56,53,52,55,55,53,56,48,55]=false∧(x.toList== [57,50,50,51,51,55,50,48,51,54,56,53,52,55,55,53,56,48,55])=true∧DZ (r.take n)≤9223372036854775807)∨(n=19∧Op.bytesLess x.toList [57,50,50,51,51,55,50,48,51,54,56,53,52,55,55,53,56,48,55]=true∧DZ (r.take n)≤9223372036854775807)∨(n < 19∧DZ (r.take n)≤9223372036854775807):=by
 rcases Nat.lt_trichotomy n 19 with h | h | h
 ·exact .inr (.inr (.inr (.inr ⟨h,XE a (by omega)⟩)))
 ·cases h1:Op.bytesLess x.toList [57,50,50,51,51,55,50,48,51,54,56,53,52,55,55,53,56,48,55]
  ·cases h2:(x.toList== [57,50,50,51,51,55,50,48,51,54,56,53,52,55,55,53,56,48,55])
   ·exact .inr (.inl ⟨h,rfl,rfl,XD a h hx h1 h2⟩)
   ·exact .inr (.inr (.inl ⟨h,rfl,rfl,ZU hx h2⟩))
  ·exact .inr (.inr (.inr (.inl ⟨h,rfl,ZT a h hx h1⟩)))
 ·exact .inl h
theorem XC (s:ByteArray)(j:Nat)(w:World)(hs:s.size≤1048576)(L:j < s.size)(hl:I2 (s[j].toNat:Int)=false)(M:dgI (s[j].toNat:Int)=true):
  Calls Tryz.prog 34 #[.string s,.int .i64 j] w fun e w'=>GM j (CX ((Aj s).drop j)) e∧Below w.heap.size w w':=by
 have aq:(j:Int) < (s.size:Int):=by omega
 obtain ⟨ar,au⟩:=Wf (p:=CK) (s:=s) (Nat.le_of_lt L);have av:=Ab (En CK s j);obtain ⟨aw,Z,n,A,B,ax⟩:=II w j;have aa:=Ab hl;have ab:=Ab M;clear hl M;go_enter Tryz.func34,Tryz.ntmps34
 go_wp2_with (first | (go_at_call 69;refine (A8 _ _).mono ?_;rintro e w' ⟨rfl,d⟩;rw[Aa aa,d];clear d) | (go_at_call 72;refine (BU _ _).mono ?_;rintro e w' ⟨rfl,d⟩;rw[Aa ab,d];clear d))
 clear Z;go_loop [10] (fun i=>∃ k:Nat,j≤k∧k≤s.size∧i= .int .i64 k∧DF CK s j=DF CK s k) (fun i=>s.size - (intOf i).toNat)
 case atStart=>exact ⟨j,NLN,Nat.le_of_lt L,rfl,rfl⟩
 case round=>
  obtain ⟨k,ac,hk,rfl,he⟩:=hrel;have N:=Ab he;clear he;have o:∀ (hq:DF CK s k=k),DF CK s j=k:=fun hq=>by rw[Aa N,hq]
  obtain ⟨O,c1,c2,c3,P⟩:=AU A;obtain ⟨Q,d1,d2,d3,R⟩:=AU n;by_cases C:k < s.size
  case' neg=>
   have g:=Ab (show AR CK ((Aj s).drop j)=k - j by have:=o (Gp (by omega));have:=En CK s j;omega);have l:=Ab (show BH ((Aj s).drop j) (k - j)=false from LJ (by omega));have ad: ¬ ((k:Int) < (s.size:Int)):=by omega
   clear o
  case' pos=>
   have ad:(k:Int) < (s.size:Int):=by omega
   cases f:CK s[k]
   case true=>
    have ae:=Ab (Fa C f);have r:=Ab (show dgI (s[k].toNat:Int)=true from f);clear f;go_wp2_with (go_at_call 72;refine (BU _ _).mono ?_;rintro e w' ⟨rfl,d⟩;rw[Aa r,d];clear d)
    go_round
    case rel=>exact ⟨k+1,by omega,by omega,by go_num,by rw[Aa N,Aa ae]⟩
    case measure=>simp[intOf];omega
   have g:=Ab (show AR CK ((Aj s).drop j)=k - j by have:=o (E9 C f);have:=En CK s j;omega);have r:=Ab (show dgI (s[k].toNat:Int)=false from f);have t:=NA C ac;clear f o;cases u:I2 (s[k].toNat:Int)
   case' true=>have l:=Ab (show BH ((Aj s).drop j) (k - j)=true by rw[t];simp[Jt,u])
   case' false=>
    by_cases E:(s[k].toNat:Int)=95
    case' pos=>have l:=Ab (show BH ((Aj s).drop j) (k - j)=true by rw[t];simp[Jt,ZR E])
    case' neg=>
     have l:=Ab (show BH ((Aj s).drop j) (k - j)=false by rw[t];simp[Jt,u,Wg E]);have ay:=zA.2 E
   all_goals
    have S:=Ab u;clear u t
  all_goals
   have az:(s.extract j k).size=k - j:=by rw[zt];omega
   have y:=Ab (BV s j k);rcases XF (Aa g) (Aa y) with h | ⟨h,T,af,h2⟩ | ⟨h,T,af,h2⟩ | ⟨h,T,h2⟩ | ⟨h,h2⟩
  all_goals
   first
   |have ag:(19 :Int) < (k:Int) - (j:Int):=by omega
   |have ag: ¬ ((19 :Int) < (k:Int) - (j:Int)):=by omega
    have F:=Ab h2;clear h2
    first
    |have ah:(((k - j:Nat):Int)== 19)=true:=by rw[h];rfl
    |have ah:(((k - j:Nat):Int)== 19)=false:=zA.2 (by omega)
   first
   |have ai:=Ab (show ∀ p,(19 < k - j→p)→(BH ((Aj s).drop j) (k - j)=true→p)→(9223372036854775807 < DZ (((Aj s).drop j).take (k - j))→p)→p from fun p a b c=>by first | exact a h | exact b (Aa l) | exact c (Aa F))
    go_wp2_with (first | (go_at_call 72;refine (BU _ _).mono ?_;rintro e w' ⟨rfl,d⟩;(first | rw[Aa r,d] | rw[show dgI 95=false from by decide,d]);clear d) | (go_at_call 69;refine (A8 _ _).mono ?_;rintro e w' ⟨rfl,d⟩;(first | rw[Aa S,d] | rw[show I2 95=false from by decide,d]);clear d))
    have H:=Ao (b:=w.heap.size) (B.setCell (p:=⟨w.heap.size+1,0,none⟩) (by show w.heap.size≤w.heap.size+1;omega) (.int .i64 1)) NLN (.int .i64 1) (.int .i64 0) (.string ⟨#[]⟩) (.int .i64 j);obtain ⟨m,g1,g2,g3,_⟩:=AU (AI (n.setFar (p:=⟨w.heap.size+1,0,none⟩) (by show w.heap.size≠w.heap.size+1;omega) (.int .i64 1)) (.int .i64 1) (.int .i64 0) (.string ⟨#[]⟩) (.int .i64 j));simp only[CC] at m g1 g2 g3;refine bodyPost_ret (AA Tryz.results34 rfl m g1 g2 g3) rfl ⟨?_,H⟩;rw[CX,if_pos (by rw[Aa g];exact Aa ai _ .inl (fun h=> .inr (.inl h)) (fun h=> .inr (.inr h)))];exact ⟨_,_,_,_,rfl⟩
   |go_wp2_with (first | (go_at_call 72;refine (BU _ _).mono ?_;rintro e w' ⟨rfl,d⟩;(first | rw[Aa r,d] | rw[show dgI 95=false from by decide,d]);clear d) | (go_at_call 69;refine (A8 _ _).mono ?_;rintro e w' ⟨rfl,d⟩;(first | rw[Aa S,d] | rw[show I2 95=false from by decide,d]);clear d))
    generalize s.extract j k=x at *;have I:=Ab (show (Aj x).all CK=true by rw[Aa y,← Aa g];exact Ep CK _);have aj:=Ab (show DZ (Aj x)≤9223372036854775807 by rw[Aa y];exact Aa F);go_loopw [12] (fun i wr=>∃ (q:Nat) (v:Int),q≤k - j∧i= .int .i64 q∧v=DZ ((Aj x).take q)∧Am wr w.heap.size #[.int .i64 0,.int .i64 0,.string ⟨#[]⟩,.int .i64 0] 42∧Am wr (w.heap.size+1) #[.int .i64 1,.int .i64 v,.string ⟨#[]⟩,.int .i64 j] 42∧Below w.heap.size w wr) (fun i _=>(k - j) - (intOf i).toNat)
    case atStart=>exact ⟨0,0,zN _,rfl,rfl,n.setFar (p:=⟨w.heap.size+1,0,none⟩) (by show w.heap.size≠w.heap.size+1;omega) (.int .i64 1),A.set 0 (.int .i64 1),B.setCell (p:=⟨w.heap.size+1,0,none⟩) (by show w.heap.size≤w.heap.size+1;omega) (.int .i64 1)⟩
    case round=>
     obtain ⟨q,v,hq,rfl,z,J,U,V⟩:=hrel;clear O c1 c2 c3 P Q d1 d2 d3 R n A B;obtain ⟨O,c1,c2,c3,P⟩:=AU U;obtain ⟨Q,d1,d2,d3,R⟩:=AU J;by_cases aA:q < k - j
     ·have W:q < x.size:=by omega
      have ak:(q:Int) < ((k - j:Nat):Int):=by omega
      have X:CK x[q]=true:=z1.1 (Aa I) _ (Abl W);obtain ⟨b1,b2⟩:=(QM _).1 X;have Y:v * 10+((x[q].toNat:Int) - 48)=DZ ((Aj x).take (q+1)):=by rw[Aj,Iz x q W,Md,← Aj,← z]
      have al:=LI (q+1) (Aj x) (Aa I);have ao:=(LI q (Aj x) (Aa I)).1;have ap:=Aa aj;have aB: 0≤v:=by omega
      have aC:v * 10+((x[q].toNat:Int) - 48)≤9223372036854775807:=by omega
      have K:=Ab Y;clear Y al ao ap z X;go_wp2
      go_region
      go_wp2
      go_roundw
      case rel=>exact ⟨q+1,v * 10+((x[q].toNat:Int) - 48),by omega,by go_num,Aa K,⟨(J.setFar (p:=⟨w.heap.size+1,1,none⟩) (by show w.heap.size≠w.heap.size+1;omega) (.int .i64 (v * 10+((x[q].toNat:Int) - 48)))).out⟩,⟨(U.set 1 (.int .i64 (v * 10+((x[q].toNat:Int) - 48)))).out⟩,(V.setCell (p:=⟨w.heap.size+1,1,none⟩) (by show w.heap.size≤w.heap.size+1;omega) (.int .i64 (v * 10+((x[q].toNat:Int) - 48)))).drew⟩
      case measure=>simp[intOf];omega
     ·have ak: ¬ ((q:Int) < ((k - j:Nat):Int)):=by omega
      have K:=Ab (show v=DZ (((Aj s).drop j).take (k - j)) by rw[z,← Aa y,zk (by rw[At];omega)]);clear z;go_wp2_with fail
      have H:=Ao (b:=w.heap.size) V NLN (.int .i64 1) (.int .i64 v) (.string ⟨#[]⟩) (.int .i64 j);obtain ⟨m,g1,g2,g3,_⟩:=AU (AI J (.int .i64 1) (.int .i64 v) (.string ⟨#[]⟩) (.int .i64 j));simp only[CC] at m g1 g2 g3;refine bodyPost_ret (AA Tryz.results34 rfl m g1 g2 g3) rfl ⟨?_,H⟩;rw[CX,Aa g,if_neg (by rintro (h | h | h);omega;rw[Aa l] at h;cases h;have:=Aa F;omega),← Aa K];simp only[GM];rw[show j+(k - j)=k by omega];rfl
theorem ZV {s:ByteArray}{j k:Nat}(h:s.size≤k)(a:j+1≤k):((Aj s).drop (j+1))[k - (j+1)]? ≠some 34:=by
 rw[List.getElem?_eq_none (by rw[zj,At];omega)];simp
theorem Abm {s:ByteArray}{j k:Nat}(h:k < s.size)(b:j+1≤k):((Aj s).drop (j+1))[k - (j+1)]? =some s[k]:=by
 have a:k < (Aj s).length:=by rw[At];exact h
 rw[List.getElem?_drop,show j+1+(k - (j+1))=k by omega,zM a];rfl
theorem U5 (s:ByteArray)(j:Nat)(w:World)(hs:s.size≤1048576)(x:j < s.size)(hq:(s[j].toNat:Int)=34):
  Calls Tryz.prog 34 #[.string s,.int .i64 j] w fun e w'=>GM j (BP ((Aj s).drop (j+1))) e∧Below w.heap.size w w':=by
 have H:(j:Int) < (s.size:Int):=by omega
 obtain ⟨I,y,g,z,m,J⟩:=II w j;go_enter Tryz.func34,Tryz.ntmps34
 go_wp2_with (first | (go_at_call 69;refine (A8 _ _).mono ?_;rintro e w' ⟨rfl,a⟩;rw[show I2 34=false from by decide,a];clear a) | (go_at_call 72;refine (BU _ _).mono ?_;rintro e w' ⟨rfl,a⟩;rw[show dgI 34=false from by decide,a];clear a))
 clear y;obtain ⟨K,c1,c2,c3,L⟩:=AU z;obtain ⟨M,d1,d2,d3,N⟩:=AU g;go_loop [13] (fun i=>∃ k:Nat,j+1≤k∧k≤s.size∧i= .int .i64 k∧DF Jo s (j+1)=DF Jo s k) (fun i=>s.size - (intOf i).toNat)
 case atStart=>exact ⟨j+1,NLN,x,by go_num,rfl⟩
 case round=>
  obtain ⟨k,t,hk,rfl,he⟩:=hrel;have u:=Ab he;clear he;have o:∀ (hq:DF Jo s k=k),DF Jo s (j+1)=k:=fun hq=>by rw[Aa u,hq]
  by_cases q:k < s.size
  ·have A:(k:Int) < (s.size:Int):=by omega
   cases f:Jo s[k]
   ·have l:=Ab (show AR Jo ((Aj s).drop (j+1))=k - (j+1) by have:=o (E9 q f);have:=En Jo s (j+1);omega);have r:=Ab (show TG (s[k].toNat:Int)=false from f);have n:=Ab (Abm q t);clear f o;by_cases v:(s[k].toNat:Int)=34
    ·have B:=Ab (show s[k]=34 from UInt8.toNat_inj.1 (by have:(34 :UInt8).toNat=34:=rfl;omega));by_cases C: 32 < k - (j+1)
     ·have E:(32 :Int) < (k:Int) - (j:Int) - 1:=by omega
      go_wp2_with (go_at_call 73;refine (CA _ _).mono ?_;rintro e w' ⟨rfl,a⟩;rw[show TG 34=false from by decide,a];clear a)
      have d:=Ao (b:=w.heap.size) (m.setCell (p:=⟨w.heap.size+1,0,none⟩) (by show w.heap.size≤w.heap.size+1;omega) (.int .i64 2)) NLN (.int .i64 2) (.int .i64 0) (.string ⟨#[]⟩) (.int .i64 j);obtain ⟨c,g1,g2,g3,_⟩:=AU (AI (g.setFar (p:=⟨w.heap.size+1,0,none⟩) (by show w.heap.size≠w.heap.size+1;omega) (.int .i64 2)) (.int .i64 2) (.int .i64 0) (.string ⟨#[]⟩) (.int .i64 j));simp only[CC] at c g1 g2 g3;refine bodyPost_ret (AA Tryz.results34 rfl c g1 g2 g3) rfl ⟨?_,d⟩;rw[BP,if_pos (.inl (by rw[Aa l];exact C))];exact ⟨_,_,_,_,rfl⟩
     ·have E: ¬ ((32 :Int) < (k:Int) - (j:Int) - 1):=by omega
      go_wp2_with (go_at_call 73;refine (CA _ _).mono ?_;rintro e w' ⟨rfl,a⟩;rw[show TG 34=false from by decide,a];clear a)
      have d:=Ao (b:=w.heap.size) ((m.setCell (p:=⟨w.heap.size+1,0,none⟩) (by show w.heap.size≤w.heap.size+1;omega) (.int .i64 2)).setCell (p:=⟨w.heap.size+1,2,none⟩) (by show w.heap.size≤w.heap.size+1;omega) (.string (s.extract (j+1) k))) NLN (.int .i64 2) (.int .i64 0) (.string (s.extract (j+1) k)) (.int .i64 j);obtain ⟨c,g1,g2,g3,_⟩:=AU (AI ((g.setFar (p:=⟨w.heap.size+1,0,none⟩) (by show w.heap.size≠w.heap.size+1;omega) (.int .i64 2)).setFar (p:=⟨w.heap.size+1,2,none⟩) (by show w.heap.size≠w.heap.size+1;omega) (.string (s.extract (j+1) k))) (.int .i64 2) (.int .i64 0) (.string (s.extract (j+1) k)) (.int .i64 j));simp only[CC] at c g1 g2 g3;refine bodyPost_ret (AA Tryz.results34 rfl c g1 g2 g3) rfl ⟨?_,d⟩;rw[BP,Aa l,Aa n,if_neg (by rintro (h | h);omega;exact h (by rw[Aa B])),QK];simp only[GM];rw[show ((j+(k - (j+1)+2):Nat):Int)=(k:Int)+1 by omega];rfl
    ·have O:=zA.2 v;go_wp2_with (go_at_call 73;refine (CA _ _).mono ?_;rintro e w' ⟨rfl,a⟩;rw[Aa r,a];clear a)
     have d:=Ao (b:=w.heap.size) (m.setCell (p:=⟨w.heap.size+1,0,none⟩) (by show w.heap.size≤w.heap.size+1;omega) (.int .i64 2)) NLN (.int .i64 2) (.int .i64 0) (.string ⟨#[]⟩) (.int .i64 j);obtain ⟨c,g1,g2,g3,_⟩:=AU (AI (g.setFar (p:=⟨w.heap.size+1,0,none⟩) (by show w.heap.size≠w.heap.size+1;omega) (.int .i64 2)) (.int .i64 2) (.int .i64 0) (.string ⟨#[]⟩) (.int .i64 j));simp only[CC] at c g1 g2 g3;refine bodyPost_ret (AA Tryz.results34 rfl c g1 g2 g3) rfl ⟨?_,d⟩;rw[BP,if_pos (.inr (by rw[Aa l,Aa n];exact fun e=>v (by rw[Option.some.inj e];rfl)))];exact ⟨_,_,_,_,rfl⟩
   ·have F:=Ab (Fa q f);have r:=Ab (show TG (s[k].toNat:Int)=true from f);clear f;go_wp2_with (go_at_call 73;refine (CA _ _).mono ?_;rintro e w' ⟨rfl,a⟩;rw[Aa r,a];clear a)
    go_round
    case rel=>exact ⟨k+1,by omega,by omega,by go_num,by rw[Aa u,Aa F]⟩
    case measure=>simp[intOf];omega
  ·have l:=Ab (show AR Jo ((Aj s).drop (j+1))=k - (j+1) by have:=o (Gp (by omega));have:=En Jo s (j+1);omega);have n:=Ab (ZV (s:=s) (j:=j) (k:=k) (by omega) t);have A: ¬ ((k:Int) < (s.size:Int)):=by omega
   have P:(s.size:Int)≤(k:Int):=by omega
   go_wp2_with fail
   have d:=Ao (b:=w.heap.size) (m.setCell (p:=⟨w.heap.size+1,0,none⟩) (by show w.heap.size≤w.heap.size+1;omega) (.int .i64 2)) NLN (.int .i64 2) (.int .i64 0) (.string ⟨#[]⟩) (.int .i64 j);obtain ⟨c,g1,g2,g3,_⟩:=AU (AI (g.setFar (p:=⟨w.heap.size+1,0,none⟩) (by show w.heap.size≠w.heap.size+1;omega) (.int .i64 2)) (.int .i64 2) (.int .i64 0) (.string ⟨#[]⟩) (.int .i64 j));simp only[CC] at c g1 g2 g3;refine bodyPost_ret (AA Tryz.results34 rfl c g1 g2 g3) rfl ⟨?_,d⟩;rw[BP,if_pos (.inr (by rw[Aa l];exact Aa n))];exact ⟨_,_,_,_,rfl⟩
def KY (L:List UInt8):Array Value:=(L.map fun c=>Value.int .u8 (c.toNat:Int)).toArray
theorem Pw {L:List UInt8}{k:Nat}{x:UInt8}(h:L[k]? =some x):(KY L)[k]? =some (.int .u8 (x.toNat:Int)):=by
 simp[KY,h]
def GG (L:List UInt8) (k:Nat) (c:UInt8):Prop:=∀ i,i < k→L[i]? ≠some c
theorem GG.next {L:List UInt8}{k:Nat}{c x:UInt8}(h:GG L k c)(hx:L[k]? =some x)(a:((c.toNat:Int)==(x.toNat:Int))=false):GG L (k+1) c:=fun i hi e=>by
 by_cases hk:i=k
 ·subst hk;rw[hx] at e;rw[zA] at a;exact a (by rw[Option.some.inj e])
 ·exact h i (by omega) e
theorem GG.all {L:List UInt8}{c:UInt8}(h:GG L L.length c):L.contains c=false:=by
 rw[← Bool.not_eq_true,yB];intro hm;obtain ⟨i,hi,e⟩:=yE hm;exact h i hi (by rw[zM hi,e])
theorem Th {L:List UInt8}{k:Nat}{c x:UInt8}(hx:L[k]? =some x)(a:((c.toNat:Int)==(x.toNat:Int))=true):L.contains c=true:=by
 rw[zI] at a;have e:c=x:=UInt8.toNat_inj.1 (by omega);rw[e,yB];exact Z7 hx
theorem XB {s:ByteArray}{j:Nat}(h: ¬ j+1 < s.size):BQ.contains (((Aj s).drop j).take 2)=false:=by
 rw[← Bool.not_eq_true,yB];intro hm;have hl:(((Aj s).drop j).take 2).length≤1:=by rw[zg,zj,At];omega
 have:∀ x∈BQ,x.length=2:=by decide
 have:=this _ hm;omega
theorem Ti {s:ByteArray}{j:Nat}(h:j < s.size):s.extract j (j+1)=AB [s[j]]:=by
 rw[QK,BI s j h,show j+1 - j=1 by omega];rfl
theorem U4 (s:ByteArray)(j:Nat)(w:World)(hs:s.size≤1048576)(O:j < s.size)(hl:I2 (s[j].toNat:Int)=false)(P:dgI (s[j].toNat:Int)=false)(hq: ¬ (s[j].toNat:Int)=34):
  Calls Tryz.prog 34 #[.string s,.int .i64 j] w fun e w'=>GM j (Be s[j] ((Aj s).drop j)) e∧Below w.heap.size w w':=by
 have ad:(j:Int) < (s.size:Int):=by omega
 have ae:=zA.2 hq;obtain ⟨f,Q,R,E,S,T⟩:=II w j;have U:=Ab hl;have V:=Ab P;clear hl P;obtain ⟨n,c1,c2,c3,o⟩:=AU E;have F:=E.set 0 (.int .i64 5);have I:=R.setFar (p:=⟨w.heap.size+1,0,none⟩) (by show w.heap.size≠w.heap.size+1;omega) (.int .i64 5);have PB:=S.setCell (p:=⟨w.heap.size+1,0,none⟩) (by show w.heap.size≤w.heap.size+1;omega) (.int .i64 5);have u:(f.setCell ⟨w.heap.size+1,0,none⟩ (.int .i64 5)).heap.size=w.heap.size+2:=by simp[T]
 simp only[z3,z4] at F;by_cases h2:j+1 < s.size
 ·have Z:(j:Int)+1 < (s.size:Int):=by omega
  have af:(j:Int)+2≤(s.size:Int):=by omega
  have H:=I.alloc (.cells #[.string ⟨#[61,62]⟩,.string ⟨#[61,61]⟩,.string ⟨#[33,61]⟩,.string ⟨#[60,61]⟩] 9);have J:=F.alloc (.cells #[.string ⟨#[61,62]⟩,.string ⟨#[61,61]⟩,.string ⟨#[33,61]⟩,.string ⟨#[60,61]⟩] 9);have K:=PB.alloc (by omega) (.cells #[.string ⟨#[61,62]⟩,.string ⟨#[61,61]⟩,.string ⟨#[33,61]⟩,.string ⟨#[60,61]⟩] 9);have L:Am ((f.setCell ⟨w.heap.size+1,0,none⟩ (.int .i64 5)).alloc (.cells #[.string ⟨#[61,62]⟩,.string ⟨#[61,61]⟩,.string ⟨#[33,61]⟩,.string ⟨#[60,61]⟩] 9)) (f.setCell ⟨w.heap.size+1,0,none⟩ (.int .i64 5)).heap.size (KZ BQ) 9:=Am.new (f.setCell ⟨w.heap.size+1,0,none⟩ (.int .i64 5)) (KZ BQ) 9;rw[u] at L;have M:((f.setCell ⟨w.heap.size+1,0,none⟩ (.int .i64 5)).alloc (.cells #[.string ⟨#[61,62]⟩,.string ⟨#[61,61]⟩,.string ⟨#[33,61]⟩,.string ⟨#[60,61]⟩] 9)).heap.size=w.heap.size+3:=by rw[World.size_alloc,u]
  go_enter Tryz.func34,Tryz.ntmps34
  go_wp2_with (first | (go_at_call 69;refine (A8 _ _).mono ?_;rintro e w' ⟨rfl,g⟩;rw[Aa U,g];clear g) | (go_at_call 72;refine (BU _ _).mono ?_;rintro e w' ⟨rfl,g⟩;rw[Aa V,g];clear g))
  clear Q;generalize (f.setCell ⟨w.heap.size+1,0,none⟩ (.int .i64 5)).alloc (.cells #[.string ⟨#[61,62]⟩,.string ⟨#[61,61]⟩,.string ⟨#[33,61]⟩,.string ⟨#[60,61]⟩] 9)=t at H J K L M ⊢;clear I F PB u R E S T n c1 c2 c3 o;obtain ⟨n,c1,c2,c3,o⟩:=AU J;obtain ⟨v,d1,d2,d3,y⟩:=AU H;have W:=Ab (show Aj (s.extract j (j+2))=((Aj s).drop j).take 2 by rw[BV,show j+2 - j=2 by omega]);go_loop [173] (fun i=>∃ k:Nat,k≤4∧i= .int .i64 k∧GH BQ k (Aj (s.extract j (j+2)))) (fun i=>4 - (intOf i).toNat)
  case atStart=>exact ⟨0,by omega,rfl,fun i hi=>by omega⟩
  case round=>
   obtain ⟨k,hk,rfl,a⟩:=hrel;by_cases q:k < 4
   ·have Y:(k:Int) < 4:=by omega
    obtain ⟨x,hx⟩:∃ x,BQ[k]? =some x:=⟨BQ[k]'q,zM q⟩
    have hc:=(L.cell k).trans (Px hx);rcases ze ((s.extract j (j+2)).toList==(AB x).toList) with h | h
    ·have aa:=Ab (show ((Aj s).drop j).take 2=x by rw[← Aa W];exact J6 h);have c:=Ab (Py hx);clear a hx;go_wp2_with fail
     have l:=Ao (b:=w.heap.size) (K.setCell (p:=⟨w.heap.size+1,2,none⟩) (by show w.heap.size≤w.heap.size+1;omega) (.string (AB x))) NLN (.int .i64 5) (.int .i64 0) (.string (AB x)) (.int .i64 j);obtain ⟨d,g1,g2,g3,_⟩:=AU (AI (H.setFar (p:=⟨w.heap.size+1,2,none⟩) (by show w.heap.size≠w.heap.size+1;omega) (.string (AB x))) (.int .i64 5) (.int .i64 0) (.string (AB x)) (.int .i64 j));simp only[CC] at d g1 g2 g3;refine bodyPost_ret (AA Tryz.results34 rfl d g1 g2 g3) rfl ⟨?_,l⟩;rw[Be,Aa aa,if_pos (Aa c)];simp only[GM];rw[zU];rfl
    ·have c:=Ab (a.next hx (I3 h));clear a hx;go_wp2
     go_round
     case rel=>exact ⟨k+1,by omega,by go_num,Aa c⟩
     case measure=>simp[intOf];omega
   ·have ek:k=4:=by omega
    subst ek;have z:=Ab (show BQ.contains (((Aj s).drop j).take 2)=false by rw[← Aa W];exact GH.all a);clear a n c1 c2 c3 o v d1 d2 d3 y;have m:=Am.alloc H (.cells #[.int .u8 60,.int .u8 43,.int .u8 45,.int .u8 42,.int .u8 47,.int .u8 37,.int .u8 124,.int .u8 38,.int .u8 92,.int .u8 40,.int .u8 41,.int .u8 123,.int .u8 125,.int .u8 44,.int .u8 59,.int .u8 61] 5 (16,17));have A:=Am.alloc J (.cells #[.int .u8 60,.int .u8 43,.int .u8 45,.int .u8 42,.int .u8 47,.int .u8 37,.int .u8 124,.int .u8 38,.int .u8 92,.int .u8 40,.int .u8 41,.int .u8 123,.int .u8 125,.int .u8 44,.int .u8 59,.int .u8 61] 5 (16,17));have r:=Below.alloc K (by omega) (.cells #[.int .u8 60,.int .u8 43,.int .u8 45,.int .u8 42,.int .u8 47,.int .u8 37,.int .u8 124,.int .u8 38,.int .u8 92,.int .u8 40,.int .u8 41,.int .u8 123,.int .u8 125,.int .u8 44,.int .u8 59,.int .u8 61] 5 (16,17));have B:∀ k,(t.alloc (.cells #[.int .u8 60,.int .u8 43,.int .u8 45,.int .u8 42,.int .u8 47,.int .u8 37,.int .u8 124,.int .u8 38,.int .u8 92,.int .u8 40,.int .u8 41,.int .u8 123,.int .u8 125,.int .u8 44,.int .u8 59,.int .u8 61] 5 (16,17))).cell? ⟨w.heap.size+3,k,none⟩=(KY CZ)[k]? :=fun k=>by
     rw[← M];exact World.cell?_alloc_mark (t) (KY CZ) 5 (16,17) k
    have N:(convert 22 22 (.slice (some ⟨w.heap.size+3,0,none⟩) 16 16)).run Tryz.prog (t.alloc (.cells #[.int .u8 60,.int .u8 43,.int .u8 45,.int .u8 42,.int .u8 47,.int .u8 37,.int .u8 124,.int .u8 38,.int .u8 92,.int .u8 40,.int .u8 41,.int .u8 123,.int .u8 125,.int .u8 44,.int .u8 59,.int .u8 61] 5))= .ok (.slice (some ⟨w.heap.size+3,0,none⟩) 16 16) (t.alloc (.cells #[.int .u8 60,.int .u8 43,.int .u8 45,.int .u8 42,.int .u8 47,.int .u8 37,.int .u8 124,.int .u8 38,.int .u8 92,.int .u8 40,.int .u8 41,.int .u8 123,.int .u8 125,.int .u8 44,.int .u8 59,.int .u8 61] 5 (16,17))):=
     Go.Joins.run_convert_bytes_const_at (t) 22 5 #[.int .u8 60,.int .u8 43,.int .u8 45,.int .u8 42,.int .u8 47,.int .u8 37,.int .u8 124,.int .u8 38,.int .u8 92,.int .u8 40,.int .u8 41,.int .u8 123,.int .u8 125,.int .u8 44,.int .u8 59,.int .u8 61] 16 16 (w.heap.size+3) M.symm Tryz.underlying22 Tryz.underlying5
    obtain ⟨v,d1,d2,d3,y⟩:=AU m;obtain ⟨n,c1,c2,c3,o⟩:=AU A;go_wp2_with fail
    clear N;have C:=Ab B;clear B;generalize t.alloc (.cells #[.int .u8 60,.int .u8 43,.int .u8 45,.int .u8 42,.int .u8 47,.int .u8 37,.int .u8 124,.int .u8 38,.int .u8 92,.int .u8 40,.int .u8 41,.int .u8 123,.int .u8 125,.int .u8 44,.int .u8 59,.int .u8 61] 5 (16,17))=X at m A r C v d1 d2 d3 y n c1 c2 c3 o ⊢;go_loop [193] (fun i=>∃ k:Nat,k≤16∧i= .int .i64 k∧GG CZ k s[j]) (fun i=>16 - (intOf i).toNat)
    case atStart=>exact ⟨0,by omega,rfl,fun i hi=>by omega⟩
    case round=>
     obtain ⟨k,hk,rfl,a⟩:=hrel;by_cases q:k < 16
     ·have Y:(k:Int) < 16:=by omega
      obtain ⟨x,hx⟩:∃ x,CZ[k]? =some x:=⟨CZ[k]'q,zM q⟩
      have hc:=(Aa C k).trans (Pw hx);rcases ze ((s[j].toNat:Int)==(x.toNat:Int)) with h | h
      ·have c:=Ab (Th hx h);have ab:(x.toNat:Int)=(s[j].toNat:Int):=(zI.1 h).symm;have ac:(j:Int)+1≤(s.size:Int):=by omega
       clear a hx;go_wp2_with fail
       have l:=Ao (b:=w.heap.size) (r.setCell (p:=⟨w.heap.size+1,2,none⟩) (by show w.heap.size≤w.heap.size+1;omega) (.string (s.extract j (j+1)))) NLN (.int .i64 5) (.int .i64 0) (.string (s.extract j (j+1))) (.int .i64 j);obtain ⟨d,g1,g2,g3,_⟩:=AU (AI (m.setFar (p:=⟨w.heap.size+1,2,none⟩) (by show w.heap.size≠w.heap.size+1;omega) (.string (s.extract j (j+1)))) (.int .i64 5) (.int .i64 0) (.string (s.extract j (j+1))) (.int .i64 j));simp only[CC] at d g1 g2 g3;refine bodyPost_ret (AA Tryz.results34 rfl d g1 g2 g3) rfl ⟨?_,l⟩;rw[Be,if_neg (by rw[Aa z];decide),if_pos (Aa c),Ti O];simp only[GM];rw[zU];rfl
      ·have c:=Ab (a.next hx h);clear a hx;go_wp2
       go_round
       case rel=>exact ⟨k+1,by omega,by go_num,Aa c⟩
       case measure=>simp[intOf];omega
     ·have ek:k=16:=by omega
      subst ek;have c:=Ab (GG.all a);clear a;go_wp2_with fail
      have l:=Ao (b:=w.heap.size) r NLN (.int .i64 5) (.int .i64 0) (.string ⟨#[]⟩) (.int .i64 j);obtain ⟨d,g1,g2,g3,_⟩:=AU (AI m (.int .i64 5) (.int .i64 0) (.string ⟨#[]⟩) (.int .i64 j));simp only[CC] at d g1 g2 g3;refine bodyPost_ret (AA Tryz.results34 rfl d g1 g2 g3) rfl ⟨?_,l⟩;rw[Be,if_neg (by rw[Aa z];decide),if_neg (by rw[Aa c];decide)];exact ⟨_,_,_,_,rfl⟩
 ·have Z: ¬ ((j:Int)+1 < (s.size:Int)):=by omega
  have z:=Ab (XB h2);clear n c1 c2 c3 o;obtain ⟨ag,e1,e2,e3,ah⟩:=AU E;have m:=Am.alloc I (.cells #[.int .u8 60,.int .u8 43,.int .u8 45,.int .u8 42,.int .u8 47,.int .u8 37,.int .u8 124,.int .u8 38,.int .u8 92,.int .u8 40,.int .u8 41,.int .u8 123,.int .u8 125,.int .u8 44,.int .u8 59,.int .u8 61] 5 (16,17));have A:=Am.alloc F (.cells #[.int .u8 60,.int .u8 43,.int .u8 45,.int .u8 42,.int .u8 47,.int .u8 37,.int .u8 124,.int .u8 38,.int .u8 92,.int .u8 40,.int .u8 41,.int .u8 123,.int .u8 125,.int .u8 44,.int .u8 59,.int .u8 61] 5 (16,17));have r:=Below.alloc PB (by omega) (.cells #[.int .u8 60,.int .u8 43,.int .u8 45,.int .u8 42,.int .u8 47,.int .u8 37,.int .u8 124,.int .u8 38,.int .u8 92,.int .u8 40,.int .u8 41,.int .u8 123,.int .u8 125,.int .u8 44,.int .u8 59,.int .u8 61] 5 (16,17));have B:∀ k,((f.setCell ⟨w.heap.size+1,0,none⟩ (.int .i64 5)).alloc (.cells #[.int .u8 60,.int .u8 43,.int .u8 45,.int .u8 42,.int .u8 47,.int .u8 37,.int .u8 124,.int .u8 38,.int .u8 92,.int .u8 40,.int .u8 41,.int .u8 123,.int .u8 125,.int .u8 44,.int .u8 59,.int .u8 61] 5 (16,17))).cell? ⟨w.heap.size+2,k,none⟩=(KY CZ)[k]? :=fun k=>by
   rw[← u];exact World.cell?_alloc_mark (f.setCell ⟨w.heap.size+1,0,none⟩ (.int .i64 5)) (KY CZ) 5 (16,17) k
  have N:(convert 22 22 (.slice (some ⟨w.heap.size+2,0,none⟩) 16 16)).run Tryz.prog ((f.setCell ⟨w.heap.size+1,0,none⟩ (.int .i64 5)).alloc (.cells #[.int .u8 60,.int .u8 43,.int .u8 45,.int .u8 42,.int .u8 47,.int .u8 37,.int .u8 124,.int .u8 38,.int .u8 92,.int .u8 40,.int .u8 41,.int .u8 123,.int .u8 125,.int .u8 44,.int .u8 59,.int .u8 61] 5))= .ok (.slice (some ⟨w.heap.size+2,0,none⟩) 16 16) ((f.setCell ⟨w.heap.size+1,0,none⟩ (.int .i64 5)).alloc (.cells #[.int .u8 60,.int .u8 43,.int .u8 45,.int .u8 42,.int .u8 47,.int .u8 37,.int .u8 124,.int .u8 38,.int .u8 92,.int .u8 40,.int .u8 41,.int .u8 123,.int .u8 125,.int .u8 44,.int .u8 59,.int .u8 61] 5 (16,17))):=
   Go.Joins.run_convert_bytes_const_at (f.setCell ⟨w.heap.size+1,0,none⟩ (.int .i64 5)) 22 5 #[.int .u8 60,.int .u8 43,.int .u8 45,.int .u8 42,.int .u8 47,.int .u8 37,.int .u8 124,.int .u8 38,.int .u8 92,.int .u8 40,.int .u8 41,.int .u8 123,.int .u8 125,.int .u8 44,.int .u8 59,.int .u8 61] 16 16 (w.heap.size+2) u.symm Tryz.underlying22 Tryz.underlying5
  obtain ⟨v,d1,d2,d3,y⟩:=AU m;obtain ⟨n,c1,c2,c3,o⟩:=AU A;go_enter Tryz.func34,Tryz.ntmps34
  go_wp2_with (first | (go_at_call 69;refine (A8 _ _).mono ?_;rintro e w' ⟨rfl,g⟩;rw[Aa U,g];clear g) | (go_at_call 72;refine (BU _ _).mono ?_;rintro e w' ⟨rfl,g⟩;rw[Aa V,g];clear g))
  clear Q;clear N;have C:=Ab B;clear B;generalize (f.setCell ⟨w.heap.size+1,0,none⟩ (.int .i64 5)).alloc (.cells #[.int .u8 60,.int .u8 43,.int .u8 45,.int .u8 42,.int .u8 47,.int .u8 37,.int .u8 124,.int .u8 38,.int .u8 92,.int .u8 40,.int .u8 41,.int .u8 123,.int .u8 125,.int .u8 44,.int .u8 59,.int .u8 61] 5 (16,17))=X at m A r C v d1 d2 d3 y n c1 c2 c3 o ⊢;go_loop [193] (fun i=>∃ k:Nat,k≤16∧i= .int .i64 k∧GG CZ k s[j]) (fun i=>16 - (intOf i).toNat)
  case atStart=>exact ⟨0,by omega,rfl,fun i hi=>by omega⟩
  case round=>
   obtain ⟨k,hk,rfl,a⟩:=hrel;by_cases q:k < 16
   ·have Y:(k:Int) < 16:=by omega
    obtain ⟨x,hx⟩:∃ x,CZ[k]? =some x:=⟨CZ[k]'q,zM q⟩
    have hc:=(Aa C k).trans (Pw hx);rcases ze ((s[j].toNat:Int)==(x.toNat:Int)) with h | h
    ·have c:=Ab (Th hx h);have ab:(x.toNat:Int)=(s[j].toNat:Int):=(zI.1 h).symm;have ac:(j:Int)+1≤(s.size:Int):=by omega
     clear a hx;go_wp2_with fail
     have l:=Ao (b:=w.heap.size) (r.setCell (p:=⟨w.heap.size+1,2,none⟩) (by show w.heap.size≤w.heap.size+1;omega) (.string (s.extract j (j+1)))) NLN (.int .i64 5) (.int .i64 0) (.string (s.extract j (j+1))) (.int .i64 j);obtain ⟨d,g1,g2,g3,_⟩:=AU (AI (m.setFar (p:=⟨w.heap.size+1,2,none⟩) (by show w.heap.size≠w.heap.size+1;omega) (.string (s.extract j (j+1)))) (.int .i64 5) (.int .i64 0) (.string (s.extract j (j+1))) (.int .i64 j));simp only[CC] at d g1 g2 g3;refine bodyPost_ret (AA Tryz.results34 rfl d g1 g2 g3) rfl ⟨?_,l⟩;rw[Be,if_neg (by rw[Aa z];decide),if_pos (Aa c),Ti O];simp only[GM];rw[zU];rfl
    ·have c:=Ab (a.next hx h);clear a hx;go_wp2
     go_round
     case rel=>exact ⟨k+1,by omega,by go_num,Aa c⟩
     case measure=>simp[intOf];omega
   ·have ek:k=16:=by omega
    subst ek;have c:=Ab (GG.all a);clear a;go_wp2_with fail
    have l:=Ao (b:=w.heap.size) r NLN (.int .i64 5) (.int .i64 0) (.string ⟨#[]⟩) (.int .i64 j);obtain ⟨d,g1,g2,g3,_⟩:=AU (AI m (.int .i64 5) (.int .i64 0) (.string ⟨#[]⟩) (.int .i64 j));simp only[CC] at d g1 g2 g3;refine bodyPost_ret (AA Tryz.results34 rfl d g1 g2 g3) rfl ⟨?_,l⟩;rw[Be,if_neg (by rw[Aa z];decide),if_neg (by rw[Aa c];decide)];exact ⟨_,_,_,_,rfl⟩
end Go.Proofs.YtffkofkjpckmpaaGreatDoor
