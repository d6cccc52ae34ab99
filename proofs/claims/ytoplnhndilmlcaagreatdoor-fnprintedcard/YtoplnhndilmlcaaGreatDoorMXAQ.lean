/-
  LTK, VPN, VPO, VPT, GI, GK, GL, GM. Own work.
-/
import Derived.Test.YtoplnhndilmlcaaGreatDoorMXAK
import Derived.Test.YtoplnhndilmlcaaGreatDoorVPK
import Derived.Deep.AppendLies
import Derived.Test.YtoplnhndilmlcaaGreatDoorMXAU
import Derived.Test.YtoplnhndilmlcaaGreatDoorMXAG
import Derived.Test.YtoplnhndilmlcaaGreatDoorMXAJ
namespace Go.Proofs.YtoplnhndilmlcaaGreatDoor
open Go.RowKit
set_option linter.unusedVariables false
def QK (k:Nat):ByteArray:= [⟨#[118]⟩,⟨#[119]⟩,⟨#[98,97,115,101]⟩,⟨#[120,95,49]⟩].getD k ⟨#[]⟩
def QJ (k:Nat):ByteArray:= [⟨#[118,48]⟩,⟨#[97,115,107,101,100]⟩,⟨#[110,111,119]⟩].getD k ⟨#[]⟩
def I1 (wild:Bool) (x:Int) (m:Nat):ByteArray:=if wild=true∧245 < x then QJ (x % 3).toNat else QK (x / 12 % 4).toNat ++Fq m
abbrev Wz:=List (ByteArray × Int)
def KD (zs:List Int) (wild:Bool) (L:Wz) (x:Int) (p:Nat) (N:List Nd) (q:Nat) (M:List Nd):Prop:=
 if x=254 then NP zs L (64 - (nx zs p).1 % 2).toNat (nx zs p).2 N q M else Dj zs L wild 5 1 p N q M
def KF (zs:List Int) (wild:Bool) (m:Nat) (L:Wz) (x:Int) (p:Nat) (N:List Nd) (q:Nat) (M:List Nd) (s:St) (K:Wz):Prop:=
 if x % 3=0 then Dj zs L wild 4 (1+x / 3 % 4) p N q M∧s=⟨1,I1 wild x m,Ay M,-1⟩∧K=L ++ [(I1 wild x m,1+x / 3 % 4)]
 else if x % 3=1 then ∃ q1 N1,KD zs wild L x p N q1 N1∧Dj zs L wild 4 4 q1 N1 q M∧s=⟨2,⟨#[]⟩,Ay N1,Ay M⟩∧K=L
 else KD zs wild L x p N q M∧s=⟨2,⟨#[]⟩,Ay M,-1⟩∧K=L
theorem KD.unique {zs:List Int}{wild:Bool}{L:Wz}{x:Int}{p q b:Nat}{N M d:List Nd}(h:KD zs wild L x p N q M)(a:KD zs wild L x p N b d):q=b∧M=d:=by
 unfold KD at h a;split at h
 ·rename_i c;rw[if_pos c] at a;exact h.unique a
 ·rename_i c;rw[if_neg c] at a;exact Dj.unique _ _ _ _ _ _ _ _ _ _ _ h a
theorem KF.unique {zs:List Int}{wild:Bool}{m:Nat}{L K b:Wz}{x:Int}{p q d:Nat}{N M f:List Nd}{s s':St}(h:KF zs wild m L x p N q M s K)(a:KF zs wild m L x p N d f s' b):q=d∧M=f∧s=s'∧K=b:=by
 unfold KF at h a;split at h
 ·rename_i c;rw[if_pos c] at a;obtain ⟨rfl,rfl⟩:=Dj.unique _ _ _ _ _ _ _ _ _ _ _ h.1 a.1;exact ⟨rfl,rfl,by rw[h.2.1,a.2.1],by rw[h.2.2,a.2.2]⟩
 ·rename_i c;rw[if_neg c] at a;split at h
  ·rename_i c;rw[if_pos c] at a;obtain ⟨g,i,a1,a2,a3,a4⟩:=h;obtain ⟨j,k,b1,b2,b3,b4⟩:=a;obtain ⟨rfl,rfl⟩:=a1.unique b1;obtain ⟨rfl,rfl⟩:=Dj.unique _ _ _ _ _ _ _ _ _ _ _ a2 b2;exact ⟨rfl,rfl,by rw[a3,b3],by rw[a4,b4]⟩
  ·rename_i c;rw[if_neg c] at a;obtain ⟨rfl,rfl⟩:=h.1.unique a.1;exact ⟨rfl,rfl,by rw[h.2.1,a.2.1],by rw[h.2.2,a.2.2]⟩
def I0 (zs:List Int) (wild:Bool):Nat→Nat→List Nd→List St→Wz→Nat→List Nd→List St→Wz→Prop
 | 0,p,N,S,L,q,M,T,K=>q=p∧M=N∧T=S∧K=L
 | k+1,p,N,S,L,q,M,T,K=>
  if 4 < (zs.length:Int) - (p:Int) then ∃ p1 N1 s L1,KF zs wild S.length L (nx zs p).1 (nx zs p).2 N p1 N1 s L1∧I0 zs wild k p1 N1 (S ++ [s]) L1 q M T K
  else q=p∧M=N∧T=S∧K=L
theorem I0.unique {zs:List Int}{wild:Bool} :∀ {k p q a:Nat} {N M b:List Nd} {S T d:List St} {L K f:Wz},I0 zs wild k p N S L q M T K→I0 zs wild k p N S L a b d f→q=a∧M=b∧T=d∧K=f
 | 0,_,_,_,_,_,_,_,_,_,_,_,_,h,h'=>⟨by rw[h.1,h'.1],by rw[h.2.1,h'.2.1],by rw[h.2.2.1,h'.2.2.1],by rw[h.2.2.2,h'.2.2.2]⟩
 | k+1,_,_,_,_,_,_,_,_,_,_,_,_,h,h'=>by
  unfold I0 at h h';split at h
  ·rename_i c;rw[if_pos c] at h';obtain ⟨g,i,s,j,a1,a2⟩:=h;obtain ⟨l,m,s',n,b1,b2⟩:=h';obtain ⟨rfl,rfl,rfl,rfl⟩:=a1.unique b1;exact I0.unique a2 b2
  ·rename_i c;rw[if_neg c] at h';exact ⟨by rw[h.1,h'.1],by rw[h.2.1,h'.2.1],by rw[h.2.2.1,h'.2.2.1],by rw[h.2.2.2,h'.2.2.2]⟩
def VF (zs:List Int) (wild:Bool) (L:Wz) (x:Int) (p:Nat) (N:List Nd) (S:List St) (M:List Nd) (T:List St):Prop:=
 if 0 < x % 3 then ∃ q,Dj zs L wild 3 4 p N q M∧T=S ++ [⟨3,⟨#[]⟩,-1,Ay M⟩] else M=N∧T=S ++ [⟨3,⟨#[]⟩,-1,-1⟩]
def M7 (zs:List Int) (wild:Bool) (p:Nat) (M:List Nd) (T:List St):Prop:=
 ∃ q N S L,I0 zs wild 14 p [] [] [] q N S L∧VF zs wild L (nx zs q).1 (nx zs q).2 N S M T
theorem M7.unique {zs:List Int}{wild:Bool}{p:Nat}{M a:List Nd}{T b:List St}(h:M7 zs wild p M T)(d:M7 zs wild p a b):M=a∧T=b:=by
 obtain ⟨q,N,S,L,a1,a2⟩:=h;obtain ⟨f,g,i,j,b1,b2⟩:=d;obtain ⟨rfl,rfl,rfl,rfl⟩:=a1.unique b1;unfold VF at a2 b2;split at a2
 ·rename_i c;rw[if_pos c] at b2;obtain ⟨r,c1,c2⟩:=a2;obtain ⟨k,d1,d2⟩:=b2;obtain ⟨rfl,rfl⟩:=Dj.unique _ _ _ _ _ _ _ _ _ _ _ c1 d1;exact ⟨rfl,by rw[c2,d2]⟩
 ·rename_i c;rw[if_neg c] at b2;exact ⟨by rw[a2.1,b2.1],by rw[a2.2,b2.2]⟩
section
variable {zs : List Int} {wild : Bool} {L : Wz} {x : Int} {p p1 q q1 m : Nat} {N N1 M : List Nd} {S : List St}
theorem Pj (e:x % 3=0)(h:Dj zs L wild 4 (1+x / 3 % 4) p N q M){nm:ByteArray}(a:nm=I1 wild x m):KF zs wild m L x p N q M ⟨1,nm,Ay M,-1⟩ (L ++ [(nm,1+x / 3 % 4)]):=by
 unfold KF;rw[if_pos e,a];exact ⟨h,rfl,rfl⟩
theorem VE (e:x % 3=1)(h:KD zs wild L x p N q1 N1)(h2:Dj zs L wild 4 4 q1 N1 q M):KF zs wild m L x p N q M ⟨2,⟨#[]⟩,Ay N1,Ay M⟩ L:=by
 unfold KF;rw[if_neg (by omega),if_pos e];exact ⟨q1,N1,h,h2,rfl,rfl⟩
theorem QL (a: ¬ x % 3=0)(e: ¬ x % 3=1)(h:KD zs wild L x p N q M):KF zs wild m L x p N q M ⟨2,⟨#[]⟩,Ay M,-1⟩ L:=by
 unfold KF;rw[if_neg a,if_neg e];exact ⟨h,rfl,rfl⟩
theorem XB {y:Int}{a t:Nat}(e:x=254)(X:Hid (nx zs p=(y,a)))(ht:(t:Int)=64 - y % 2)(h:NP zs L t a N q M):KD zs wild L x p N q M:=by
 unfold KD;rw[if_pos e,Aa X];dsimp only;rw[show (64 - y % 2).toNat=t by omega];exact h
theorem QM (e: ¬ x=254)(h:Dj zs L wild 5 1 p N q M):KD zs wild L x p N q M:=by
 unfold KD;rw[if_neg e];exact h
theorem Ew {s:St}{K a:Wz}{b:Nat}{c:List Nd}{T:List St}(hk:S.length < 14)(hy: 4 < (zs.length:Int) - (p:Int))(X:Hid (nx zs p=(x,p1)))(h:KF zs wild S.length L x p1 N q M s a)(d:I0 zs wild (14 - (S ++ [s]).length) q M (S ++ [s]) a b c T K):I0 zs wild (14 - S.length) p N S L b c T K:=by
 obtain ⟨j,f⟩:∃ j,14 - S.length=j+1:=⟨14 - S.length - 1,by omega⟩
 rw[f];unfold I0;rw[if_pos hy];refine ⟨q,M,s,a,by rw[Aa X];exact h, ?_⟩;rw[show 14 - (S ++ [s]).length=j by rw[List.length_append,List.length_singleton];omega] at d;exact d
theorem I2 (h: ¬ S.length < 14∨¬ 4 < (zs.length:Int) - (p:Int)):I0 zs wild (14 - S.length) p N S L p N S L:=by
 cases a: 14 - S.length with
 | zero=>exact ⟨rfl,rfl,rfl,rfl⟩
 | succ j=>
  unfold I0;rw[if_neg (by rcases h with h | h;{ omega };{ exact h })];exact ⟨rfl,rfl,rfl,rfl⟩
end
end Go.Proofs.YtoplnhndilmlcaaGreatDoor
namespace Go.Proofs.YtoplnhndilmlcaaGreatDoor
set_option maxRecDepth 100000
set_option maxHeartbeats 6400000
open Go.RowKit
set_option linter.unusedVariables false
theorem Ow {f:Int→List Int→List Int}{M:Nat}(hf:∀ k O,(f k O).length≤max O.length M+1)(top:Int):∀ (ks O:List Int),(Cx f top ks O).length≤max O.length M+ks.length+1
 | [],O=>by rw[Cx,List.length_append,List.length_singleton,List.length_nil];omega
 | k ::ks,O=>by
  rw[Cx];split
  ·rw[List.length_append,List.length_singleton,List.length_cons];omega
  ·have h1:=Ow hf top ks (f k O);have h2:=hf k O;rw[List.length_cons];omega
theorem JX {K:List (List Int)}(h3:∀ ks∈K,ks.length≤3):∀ (n:Nat) (top:Int) (O:List Int),(AT K n top O).length≤max O.length (K.length+3 * n)+1
 | 0,top,O=>by rw[AT,List.length_append,List.length_singleton];omega
 | n+1,top,O=>by
  rw[AT];dsimp only;split
  ·rw[List.length_append,List.length_singleton];omega
  ·rename_i hc;have h1:=Ow (M:=K.length+3 * n) (JX h3 n) top (K.getD top.toNat []) O;have h2:(K.getD top.toNat []).length≤3:=by
    rw[List.getD_eq_getElem?_getD];cases e:K[top.toNat]? with
    | none=>simp
    | some ks=>exact h3 ks (List.mem_of_getElem? e)
   omega
def MU (w:World) (v:Value) (w':World) (v':Value):Prop:=(∀ k,k < w.heap.size→some k≠v.ownBlock→w'.heap[k]? =w.heap[k]?)∧(∀ q,v'.ownBlock=some q→v.ownBlock=some q∨w.heap.size≤q)∧w.heap.size≤w'.heap.size
theorem MU.refl (w:World)(v:Value):MU w v w v:=⟨fun _ _ _=>rfl,fun q h=> .inl h,NLN⟩
theorem MU.trans {w a b:World}{v v1 c:Value}(h:MU w v a v1)(k:MU a v1 b c):MU w v b c:=
 ⟨fun j d f=>(k.1 j (Nat.lt_of_lt_of_le d h.2.2) (fun e=>by
  rcases h.2.1 j e.symm with e' | e'
  ·exact f e'.symm
  ·omega)).trans (h.1 j d f),fun q hq=>by
  rcases k.2.1 q hq with e | e
  ·exact h.2.1 q e
  ·exact .inr (Nat.le_trans h.2.2 e),Nat.le_trans h.2.2 k.2.2⟩
theorem Ea {w w':World}{a:Obj}{v:Value}{g n c:Nat}(b:(w.alloc a).grownBy w' v.ownBlock)(d:v.ownBlock=some g∨g=w.heap.size+1):MU w v w' (.slice (some ⟨g,0,none⟩) n c):=
 ⟨fun k hk f=>(b.block k (by simp;omega) f).trans (Below.heap_alloc w a k hk),fun q hq=>by
  have:g=q:=by simpa[Value.ownBlock] using hq
  subst this;rcases d with e | e
  ·exact .inl e
  ·right;omega,by have:=b.size;simp at this;omega⟩
theorem Aj.keep {w w':World}{v a:Value}{b:Nat}{cs:Array Value}{t:TypeId}(R:Aj w b cs t)(h:MU w v w' a)(c:v.ownBlock≠some b):Aj w' b cs t:=⟨(h.1 b R.lt (fun e=>c e.symm)).trans R.out⟩
def UT (B:Nat) (w:World) (v:Value) (R:List Int) (e:Ending) (w':World):Prop:=∃ v',e= .returned v'∧w'.ownsRow B 3 1 v' R.length (At R)∧Below B w w'∧MU w v w' v'
theorem FP {w:World}{B:Nat}{v:Value}{O:List Int}{x:Int}(h:w.ownsRow B 3 1 v (O.length+1) (At O ++ [.int .i64 x])):w.ownsRow B 3 1 v (O ++ [x]).length (At (O ++ [x])):=by
 rw[List.length_append,List.length_singleton,At,List.map_append];exact h
theorem MV {K:List (List Int)}{n:Nat}{top:Int}{O:List Int}(h:top < 0∨(K.length:Int)≤top∨K.length < O.length):∀ fuel,AT K fuel top O=O ++ [-1]
 | 0=>rfl
 | n+1=>by rw[AT];exact if_pos h
theorem Js (a:Option Addr)(n c:Nat)(B:Nat)(top:Int)(O:List Int)(v:Value)(w:World)(A:n≤4000)(h:top < 0∨(n:Int)≤top∨n < O.length)(C:O.length≤100000)(o:B≤w.heap.size)(j:w.ownsRow B 3 1 v O.length (At O)):
  Calls Tryz.prog 37 #[.slice a n c,.int .i64 top,v] w fun e w'=>UT B w v (O ++ [-1]) e w':=by
 obtain ⟨i,hi,p,r,s⟩:=info_parts Qc;obtain ⟨E,F,rfl,_⟩:=Af j;rcases (show top < 0∨(0≤top∧(n:Int)≤top)∨(0≤top∧top < n∧n < O.length) by omega) with h1 | ⟨h0,h2⟩ | ⟨h0,h2,h3⟩
 ·have t:top < 0:=h1;go_enter Tryz.func37,Tryz.ntmps37
  go_wp2_with (at_builtin;refine wpList_append_lies _ rfl _ _ 30 rfl B 3 i (.int .i64 0) 1 8 Tryz.underlying30 hi p r s rfl (by decide) _ _ _ rfl (World.ownsRow.alloc j _) ⟨w.heap.size,0,none⟩ 1 1 [.int .i64 (-1)] rfl rfl ?a1 ?a2 (by decide) ?a3 ?a4 ?a5 _ rfl ?_)
  first | (case a1=>exact Bn _ _ _ _ (by simp)) | skip
  case a2=>first | (intro u hu;simp at hu;subst hu;rfl) | rfl
  case a3=>unfold maxLen;omega
  case a4=>omega
  case a5=>first | (simp;omega) | omega
  intro g cap x d b f y;have k:=Ea (n:=O.length+1) (c:=cap) b f;have l:=((Below.refl B w).alloc o (.cells #[.int .i64 (-1)] 3)).grown b (by simp;omega) (fun q hq=>(j.lt q hq).1);have m:=FP d;clear b f d;go_wp2_with fail
  go_ret
  exact ⟨_,rfl,m,l,k⟩
 ·have t: ¬ top < 0:=by omega
  have z:(n:Int)≤top:=h2;go_enter Tryz.func37,Tryz.ntmps37
  go_wp2_with (at_builtin;refine wpList_append_lies _ rfl _ _ 30 rfl B 3 i (.int .i64 0) 1 8 Tryz.underlying30 hi p r s rfl (by decide) _ _ _ rfl (World.ownsRow.alloc j _) ⟨w.heap.size,0,none⟩ 1 1 [.int .i64 (-1)] rfl rfl ?b1 ?b2 (by decide) ?b3 ?b4 ?b5 _ rfl ?_)
  first | (case b1=>exact Bn _ _ _ _ (by simp)) | skip
  case b2=>first | (intro u hu;simp at hu;subst hu;rfl) | rfl
  case b3=>unfold maxLen;omega
  case b4=>omega
  case b5=>first | (simp;omega) | omega
  intro g cap x d b f y;have k:=Ea (n:=O.length+1) (c:=cap) b f;have l:=((Below.refl B w).alloc o (.cells #[.int .i64 (-1)] 3)).grown b (by simp;omega) (fun q hq=>(j.lt q hq).1);have m:=FP d;clear b f d;go_wp2_with fail
  go_ret
  exact ⟨_,rfl,m,l,k⟩
 ·have t: ¬ top < 0:=by omega
  have z: ¬ ((n:Int)≤top):=by omega
  have H:(n:Int) < (O.length:Int):=by omega
  go_enter Tryz.func37,Tryz.ntmps37
  go_wp2_with (at_builtin;refine wpList_append_lies _ rfl _ _ 30 rfl B 3 i (.int .i64 0) 1 8 Tryz.underlying30 hi p r s rfl (by decide) _ _ _ rfl (World.ownsRow.alloc j _) ⟨w.heap.size,0,none⟩ 1 1 [.int .i64 (-1)] rfl rfl ?c1 ?c2 (by decide) ?c3 ?c4 ?c5 _ rfl ?_)
  first | (case c1=>exact Bn _ _ _ _ (by simp)) | skip
  case c2=>first | (intro u hu;simp at hu;subst hu;rfl) | rfl
  case c3=>unfold maxLen;omega
  case c4=>omega
  case c5=>first | (simp;omega) | omega
  intro g cap x d b f y;have k:=Ea (n:=O.length+1) (c:=cap) b f;have l:=((Below.refl B w).alloc o (.cells #[.int .i64 (-1)] 3)).grown b (by simp;omega) (fun q hq=>(j.lt q hq).1);have m:=FP d;clear b f d;go_wp2_with fail
  go_ret
  exact ⟨_,rfl,m,l,k⟩
theorem TS {f:Int→List Int→List Int}{top:Int}{ks:List Int}{j:Nat}(a:j < ks.length)(O:List Int):Cx f top (ks.drop j) O=if top≤ks[j] then O ++ [-1] else Cx f top (ks.drop (j+1)) (f ks[j] O):=by
 rw[List.drop_eq_getElem_cons a,Cx]
theorem EU (a:Option Addr)(n c:Nat)(N:List Nd)(E:World)(B:Nat)(J:Fe E a n c N)(ar:E.heap.size≤B)(aa:n≤4000)(h3:∀ ks∈N.map Nd.kids,ks.length≤3):
  ∀ (fuel:Nat) (top:Int) (O:List Int) (v:Value) (w:World),fuel≤4000→(N.length≤fuel∨top < fuel)→O.length≤100000→Below E.heap.size E w→B≤w.heap.size→w.ownsRow B 3 1 v O.length (At O)→
  Calls Tryz.prog 37 #[.slice a n c,.int .i64 top,v] w fun e w'=>UT B w v (AT (N.map Nd.kids) fuel top O) e w':=by
 have L:=Ab J.len;have M:=Ab (show (N.map Nd.kids).length=n by rw[List.length_map,J.len]);have ab:=Ab h3;obtain ⟨i,hi,ac,ad,ae⟩:=info_parts Qc;intro fuel
 induction fuel with
 | zero=>
  intro top O v w _ hf P Q H o;have aG:=Aa L;rw[MV (K:=N.map Nd.kids) (n:=n) (by rw[List.length_map];omega) 0];exact Js a n c B top O v w aa (by omega) P H o
 | succ fuel af=>
  intro top O v w aH hf P Q H o;by_cases hu:top < 0∨(n:Int)≤top∨n < O.length
  ·rw[MV (K:=N.map Nd.kids) (n:=n) (by rw[Aa M];exact hu) (fuel+1)];exact Js a n c B top O v w aa hu P H o
  ·obtain ⟨t,rfl⟩:∃ t:Nat,top=(t:Int):=⟨top.toNat,by omega⟩
   have au:t < n:=by omega
   have aI:O.length≤n:=by omega
   have S:t < N.length:=by rw[Aa L];exact au
   have aJ: ¬ ((t:Int) < 0):=by omega
   have aK: ¬ ((n:Int)≤(t:Int)):=by omega
   have aL:(t:Int) < (n:Int):=by omega
   have aM: ¬ ((n:Int) < (O.length:Int)):=by omega
   have aN:t≤fuel:=by have:=Aa L;omega
   have ag:=Ab (show AT (N.map Nd.kids) (fuel+1) (t:Int) O=Cx (AT (N.map Nd.kids) fuel) (t:Int) (N[t].kids) O by
    rw[AT];dsimp only;rw[if_neg (by rw[Aa M];exact hu),Int.toNat_natCast,List.getD_eq_getElem?_getD,List.getElem?_map,List.getElem?_eq_getElem S];rfl)
   have T:N[t].kids.length≤3:=Aa ab _ (List.mem_map_of_mem (List.getElem_mem S));rw[Aa ag];clear ag hu;obtain ⟨b,av,rfl,aw,an,nn,aO,aP,l,aQ,ah,c1,c2,c3,c4,ax,I⟩:=J.cells t S;have c4:=(Q.cell (p:=⟨b,av+t * 5+4,none⟩) aw).trans c4;have U:=Ab (fun k O=>JX (K:=N.map Nd.kids) (Aa ab) fuel k O);rw[Aa M] at U;generalize N[t]=x at ah c1 c2 c3 c4 ax I T ⊢;generalize AT (N.map Nd.kids) fuel=F at af U ⊢;have ai:=Ab I.len;have aR:l≤3:=by rw[← I.len];exact T
   obtain ⟨ay,az,rfl,_⟩:=Af o;have aj:=Ab (show Cx F (t:Int) (x.kids.drop 0) O=Cx F (t:Int) x.kids O by rw[List.drop_zero]);generalize Cx F (t:Int) x.kids O=R at aj ⊢;clear ah c1 c2 c3 T;go_enter Tryz.func37,Tryz.ntmps37
   go_wp2_with fail
   go_loopw [2,33] (fun u i wr=>∃ (j:Nat) (d:List Int),j≤l∧i= .int .i64 j∧Hid (Cx F (t:Int) (x.kids.drop j) d=R)∧d.length≤n+3 * fuel+j∧wr.ownsRow B 3 1 u d.length (At d)∧Below B w wr∧MU w (.slice ay O.length az) wr u) (fun _ i _=>l - (intOf i).toNat)
   case atStart=>exact ⟨0,O,by omega,rfl,aj,by omega,o,BRN,MU.refl _ _⟩
   case round=>
    obtain ⟨j,d,aS,rfl,ak,aT,m,r,V⟩:=hrel;obtain ⟨aU,aV,rfl,_⟩:=Af m;have W:=Nat.le_trans H r.size;have al:=Q.trans (r.mono ar);by_cases ao:j < l
    ·have aW:(j:Int) < (l:Int):=by omega
     have ap:j < x.kids.length:=by rw[Aa ai];exact ao
     obtain ⟨aX,ok,rfl,aY,aA⟩:=(I.below al NLN).cells j ap;have s:=Ab (TS (f:=F) (top:=(t:Int)) ap d);rw[Aa ak] at s;have aq:=Ab ao;generalize x.kids[j]=y at aA s;by_cases hy:(t:Int)≤y
     ·have z:=Ab (show R=d ++ [-1] by rw[Aa s,if_pos hy]);go_wp2_with (at_builtin;refine wpList_append_lies _ rfl _ _ 30 rfl B 3 i (.int .i64 0) 1 8 Tryz.underlying30 hi ac ad ae rfl (by decide) _ _ _ rfl (World.ownsRow.alloc m _) ⟨wr.heap.size,0,none⟩ 1 1 [.int .i64 (-1)] rfl rfl ?d1 ?d2 (by decide) ?d3 ?d4 ?d5 _ rfl ?_)
      first | (case d1=>exact Bn _ _ _ _ (by simp)) | skip
      case d2=>first | (intro u hu;simp at hu;subst hu;rfl) | rfl
      case d3=>unfold maxLen;omega
      case d4=>omega
      case d5=>first | (simp;omega) | omega
      intro g cap aB A h C aC;have X:=Ea (n:=d.length+1) (c:=cap) h C;have Y:=(r.alloc W (.cells #[.int .i64 (-1)] 3)).grown h (by simp;omega) (fun q hq=>(m.lt q hq).1);have Z:=FP A;clear h C A;go_wp2_with fail
      go_ret
      exact ⟨_,rfl,by rw[Aa z];exact Z,Y,V.trans X⟩
     ·have z:=Ab (show Cx F (t:Int) (x.kids.drop (j+1)) (F y d)=R by rw[Aa s,if_neg hy]);have aZ:=Aa U y d;clear s;go_wp2_with (go_at_call 37;refine (af y d _ wr (by omega) (by omega) (by omega) al W m).mono ?_;rintro e a0 ⟨a1,rfl,aD,aE,aF⟩)
      go_roundw
      case rel=>exact ⟨j+1,F y d,Aa aq,by go_num,z,by omega,aD,r.trans aE,V.trans aF⟩
      case measure=>have:=Aa aq;simp[intOf];omega
    ·have e:j=l:=by omega
     subst e;have z:=Ab (show R=d ++ [(t:Int)] by
      rw[← Aa ak,List.drop_of_length_le (by rw[Aa ai];exact NLN),Cx])
     go_wp2_with (at_builtin;refine wpList_append_lies _ rfl _ _ 30 rfl B 3 i (.int .i64 0) 1 8 Tryz.underlying30 hi ac ad ae rfl (by decide) _ _ _ rfl (World.ownsRow.alloc m _) ⟨wr.heap.size,0,none⟩ 1 1 [.int .i64 (t:Int)] rfl rfl ?e1 ?e2 (by decide) ?e3 ?e4 ?e5 _ rfl ?_)
     first | (case e1=>exact Bn _ _ _ _ (by simp)) | skip
     case e2=>first | (intro u hu;simp at hu;subst hu;rfl) | rfl
     case e3=>unfold maxLen;omega
     case e4=>omega
     case e5=>first | (simp;omega) | omega
     intro g cap aB A h C aC;have X:=Ea (n:=d.length+1) (c:=cap) h C;have Y:=(r.alloc W (.cells #[.int .i64 (t:Int)] 3)).grown h (by simp;omega) (fun q hq=>(m.lt q hq).1);have Z:=FP A;clear h C A;go_wp2_with fail
     go_ret
     exact ⟨_,rfl,by rw[Aa z];exact Z,Y,V.trans X⟩
set_option maxHeartbeats 3200000
def FQ (F:Int→Nat) (ks:List Int):Nat:=ks.foldl (fun d k=>max d (F k)) 0
theorem TT (F:Int→Nat)(ks:List Int)(k:Int):FQ F (ks ++ [k])=max (FQ F ks) (F k):=by
 rw[FQ,List.foldl_append];rfl
theorem Sd {F:Int→Nat}{M:Nat}(h:∀ k,F k≤M):∀ (ks:List Int) (d:Nat),d≤M→ks.foldl (fun d k=>max d (F k)) d≤M
 | [],d,hd=>hd
 | k ::ks,d,hd=>by
  rw[List.foldl_cons];exact Sd h ks _ (by have:=h k;omega)
theorem JY (K:List (List Int)):∀ (n:Nat) (t:Int),AY K n t≤n+1
 | 0,t=>by rw[AY];show 1≤0+1;omega
 | n+1,t=>by
  rw[AY];dsimp only;have:=Sd (F:=AY K n) (M:=n+1) (JY K n) (K.getD t.toNat []) 0 (by omega);omega
theorem Cc (a:Option Addr)(n c:Nat)(N:List Nd)(q:World)(E:Fe q a n c N)(H:∀ t,(h:t < N.length)→∀ y∈N[t].kids,0≤y∧y < (t:Int)):
  ∀ (fuel t:Nat) (w:World),fuel≤4001→t < n→t < fuel→Below q.heap.size q w→
  Calls Tryz.prog 38 #[.slice a n c,.int .i64 t] w fun e w'=>e= .returned (.int .i64 (AY (N.map Nd.kids) fuel (t:Int)))∧Below w.heap.size w w':=by
 have O:=Ab E.len;have P:=Ab H;clear H;intro fuel
 induction fuel with
 | zero=>intro t w _ _ h;omega
 | succ fuel r=>
  intro t w ad Q ae u;have v:t < N.length:=by rw[Aa O];exact Q
  have af:(t:Int) < (n:Int):=by omega
  have hk:=Aa P t v;have I:=Ab (show AY (N.map Nd.kids) (fuel+1) (t:Int)=FQ (AY (N.map Nd.kids) fuel) N[t].kids+1 by
   rw[AY];dsimp only;rw[Int.toNat_natCast,List.getD_eq_getElem?_getD,List.getElem?_map,List.getElem?_eq_getElem v];rfl)
  have J:=Ab (JY (N.map Nd.kids) fuel);obtain ⟨b,R,rfl,S,an,nn,ag,ah,g,ai,T,c1,c2,c3,c4,U,l⟩:=E.cells t v;have c4:=(u.cell (p:=⟨b,R+t * 5+4,none⟩) S).trans c4;rw[Aa I];clear I T c1 c2 c3;generalize N[t]=x at c4 U l hk ⊢;generalize AY (N.map Nd.kids) fuel=F at r J ⊢;have K:=Ab l.len;have aj:=l.small;have V:=Ab hk;clear hk;go_enter Tryz.func38,Tryz.ntmps38
  go_wp2_with fail
  go_loopw [5,15] (fun d i wr=>∃ j:Nat,j≤g∧i= .int .i64 j∧d= .int .i64 (FQ F (x.kids.take j))∧FQ F (x.kids.take j)≤4001∧Below w.heap.size w wr) (fun _ i _=>g - (intOf i).toNat)
  case atStart=>exact ⟨0,by omega,rfl,rfl,by simp[FQ],BRN⟩
  case round=>
   obtain ⟨j,ak,rfl,rfl,z,f⟩:=hrel;have A:=u.trans (f.mono u.size);by_cases L:j < g
   ·have al:(j:Int) < (g:Int):=by omega
    have B:j < x.kids.length:=by rw[Aa K];exact L
    obtain ⟨ao,ok,rfl,ap,W⟩:=(l.below A NLN).cells j B;obtain ⟨X,Y⟩:=Aa V x.kids[j] (List.getElem_mem B);have m:=Ab (show FQ F (x.kids.take (j+1))=max (FQ F (x.kids.take j)) (F x.kids[j]) by rw[List.take_succ_eq_append_getElem B,TT]);have o:=Ab L;generalize x.kids[j]=y at W X Y m;obtain ⟨s,rfl⟩:∃ s:Nat,y=(s:Int):=⟨y.toNat,by omega⟩
    have aq:=Aa J (s:Int);generalize FQ F (x.kids.take j)=D at z m;by_cases ar:D < F (s:Int)
    ·have Z:(D:Int) < (F (s:Int):Int):=by omega
     have k:=Ab (show FQ F (x.kids.take (j+1))=F (s:Int) by rw[Aa m];omega);go_wp2_with (go_at_call 38;refine (r s wr (by omega) (by omega) (by omega) A).mono ?_;rintro e aa ⟨rfl,C⟩)
     go_roundw
     case rel=>exact ⟨j+1,Aa o,by go_num,by rw[Aa k],by rw[Aa k];omega,f.trans (C.mono f.size)⟩
     case measure=>have:=Aa o;simp[intOf];omega
    ·have Z: ¬ ((D:Int) < (F (s:Int):Int)):=by omega
     have k:=Ab (show FQ F (x.kids.take (j+1))=D by rw[Aa m];omega);go_wp2_with (go_at_call 38;refine (r s wr (by omega) (by omega) (by omega) A).mono ?_;rintro e aa ⟨rfl,C⟩)
     go_roundw
     case rel=>exact ⟨j+1,Aa o,by go_num,by rw[Aa k],by rw[Aa k];omega,f.trans (C.mono f.size)⟩
     case measure=>have:=Aa o;simp[intOf];omega
   ·have e:j=g:=by omega
    subst e;have ab:=Ab (show x.kids.take j=x.kids from List.take_of_length_le (by rw[Aa K];exact NLN));rw[Aa ab] at z ⊢;generalize M:FQ F x.kids=D at z ⊢;have ac:=Ab M;clear M;go_wp2_with fail
    go_ret
    exact ⟨by rw[Aa ac,Int.natCast_add];rfl,f⟩
def MY (L:List St) (j:Nat) (h:j < L.length):Bool:=BZ (decide (j+1=L.length)) L[j]
theorem ID:∀ (L:List St),EV L=true↔∀ j,(h:j < L.length)→MY L j h=true
 | []=>by simp[EV]
 | s ::r=>by
  rw[EV,Bool.and_eq_true,ID r];have e:r.isEmpty=decide (0+1=(s ::r).length):=by cases r <;> simp
  constructor
  ·rintro ⟨h1,h2⟩ j a;cases j with
   | zero=>rw[e] at h1;exact h1
   | succ j=>
    have:=h2 j (by simpa using a);rw[MY] at this ⊢;simp only[List.getElem_cons_succ,List.length_cons] at this ⊢;rw[show decide (j+1+1=r.length+1)=decide (j+1=r.length) by rw[decide_eq_decide];omega];exact this
  ·intro h;refine ⟨by rw[e];exact h 0 (by simp),fun j a=>?_⟩;have:=h (j+1) (by simpa using a);rw[MY] at this ⊢;simp only[List.getElem_cons_succ,List.length_cons] at this;rw[show decide (j+1+1=r.length+1)=decide (j+1=r.length) by rw[decide_eq_decide];omega] at this;exact this
theorem MZ (L:List St)(k:Nat)(h:k < L.length):(L.take (k+1)).flatMap As=(L.take k).flatMap As ++As L[k]:=by
 rw[List.take_succ_eq_append_getElem h,List.flatMap_append];simp
def Jt (K:List (List Int)) (n:Nat) (rs:List Int):List Int:=rs.foldl (fun o r=>AT K n r o) []
theorem Sk (K:List (List Int))(n:Nat)(rs a:List Int):Jt K n (rs ++a)=a.foldl (fun b r=>AT K n r b) (Jt K n rs):=by rw[Jt,List.foldl_append,Jt]
theorem TW {N:List Nd}(h:N.all Aq=true):∀ ks∈N.map Nd.kids,ks.length≤3:=by
 intro ks hk;obtain ⟨x,hx,rfl⟩:=List.mem_map.1 hk;have:=List.all_eq_true.1 h x hx;rw[MQ,Bool.and_eq_true] at this;have h1:=of_decide_eq_true this.1;unfold Fx at h1;split at h1
 ·omega
 ·split at h1
  ·omega
  ·split at h1
   ·omega
   ·split at h1 <;> omega
theorem AH.kids {K:List (List Int)}{a b:Nat}{c:List (Nat × Nat)}(h:AH K a c b):∀ j,a≤j→j < b→∃ ks,K[j]? =some (Ar ks)∧∀ p∈ks,p.1 < j:=by
 induction h with
 | nil a=>intro j h1 h2;omega
 | cons hk ht hf d f=>
  rename_i a t b ks c;intro j h1 h2;rcases Nat.lt_trichotomy j t with e | e | e
  ·exact d j h1 e
  ·subst e;exact ⟨ks,ht,fun p g=>(hk.lt p g).2⟩
  ·exact f j (by omega) h2
theorem TX {N:List Nd}{n:Nat}{rs:List Int}(i:N.length=n)(c:(Jt (N.map Nd.kids) n rs).length=n)(d:good (Jt (N.map Nd.kids) n rs)):
  (∀ t,(h:t < N.length)→∀ y∈N[t].kids,0≤y∧y < (t:Int))∧∀ r∈rs,0≤r∧r < (n:Int):=by
 obtain ⟨f,e1,hf⟩:=Iy (K:=N.map Nd.kids) (n:=n) rs [] d;have hf':AH (N.map Nd.kids) 0 f n:=by
  have:(rs.foldl (fun g k=>AT (N.map Nd.kids) n k g) []).length=n:=c;rw[this] at hf;exact hf
 constructor
 ·intro t h y hy;obtain ⟨ks,h1,h2⟩:=hf'.kids t (Nat.zero_le _) (by omega);rw[List.getElem?_map,List.getElem?_eq_getElem h] at h1;have h3:N[t].kids=Ar ks:=by simpa using h1
  rw[h3] at hy;obtain ⟨p,a,rfl⟩:=List.mem_map.1 hy;have:=h2 p a;omega
 ·intro r b;rw[← e1] at b;obtain ⟨p,a,rfl⟩:=List.mem_map.1 b;have:=hf'.lt p a;omega
end Go.Proofs.YtoplnhndilmlcaaGreatDoor
namespace Go.Proofs.YtoplnhndilmlcaaGreatDoor
set_option maxRecDepth 100000
set_option maxHeartbeats 1600000
open Go.RowKit
set_option linter.unusedVariables false
def Er:Ex→Pt→Prop
 | .int i n,.int j m=>i=j∧n=m
 | .text i s,.text j t=>i=j∧s=t
 | .bool i b,.bool j d=>i=j∧b=d
 | .set i _ _ _ K,.set j ss=>i=j∧Bz ss K
 | .name i s,.name j t=>i=j∧s=t
 | .un i op k,.un j o q=>i=j∧op=o∧Er k q
 | .bin i op l r,.bin j o p q=>i=j∧op=o∧Er l p∧Er r q
 | .ite i c t e,.ite j x y z=>i=j∧Er c x∧Er t y∧Er e z
 | _,_=>False
def Ex.own (lo:Nat) (w:World):Ex→Prop
 | .set _ a n c ss=>w.ownsRow lo 9 1 (.slice a n c) n (ss.map Value.string)
 | .un _ _ k=>k.own lo w
 | .bin _ _ l r=>l.own lo w∧r.own lo w
 | .ite _ c t e=>c.own lo w∧t.own lo w∧e.own lo w
 | _=>True
theorem Ex.own_touch {b:Nat}{w w':World}(T:Ai b (b+1) w w'):∀ (e:Ex),e.own (b+1) w→e.own (b+1) w'
 | .int ..,h=>h
 | .text ..,h=>h
 | .bool ..,h=>h
 | .set _ a n c ss,h=>by
  have d:w.ownsRow (b+1) 9 1 (.slice a n c) n (ss.map Value.string):=h;exact Ac d (fun q hq=>T.block q (d.lt q hq).2 (.inr (d.lt q hq).1))
 | .name ..,h=>h
 | .attr ..,h=>h
 | .lett ..,h=>h
 | .un _ _ k,h=>k.own_touch T h
 | .bin _ _ l r,h=>⟨l.own_touch T h.1,r.own_touch T h.2⟩
 | .ite _ c t e,h=>⟨c.own_touch T h.1,t.own_touch T h.2.1,e.own_touch T h.2.2⟩
def Gs (v:Value):Prop:=v= .nilIface∨∃ t u,v= .iface t u
def EW (aY:Addr) (pb g c:Nat) (T:List Ae) (tl:Nat):PR→World→Ending→World→Prop
 | .ok p q,w,r,w'=>(∃ e k,r= .returned (.tuple #[Ex.val e,.nilIface])∧Er e p∧e.own (pb+1) w'∧Pp w' pb g c T tl q k)∧Ai pb (pb+1) w w'
 | .bad q,w,r,w'=>(∃ v b,r= .returned (.tuple #[v,By b])∧Gs v∧Wx aY tl q b w')∧Ai pb (pb+1) w w'
theorem EW.from {aY:Addr}{a g c:Nat}{T:List Ae}{b:Nat}{x:PR}{d w w':World}{r:Ending}(h:EW aY a g c T b x w r w')(f:Ai a (a+1) d w):EW aY a g c T b x d r w':=by
 cases x with
 | ok p q=>exact ⟨h.1,f.trans h.2⟩
 | bad q=>exact ⟨h.1,f.trans h.2⟩
theorem Ex.val_if (e:Ex):Gs e.val:= .inr (by obtain ⟨t,u,h⟩:=e.form;exact ⟨t,u,h⟩)
theorem EW.form {aY:Addr}{a g c:Nat}{T:List Ae}{d:Nat}{x:PR}{w w':World}{r:Ending}(h:EW aY a g c T d x w r w'):∃ v e,r= .returned (.tuple #[v,e])∧Gs v∧Gs e:=by
 cases x with
 | ok p q=>obtain ⟨⟨e,k,rfl,_⟩,_⟩:=h;exact ⟨_,_,rfl,e.val_if,.inl rfl⟩
 | bad q=>obtain ⟨⟨v,b,rfl,f,_⟩,_⟩:=h;exact ⟨_,_,rfl,f,.inr ⟨_,_,rfl⟩⟩
def NT.fn:NT→Nat
 | .expr=>148
 | .chain _=>159
 | .opd _=>165
 | .neg=>169
 | .cmp=>172
 | .una=>170
 | .prim=>173
 | .encl=>174
 | .beh _=>135
 | .more _ _=>0
def NT.args (pb:Nat):NT→Array Value
 | .chain k=>#[.pointer (some ⟨pb,0,none⟩),.int .i64 (k:Int)]
 | .opd k=>#[.pointer (some ⟨pb,0,none⟩),.int .i64 (k:Int)]
 | .beh s=>#[.pointer (some ⟨pb,0,none⟩),.string (Bg s)]
 | _=>#[.pointer (some ⟨pb,0,none⟩)]
def CS (aY:Addr) (pb g c:Nat) (T:List Ae) (tl:Nat) (nt:NT) (ts:List Ae) (x:PR):Prop:=
 ∀ w k,Pp w pb g c T tl ts k→Gy w aY→Calls Tryz.prog nt.fn (nt.args pb) w (EW aY pb g c T tl x w)
variable {aY : Addr} {pb g c : Nat} {T : List Ae} {tl : Nat}
theorem WQ (o: 16≤pb)(s:List UInt8)(f:List Ae)(x:PR)(d:D (.beh s) f x)(i:∀ r x,D .expr r x→r.length < f.length→CS aY pb g c T tl .expr r x):CS aY pb g c T tl (.beh s) f x:=by
 intro w k h a;show Calls Tryz.prog 135 #[.pointer (some ⟨pb,0,none⟩),.string (Bg s)] w (EW aY pb g c T tl x w);cases d with
 | beh_no hs=>
  have j:=Ab (DF h a s hs);clear h hs a i;go_enter Tryz.func135,Tryz.ntmps135
  go_wp2_with fail
  refine (Aa j).mono ?_;rintro e m ⟨b,rfl,p,q⟩;dsimp only[By];go_wp2_with fail
  go_ret2
  exact ⟨⟨.nilIface,b,rfl,.inl rfl,p⟩,Ai.of_below q NLN⟩
 | @beh s t r x hs d=>
  have j:=Ab (CI h s hs);have u:=Ab (i r x d (by simp));have y:=Ab a;clear h hs a i;go_enter Tryz.func135,Tryz.ntmps135
  go_wp2_with fail
  refine (Aa j).mono ?_;rintro e m ⟨rfl,z,n⟩;dsimp only;go_wp2_with fail
  refine (Aa u m _ z ((Aa y).touch n o)).mono ?_;intro r B l;obtain ⟨v,e,rfl,C,he⟩:=l.form;have A:=Ab (l.from n);clear l;dsimp only;go_wp2_with fail
  go_ret2
  exact Aa A
theorem U8 (y: 16≤pb)(f:List Ae)(x:PR)(d:D .encl f x)(i:∀ x,D (.beh AV) f x→CS aY pb g c T tl (.beh AV) f x):CS aY pb g c T tl .encl f x:=by
 intro w k h a;show Calls Tryz.prog 174 #[.pointer (some ⟨pb,0,none⟩)] w (EW aY pb g c T tl x w);have z:=Ab a;cases d with
 | encl_bad d=>
  have l:=Ab (i _ d w k h a);clear h a i;go_enter Tryz.func174,Tryz.ntmps174
  go_wp2_with fail
  refine (Aa l).mono ?_;rintro e q ⟨⟨v,b,rfl,A,B⟩,j⟩;rcases A with rfl | ⟨M,N,rfl⟩
  all_goals
   dsimp only[By];go_wp2_with fail
   go_ret2
   exact ⟨⟨.nilIface,b,rfl,.inl rfl,B⟩,j⟩
 | @encl_end f r p d hs=>
  have l:=Ab (i _ d w k h a);clear h a i;go_enter Tryz.func174,Tryz.ntmps174
  go_wp2_with fail
  refine (Aa l).mono ?_;rintro e q ⟨⟨e,C,rfl,he,n,m⟩,j⟩;obtain ⟨E,F,hf⟩:=e.form;rw[hf];dsimp only;have o:=Ab (DF m ((Aa z).touch j y) Br hs);clear m;go_wp2_with fail
  refine (Aa o).mono ?_;rintro e H ⟨b,rfl,I,J⟩;dsimp only[By];go_wp2_with fail
  go_ret2
  exact ⟨⟨_,b,rfl,.inr ⟨_,_,rfl⟩,I⟩,j.allP J⟩
 | @encl f r p t d hs=>
  have l:=Ab (i _ d w k h a);clear h a i;go_enter Tryz.func174,Tryz.ntmps174
  go_wp2_with fail
  refine (Aa l).mono ?_;rintro e q ⟨⟨e,C,rfl,he,n,m⟩,j⟩;obtain ⟨E,F,hf⟩:=e.form;have s:=Ab (And.intro he n);rw[hf];have K:=Ab hf;clear he n hf;dsimp only;have o:=Ab (CI m Br hs);clear m;go_wp2_with fail
  refine (Aa o).mono ?_;rintro e H ⟨rfl,L,u⟩;dsimp only;go_wp2_with fail
  go_ret2
  exact ⟨⟨e,_,by rw[Aa K];rfl,(Aa s).1,e.own_touch u (Aa s).2,L⟩,j.trans u⟩
end Go.Proofs.YtoplnhndilmlcaaGreatDoor
namespace Go.Proofs.YtoplnhndilmlcaaGreatDoor
set_option maxRecDepth 100000
set_option maxHeartbeats 3200000
open Go.RowKit
set_option linter.unusedVariables false
variable {aY : Addr} {pb g c : Nat} {T : List Ae} {tl : Nat}
theorem Zb:∀ j,j < 16→(Al (DZ j).text,(DZ j).op)∈Cn (DZ j).lv.toNat∧0≤(DZ j).lv
 | 0,_=>by decide
 | 1,_=>by decide
 | 2,_=>by decide
 | 3,_=>by decide
 | 4,_=>by decide
 | 5,_=>by decide
 | 6,_=>by decide
 | 7,_=>by decide
 | 8,_=>by decide
 | 9,_=>by decide
 | 10,_=>by decide
 | 11,_=>by decide
 | 12,_=>by decide
 | 13,_=>by decide
 | 14,_=>by decide
 | 15,_=>by decide
 | n+16,h=>absurd h (by omega)
theorem Zc {k:Nat}{p:List UInt8 × Int}(h:p∈Cn k):∃ j,j < 16∧(DZ j).lv=(k:Int)∧Al (DZ j).text=p.1:=by
 have a1:∀ p∈Cn 1,∃ j,j < 16∧(DZ j).lv=((1 :Nat):Int)∧Al (DZ j).text=p.1:=by decide
 have a2:∀ p∈Cn 2,∃ j,j < 16∧(DZ j).lv=((2 :Nat):Int)∧Al (DZ j).text=p.1:=by decide
 have a4:∀ p∈Cn 4,∃ j,j < 16∧(DZ j).lv=((4 :Nat):Int)∧Al (DZ j).text=p.1:=by decide
 have a5:∀ p∈Cn 5,∃ j,j < 16∧(DZ j).lv=((5 :Nat):Int)∧Al (DZ j).text=p.1:=by decide
 have a6:∀ p∈Cn 6,∃ j,j < 16∧(DZ j).lv=((6 :Nat):Int)∧Al (DZ j).text=p.1:=by decide
 match k,h with
 | 0,h | 3,h=>cases h
 | 1,h=>exact a1 p h
 | 2,h=>exact a2 p h
 | 4,h=>exact a4 p h
 | 5,h=>exact a5 p h
 | 6,h=>exact a6 p h
 | k+7,h=>cases h
theorem Zd {k:Nat} :∀ p∈Cn k,∀ q∈Cn k,p.1=q.1→p=q:=by
 match k with
 | 0 | 3=>intro p h;cases h
 | 1=>decide
 | 2=>decide
 | 4=>decide
 | 5=>decide
 | 6=>decide
 | k+7=>intro p h;cases h
theorem WU {k:Nat}{t:Ae}{s:List UInt8}{op:Int}(h:(s,op)∈Cn k)(hs:see s t=true):Co k t=some op:=by
 cases hf:(Cn k).find? (fun p=>see p.1 t) with
 | none=>rw[List.find?_eq_none] at hf;exact absurd hs (hf _ h)
 | some q=>
  have h1:=List.mem_of_find?_eq_some hf;have h2:see q.1 t=true:=by have:=List.find?_some hf;simpa using this
  have e:s=q.1:=by
   by_cases e:s=q.1
   ·exact e
   ·rw[Am hs e] at h2;cases h2
  have:=Zd _ h _ h1 e;rw[Co,hf,← this];rfl
theorem U9 {k:Nat}{t:Ae}(h:∀ j,j < 16→(DZ j).lv=(k:Int)→see (Al (DZ j).text) t=false):Co k t=none:=by
 rw[Co,Option.map_eq_none_iff,List.find?_eq_none];intro p a;obtain ⟨j,b,h1,h2⟩:=Zc a;have:=h j b h1;rw[h2] at this;simp[this]
def Ze (k:Nat) (t:Ae) (r:Ending):Prop:=match Co k t with
 | some op=>∃ tx,r= .returned (.tuple #[.agg #[.int .i64 op,.int .i64 (k:Int),.string tx],.bool true])
 | none=>r= .returned (.tuple #[.agg #[.int .i64 0,.int .i64 0,.string ⟨#[]⟩],.bool false])
theorem ED (lv:Nat){w:World}{b:List Ae}{k:Nat}(h:Pp w pb g c T tl b k)(v:Gy w aY):
  Calls Tryz.prog 166 #[.pointer (some ⟨pb,0,none⟩),.int .i64 (lv:Int)] w fun e w'=>Ze lv (CX tl b) e∧Below w.heap.size w w':=by
 have Z:=v.big;have K:=Ab (show ∀ k,(w.alloc (.cells #[.int .i64 0,.int .i64 0,.string ⟨#[]⟩] 187)).cell? ⟨10,k,none⟩=Eh[k]? from fun k=>(World.cell?_alloc_lt _ _ ⟨10,k,none⟩ (by show 10 < _;omega)).trans (v.tab k));have O:=Ab h;clear v h;have L:=(Below.refl w.heap.size w).alloc NLN (.cells #[.int .i64 0,.int .i64 0,.string ⟨#[]⟩] 187);have M:=Aj.new w #[.int .i64 0,.int .i64 0,.string ⟨#[]⟩] 187;go_enter Tryz.func166,Tryz.ntmps166
 go_wp2_with (refine Ds rfl 212 _ rfl 10 rfl Eh _ (Aa K) Tryz.underlying212 rfl (by kernel_rfl) ?_)
 clear K;go_loopw [9] (fun i wr=>∃ j:Nat,j≤16∧i= .int .i64 j∧Below w.heap.size w wr∧Aj wr w.heap.size #[.int .i64 0,.int .i64 0,.string ⟨#[]⟩] 187∧∀ i,i < j→(DZ i).lv=(lv:Int)→see (Al (DZ i).text) (CX tl b)=false) (fun i _=>16 - (intOf i).toNat)
 case atStart=>exact ⟨0,by omega,rfl,L,M,fun j h=>absurd h (by omega)⟩
 case round=>
  obtain ⟨j,aa,rfl,x,o,N⟩:=hrel;have q:=Ab N;clear N L M;by_cases r:j < 16
  ·have ab:(j:Int) < 16:=by omega
   have t:=Ab (IL j r);have y:=Ab (Zb j r);have f:=Ab r;have m:=Ab (show ((DZ j).lv=(lv:Int)→see (Al (DZ j).text) (CX tl b)=false)→∀ i,i < j+1→(DZ i).lv=(lv:Int)→see (Al (DZ i).text) (CX tl b)=false from fun e i hi=>by
    by_cases P:i=j
    ·subst P;exact e
    ·exact Aa q i (by omega))
   clear q r;generalize DZ j=a at t m y;have n:=x.alloc x.size (.cells #[.int .i64 a.op,.int .i64 a.lv,.string a.text] 187);have u:=o.alloc (.cells #[.int .i64 a.op,.int .i64 a.lv,.string a.text] 187);have Q:=Aj.new wr #[.int .i64 a.op,.int .i64 a.lv,.string a.text] 187;by_cases d:a.lv=(lv:Int)
   ·have R:(a.lv==(lv:Int))=true:=beq_iff_eq.2 d;have z:=Ab (AD ((Aa O).below n) (Al a.text));rw[Cv] at z;cases hs:see (Al a.text) (CX tl b)
    ·have A:=Ab (Aa m (fun _=>hs));have B:=Ab (show Aw (Al a.text) b=false by rw[← SB (Al a.text) tl b];exact hs);clear d m hs;go_wp2_with (first | (refine Be rfl 212 _ _ rfl Eh rfl j rfl 16 187 Tryz.underlying212 (Aa f) _ Tryz.underlying187 rfl 3 (by kernel_rfl) _ (Aa t) ?_) | (go_at_call 111;refine (Aa z).mono ?_;rintro e S ⟨rfl,l⟩;rw[Aa B]))
     have C:=n.trans (l.mono n.size);have E:=u.after l NLN;go_roundw
     case rel=>exact ⟨j+1,Aa f,by go_num,C,E,Aa A⟩
     case measure=>have:=Aa f;simp[intOf];omega
    ·have B:=Ab (show Aw (Al a.text) b=true by rw[← SB (Al a.text) tl b];exact hs);have F:=Ab (show Co lv (CX tl b)=some a.op from WU (s:=Al a.text) (by have:=(Aa y).1;rw[d] at this;exact this) hs);have U:=Ab d;clear m hs d y;have ac:=o.lt;have nz:wr.heap.size≠w.heap.size:=by omega
     have ad:w.heap.size≠wr.heap.size:=by omega
     go_wp2_with (first | (refine Be rfl 212 _ _ rfl Eh rfl j rfl 16 187 Tryz.underlying212 (Aa f) _ Tryz.underlying187 rfl 3 (by kernel_rfl) _ (Aa t) ?_) | (go_at_call 111;refine (Aa z).mono ?_;rintro e S ⟨rfl,l⟩;rw[Aa B];obtain ⟨V,W,q2,X⟩:=Gt (u.after l NLN);obtain ⟨ae,af,ag,ah⟩:=Gt (Q.after l NLN)))
     have C:=n.trans (l.mono n.size);have E:=u.after l NLN;have H:Aj _ w.heap.size #[.int .i64 a.op,.int .i64 a.lv,.string a.text] 187:=(((E.set 0 (.int .i64 a.op)).set 1 (.int .i64 a.lv)).set 2 (.string a.text))
     have I:=(((C.setCell (p:=⟨w.heap.size,0,none⟩) NLN (.int .i64 a.op)).setCell (p:=⟨w.heap.size,1,none⟩) NLN (.int .i64 a.lv)).setCell (p:=⟨w.heap.size,2,none⟩) NLN (.string a.text))
     obtain ⟨J,g1,g2,Y⟩:=Gt H;exact bodyPost_ret (IM Tryz.results166 rfl rfl J g1 g2) rfl ⟨by rw[Ze,Aa F,Aa U];exact ⟨_,rfl⟩,I⟩
   ·have R:(a.lv==(lv:Int))=false:=beq_eq_false_iff_ne.2 d;have A:=Ab (Aa m (fun e=>absurd e d));clear d m;go_wp2_with (refine Be rfl 212 _ _ rfl Eh rfl j rfl 16 187 Tryz.underlying212 (Aa f) _ Tryz.underlying187 rfl 3 (by kernel_rfl) _ (Aa t) ?_)
    go_roundw
    case rel=>exact ⟨j+1,Aa f,by go_num,n,u,Aa A⟩
    case measure=>have:=Aa f;simp[intOf];omega
  ·have e:j=16:=by omega
   subst e;have F:=Ab (show Co lv (CX tl b)=none from U9 (Aa q));clear q;obtain ⟨V,W,q2,X⟩:=Gt o;go_wp2_with fail
   have H:Aj _ w.heap.size #[.int .i64 0,.int .i64 0,.string ⟨#[]⟩] 187:=((o.set 0 (.int .i64 0)).set 1 (.int .i64 0)).set 2 (.string ⟨#[]⟩);have I:=(((x.setCell (p:=⟨w.heap.size,0,none⟩) NLN (.int .i64 0)).setCell (p:=⟨w.heap.size,1,none⟩) NLN (.int .i64 0)).setCell (p:=⟨w.heap.size,2,none⟩) NLN (.string ⟨#[]⟩))
   obtain ⟨J,g1,g2,Y⟩:=Gt H;exact bodyPost_ret (IM Tryz.results166 rfl rfl J g1 g2) rfl ⟨by rw[Ze,Aa F];rfl,I⟩
end Go.Proofs.YtoplnhndilmlcaaGreatDoor
namespace Go.Proofs.YtoplnhndilmlcaaGreatDoor
set_option maxRecDepth 100000
set_option maxHeartbeats 1600000
open Go.RowKit
set_option linter.unusedVariables false
variable {aY : Addr} {pb g c : Nat} {T : List Ae} {tl : Nat}
theorem Aj.touchP {w w':World}{b lo hi:Nat}{cs:Array Value}{t:TypeId}(h:Aj w b cs t)(T:Ai lo hi w w')(a:b < lo∨hi≤b):Aj w' b cs t:=⟨(T.block b h.lt a).trans h.out⟩
def PR.two (i:Nat) (op:Int) (p:Pt):PR→PR
 | .ok f q=> .ok (.bin i op p f) q
 | .bad q=> .bad q
theorem J9 (L: 16≤pb)(lv:Nat)(op:Int)(f:ByteArray)(a:Ex)(o:Pt)(t:Ae)(r:List Ae)(x:PR)(w:World)(k:Nat)(h:Pp w pb g c T tl (t ::r) k)(s:Gy w aY)(h0:Er a o)(u:a.own (pb+1) w)(y:CS aY pb g c T tl (.opd lv) r x):
  Calls Tryz.prog 167 #[.pointer (some ⟨pb,0,none⟩),.agg #[.int .i64 op,.int .i64 (lv:Int),.string f],a.val] w (EW aY pb g c T tl (x.two t.at_ op o) w):=by
 have M:Hid (∀ w' i,Pp w' pb g c T tl r i→Gy w' aY→Calls Tryz.prog 165 #[.pointer (some ⟨pb,0,none⟩),.int .i64 (lv:Int)] w' (EW aY pb g c T tl x w')):=Ab (fun w' i N=>y w' i N);have aa:=Cp (.int .i64 t.kind) (.int .i64 t.num) (.string t.text) (.int .i64 (t.at_:Int));obtain ⟨ab,ac,j⟩:=a.form;rw[j];have l:=(Below.refl w.heap.size w).alloc NLN (.cells #[.int .i64 op,.int .i64 (lv:Int),.string f] 187);have O:=Aj.new w #[.int .i64 op,.int .i64 (lv:Int),.string f] 187;have P:=Ab (Bm (h.below l));have Q:=Ab (s.below l);have R:=Ab j;have z:=Ab (And.intro h0 u);have nz:=h.row.lt;clear h s y h0 u j;go_enter Tryz.func167,Tryz.ntmps167
 go_wp2_with fail
 generalize S:w.alloc (.cells #[.int .i64 op,.int .i64 (lv:Int),.string f] 187)=ad at *;clear S;refine (Aa P).mono ?_;rintro e U ⟨rfl,A,m⟩;have B:=O.touchP m (.inr nz);have n:=(Ai.of_below (lo:=pb) (hi:=pb+1) l NLN).trans m;obtain ⟨C,E,F,H⟩:=Gt B;dsimp only[Cf];go_wp2_with fail
 refine (Aa M U _ A ((Aa Q).touch m L)).mono ?_;intro ae af I;clear A C E F H;cases x with
 | bad q=>
  obtain ⟨⟨v,b,rfl,V,W⟩,d⟩:=I;rcases V with rfl | ⟨ag,ah,rfl⟩
  all_goals
   dsimp only[By];go_wp2_with fail
   go_ret2
   exact ⟨⟨.nilIface,b,rfl,.inl rfl,W⟩,n.trans d⟩
 | ok p q=>
  obtain ⟨⟨e,X,rfl,he,J,Y⟩,d⟩:=I;obtain ⟨ai,aj,hf⟩:=e.form;have K:=Ab (And.intro he J);rw[hf];have Z:=Ab hf;clear he J hf;obtain ⟨C,E,F,H⟩:=Gt (B.touchP d (.inr nz));dsimp only;go_wp2_with fail
  go_ret2
  exact ⟨⟨.bin t.at_ op a e,X,by rw[Ex.val,Aa Z,Aa R];rfl,⟨rfl,rfl,(Aa z).1,(Aa K).1⟩,⟨a.own_touch (n.trans d) (Aa z).2,(Aa K).2⟩,Y⟩,n.trans d⟩
end Go.Proofs.YtoplnhndilmlcaaGreatDoor
namespace Go.Proofs.YtoplnhndilmlcaaGreatDoor
set_option maxRecDepth 100000
set_option maxHeartbeats 3200000
open Go.RowKit
set_option linter.unusedVariables false
variable {aY : Addr} {pb g c : Nat} {T : List Ae} {tl : Nat}
theorem Qk {P:Nat→Prop} :∀ n,P n→∃ m,P m∧∀ i,P i→m≤i:=by
 intro n
 induction n using Nat.strongRecOn with
 | ind n a=>
  intro h;by_cases hx:∃ i,i < n∧P i
  ·obtain ⟨i,hi,b⟩:=hx;exact a i hi b
  ·exact ⟨n,h,fun i hi=>by
    by_cases c:i < n
    ·exact absurd ⟨i,c,hi⟩ hx
    ·omega⟩
open Classical in
noncomputable def BJ (P:Nat→Prop):Nat:=if h:∃ m,P m∧∀ i,P i→m≤i then Classical.choose h else 0
theorem Gu {P:Nat→Prop}(h:∃ n,P n):P (BJ P):=by
 obtain ⟨n,a⟩:=h;have hx:=Qk n a;rw[BJ,dif_pos hx];exact (Classical.choose_spec hx).1
theorem Va {P:Nat→Prop}{n:Nat}(h:P n):BJ P≤n:=by
 have hx:=Qk n h;rw[BJ,dif_pos hx];exact (Classical.choose_spec hx).2 n h
theorem JB {P a:Nat→Prop}{n:Nat}(h:n < BJ P)(hq:a n):BJ a < BJ P:=Nat.lt_of_le_of_lt (Va hq) h
theorem Ul (k:Nat)(a:Nat)(b:List Ae):OF k b=Co k (CX a b):=by
 cases b with
 | nil=>
  show none=_;rw[Co,Eq.comm,Option.map_eq_none_iff,List.find?_eq_none];intro p _;show ¬ see p.1 (eT a)=true;rw[show see p.1 (eT a)=false from rfl];decide
 | cons t r=>rfl
def Zf (aY:Addr) (pb g c:Nat) (T:List Ae) (tl:Nat) (lv:Nat) (ts:List Ae) (x:PR) (w:World) (n:Nat) (v e:Value) (wr:World):Prop:=
 ((∃ q b,e=By b∧Gs v∧x= .bad q∧Wx aY tl q b wr∧n=0)∨
   (∃ e0 p0 r k,e= .nilIface∧v=Ex.val e0∧Er e0 p0∧e0.own (pb+1) wr∧Pp wr pb g c T tl r k∧D (.more lv p0) r x∧r.length < ts.length∧n=r.length+1))∧Ai pb (pb+1) w wr
theorem SD (Q: 16≤pb)(lv:Nat)(a:List Ae)(x:PR)(d:D (.chain lv) a x)(S:∀ r x,D (.opd lv) r x→r.length≤a.length→CS aY pb g c T tl (.opd lv) r x):CS aY pb g c T tl (.chain lv) a x:=by
 intro w ax h U;show Calls Tryz.prog 159 #[.pointer (some ⟨pb,0,none⟩),.int .i64 (lv:Int)] w (EW aY pb g c T tl x w);have V:∃ y,D (.opd lv) a y∧(∀ q,y= .bad q→x= .bad q)∧(∀ e r,y= .ok e r→D (.more lv e) r x∧r.length < a.length):=by
  cases d with
  | chain_bad d=>exact ⟨_,d,fun q e=>(by cases e;rfl),fun e r h=>by cases h⟩
  | chain d d2=>exact ⟨_,d,fun q e=>(by cases e),fun e r h=>by cases h;exact ⟨d2,d.less rfl⟩⟩
 obtain ⟨y,E,F,H⟩:=V;have ay:Hid (Calls Tryz.prog 165 #[.pointer (some ⟨pb,0,none⟩),.int .i64 (lv:Int)] w (EW aY pb g c T tl y w)):=Ab (S _ _ E NLN w ax h U);have I:=Ab (And.intro F H);have ah:=Ab U;have az:=Ab S;clear h U S F H E d;go_enter Tryz.func159,Tryz.ntmps159
 go_wp2_with fail
 refine (Aa ay).mono ?_;intro r aA s;have J:Hid (∃ v e,r= .returned (.tuple #[v,e])∧Gs v∧Gs e∧∃ n,Zf aY pb g c T tl lv a x w n v e aA):=by
  cases y with
  | bad q=>
   obtain ⟨⟨v,b,rfl,i,R⟩,j⟩:=s;exact ⟨v,_,rfl,i,.inr ⟨_,_,rfl⟩,0,.inl ⟨q,b,rfl,i,(Aa I).1 q rfl,R,rfl⟩,j⟩
  | ok p q=>
   obtain ⟨⟨e,W,rfl,he,z,X⟩,aB⟩:=s;obtain ⟨d2,K⟩:=(Aa I).2 p q rfl;exact ⟨_,_,rfl,e.val_if,.inl rfl,q.length+1,.inr ⟨e,p,q,W,rfl,rfl,he,z,X,d2,K,rfl⟩,aB⟩
 obtain ⟨v,e,rfl,i,he,n,l⟩:=Aa J;clear J s;have A:=Ab l;clear l;dsimp only;go_wp2_with fail
 go_loopw [6,7] (fun v e wr=>∃ n,Zf aY pb g c T tl lv a x w n v e wr) (fun v e wr=>BJ (fun n=>Zf aY pb g c T tl lv a x w n v e wr))
 case atStart=>exact ⟨n,Aa A⟩
 case round=>
  clear A i he;have K:=Gu hrel;have N:=Ab (show ∀ n Y e' w',n < BJ (fun n=>Zf aY pb g c T tl lv a x w n u6 u7 wr)→Zf aY pb g c T tl lv a x w n Y e' w'→BJ (fun n=>Zf aY pb g c T tl lv a x w n Y e' w') < BJ (fun n=>Zf aY pb g c T tl lv a x w n u6 u7 wr) from fun n Y e' w' h1 h2=>JB h1 h2);generalize ai:BJ (fun n=>Zf aY pb g c T tl lv a x w n u6 u7 wr)=m at K N;have aj:=Ab ai;clear ai;clear hrel;obtain ⟨⟨q,b,rfl,i,hx,R,hm⟩ | ⟨L,Z,r,k,rfl,rfl,he,z,aa,ak,al,hm⟩,j⟩:=K
  ·have ab:=Ab hx;clear hx hm N;rcases i with rfl | ⟨aE,aF,rfl⟩
   all_goals
    dsimp only[By];go_wp2_with fail
    go_ret2
    rw[Aa ab];exact ⟨⟨.nilIface,b,rfl,.inl rfl,R⟩,j⟩
  ·have ao:=Ab (ED (aY:=aY) lv aa ((Aa ah).touch j Q));have ap:=Ab aa;have O:=Ab (And.intro he z);have ac:=Ab (And.intro al hm);have V:(Co lv (CX tl r)=none∧x= .ok Z r)∨(∃ t u op y,r=t ::u∧Co lv t=some op∧D (.opd lv) u y∧(∀ q,y= .bad q→x= .bad q)∧(∀ f q,y= .ok f q→D (.more lv (.bin t.at_ op Z f)) q x∧q.length < u.length)):=by
    cases ak with
    | more_no h=>exact .inl ⟨by rw[← Ul];exact h,rfl⟩
    | @more_bad _ _ t r q op h d=>exact .inr ⟨t,r,op,_,rfl,h,d,fun q e=>(by cases e;rfl),fun f q e=>by cases e⟩
    | @more _ _ f t r q op x h d d2=>exact .inr ⟨t,r,op,_,rfl,h,d,fun q e=>(by cases e),fun f q e=>by cases e;exact ⟨d2,d.less rfl⟩⟩
   clear he z al hm ak aa;obtain ⟨aG,aH,B⟩:=L.form;rcases V with ⟨l,hx⟩ | ⟨t,u,op,y,rfl,aq,E,F,H⟩
   ·have ab:=Ab hx;have A:=Ab l;have ar:=Ab B;rw[B];clear hx l B N;go_wp2_with fail
    refine (Aa ao).mono ?_;rintro ad aC ⟨M,C⟩;rw[Ze,Aa A] at M;subst M;dsimp only;go_wp2_with fail
    go_ret2
    rw[Aa ab];have o:=C.alloc C.size (.cells #[.int .i64 0,.int .i64 0,.string ⟨#[]⟩] 187);exact ⟨⟨L,k,by rw[Aa ar];rfl,(Aa O).1,L.own_touch (Ai.of_below o NLN) (Aa O).2,(Aa ap).below o⟩,j.allP o⟩
   ·have A:=Ab (show Co lv (CX tl (t ::u))=some op from aq);have ar:=Ab B;have I:=Ab (And.intro F H);have au:=Ab (fun w' P (ae:Below wr.heap.size wr w')=>J9 Q lv op P L Z t u y w' k ((Aa ap).below ae) (((Aa ah).touch j Q).below ae) (Aa O).1 (L.own_touch (Ai.of_below ae NLN) (Aa O).2) (Aa az u y E (by have:=(Aa ac).1;simp at this;omega)));rw[B] at au aj ⊢;clear aq B F H E;go_wp2_with fail
    refine (Aa ao).mono ?_;rintro ad aC ⟨M,C⟩;rw[Ze,Aa A] at M;obtain ⟨P,rfl⟩:=M;dsimp only;have o:=C.alloc C.size (.cells #[.int .i64 op,.int .i64 (lv:Int),.string P] 187);go_wp2_with fail
    refine (Aa au _ P o).mono ?_;intro ad aD s;have J:Hid (∃ v e,ad= .returned (.tuple #[v,e])∧Gs v∧Gs e∧∃ n,n < m∧Zf aY pb g c T tl lv a x w n v e aD):=by
     have h1:=(Aa ac).1;have h2:=(Aa ac).2;simp only[List.length_cons] at h1 h2;cases y with
     | bad q=>
      obtain ⟨⟨v,b,rfl,i,R⟩,af⟩:=s;exact ⟨v,_,rfl,i,.inr ⟨_,_,rfl⟩,0,by omega,.inl ⟨q,b,rfl,i,(Aa I).1 q rfl,R,rfl⟩,(j.allP o).trans af⟩
     | ok f q=>
      obtain ⟨⟨e,W,rfl,he,z,X⟩,af⟩:=s;obtain ⟨d2,K⟩:=(Aa I).2 f q rfl;exact ⟨_,_,rfl,e.val_if,.inl rfl,q.length+1,by omega,.inr ⟨e,_,q,W,rfl,rfl,he,z,X,d2,by omega,rfl⟩,(j.allP o).trans af⟩
    obtain ⟨v,e,rfl,i,he,av,aw,l⟩:=Aa J;have ag:=Ab (And.intro aw l);clear J s l aw o C;dsimp only;go_wp2_with fail
    go_roundw
    case rel=>exact ⟨av,(Aa ag).2⟩
    case measure=>rw[Aa aj];exact Aa N av _ _ _ (Aa ag).1 (Aa ag).2
end Go.Proofs.YtoplnhndilmlcaaGreatDoor
