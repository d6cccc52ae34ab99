/-
  JO, VPI, VPK, VPL. Own work.
-/
import Derived.Test.YtchakjeegneeoaaGreatDoorVPH
import Derived.Test.YtchakjeegneeoaaGreatDoorMXAD
import Derived.Test.YtchakjeegneeoaaGreatDoorMXAE
namespace Go.Proofs.YtchakjeegneeoaaGreatDoor
set_option maxRecDepth 100000
set_option maxHeartbeats 6400000
open Go.RowKit
set_option linter.unusedVariables false
def G9:List (Int × Int × Int × Int):= [(8,2,0,2),(9,1,0,1),(10,4,0,2),(11,2,2,2),(12,2,2,2),(13,2,2,2),(14,2,2,2),(15,2,2,2),(16,4,4,4),(17,4,4,4),(18,4,4,4),(21,2,2,1),(22,2,2,1),(23,3,4,1),(24,4,4,1),(25,1,1,1),(26,1,1,1)]
def VK (op l r:Int) (s:Int × Int × Int × Int):Bool:=s.1== op && (s.2.1== l && s.2.2.1== r)
def opT (op l r:Int):Option Int:=if op=19∨op=20 then (if l=r then some 1 else none) else (G9.find? (VK op l r)).map fun s=>s.2.2.2
def TN:Array Value:=#[.int .i64 8,.int .i64 2,.int .i64 0,.int .i64 2,.int .i64 9,.int .i64 1,.int .i64 0,.int .i64 1,.int .i64 10,.int .i64 4,.int .i64 0,.int .i64 2,.int .i64 11,.int .i64 2,.int .i64 2,.int .i64 2,.int .i64 12,.int .i64 2,.int .i64 2,.int .i64 2,.int .i64 13,.int .i64 2,.int .i64 2,.int .i64 2,.int .i64 14,.int .i64 2,.int .i64 2,.int .i64 2,.int .i64 15,.int .i64 2,.int .i64 2,.int .i64 2,.int .i64 16,.int .i64 4,.int .i64 4,.int .i64 4,.int .i64 17,.int .i64 4,.int .i64 4,.int .i64 4,.int .i64 18,.int .i64 4,.int .i64 4,.int .i64 4,.int .i64 21,.int .i64 2,.int .i64 2,.int .i64 1,.int .i64 22,.int .i64 2,.int .i64 2,.int .i64 1,.int .i64 23,.int .i64 3,.int .i64 4,.int .i64 1,.int .i64 24,.int .i64 4,.int .i64 4,.int .i64 1,.int .i64 25,.int .i64 1,.int .i64 1,.int .i64 1,.int .i64 26,.int .i64 1,.int .i64 1,.int .i64 1]
theorem AaJ:∀ k,k < 17→TN.extract (k * 4) (k * 4+4)= #[.int .i64 (G9.getD k (0,0,0,0)).1,.int .i64 (G9.getD k (0,0,0,0)).2.1,.int .i64 (G9.getD k (0,0,0,0)).2.2.1,.int .i64 (G9.getD k (0,0,0,0)).2.2.2]
 | 0,_=>rfl
 | 1,_=>rfl
 | 2,_=>rfl
 | 3,_=>rfl
 | 4,_=>rfl
 | 5,_=>rfl
 | 6,_=>rfl
 | 7,_=>rfl
 | 8,_=>rfl
 | 9,_=>rfl
 | 10,_=>rfl
 | 11,_=>rfl
 | 12,_=>rfl
 | 13,_=>rfl
 | 14,_=>rfl
 | 15,_=>rfl
 | 16,_=>rfl
 |n+17,h=>absurd h (by omega)
def Zm:Array Value:=#[.string ⟨#[99,108,105,101,110,116]⟩,.int .i64 3,.string ⟨#[117,115,101,114]⟩,.int .i64 3,.string ⟨#[108,101,118,101,108]⟩,.int .i64 2,.string ⟨#[110,111,119]⟩,.int .i64 2,.string ⟨#[97,115,107,101,100]⟩,.int .i64 4,.string ⟨#[97,103,114,101,101,100]⟩,.int .i64 4]
structure KM (w:World) (aT:Addr):Prop where
 s: 13 < w.heap.size
 sc:∀ k,w.cell? ⟨13,k,none⟩=TN[k]?
 a: 11 < w.heap.size
 ac:∀ k,w.cell? ⟨11,k,none⟩=Zm[k]?
 e: 10 < w.heap.size
 ec:w.cell? ⟨10,0,none⟩=some (.iface 276 (.pointer (some aT)))
theorem KM.below {w w':World}{c:Addr}{B:Nat}(h:KM w c)(b:Below B w w')(hB:w.heap.size≤B):KM w' c:=
 ⟨zM h.s b.size,fun k=>(b.cell (p:=⟨13,k,none⟩) (zM h.s hB)).trans (h.sc k),zM h.a b.size,fun k=>(b.cell (p:=⟨11,k,none⟩) (zM h.a hB)).trans (h.ac k),zM h.e b.size,(b.cell (p:=⟨10,0,none⟩) (zM h.e hB)).trans h.ec⟩
def Xr (b:Bool) (aT:Addr):Value:=match b with | true=> .nilIface | false=> .iface 276 (.pointer (some aT))
def H8 (o:Option Int) (aT:Addr) (e:Ending):Prop:=e= .returned (.tuple #[.int .i64 (o.getD 0),Xr o.isSome aT])
theorem Xa (p:Int × Int × Int × Int→Bool):∀ (l:List (Int × Int × Int × Int)) (k:Nat) (h:k < l.length),(∀ j,j < k→(a:j < l.length)→p l[j]=false)→p l[k]=true→l.find? p=some l[k]
 |x ::l,0,_,_,hp=>by simp at hp;simp[List.find?,hp]
 |x ::l,k+1,h,hn,hp=>by
  have h0:=hn 0 (by omega) (by simp);simp at h0;rw[List.find?_cons_of_neg (by simp[h0])];have:=Xa p l k (by simpa using h) (fun j a b=>by have:=hn (j+1) (by omega) (by simpa using b);simpa using this) (by simpa using hp);simpa using this
theorem Aca (p:Int × Int × Int × Int→Bool)(l:List (Int × Int × Int × Int))(h:∀ j,(a:j < l.length)→p l[j]=false):l.find? p=none:=by
 rw[List.find?_eq_none];intro x hx;obtain ⟨j,a,rfl⟩:=Z1 hx;rw[h j a];decide
theorem FW (op l r:Int)(y:Addr)(w:World)(h:KM w y):
  Calls Tryz.prog 160 #[.int .i64 op,.int .i64 l,.int .i64 r] w fun e w'=>H8 (opT op l r) y e∧Below w.heap.size w w':=by
 have ec:=h.ec;have H:=Ab h.sc;have M:=Ab h.e;by_cases c:op=19∨op=20
 ·by_cases d:l=r
  ·have q:=Ab (show opT op l r=some 1 by rw[opT,if_pos c,if_pos d]);have N:(l != r)=false:=by simp[d]
   have O:(l== r)=true:=zN.2 d;clear h;rcases c with rfl | rfl
   all_goals
    subst d;go_enter Tryz.func160,Tryz.ntmps160
    go_wp2_with fail
    exact bodyPost_ret (v:= .tuple #[.int .i64 1,.nilIface]) (by simp[results,Tryz.results160,go_sem]) rfl ⟨by rw[Aa q];rfl,BRN⟩
  ·have q:=Ab (show opT op l r=none by rw[opT,if_pos c,if_neg d]);have N:(l != r)=true:=zS.2 d;have O:(l== r)=false:=zB.2 d;clear h d;rcases c with rfl | rfl
   all_goals
    go_enter Tryz.func160,Tryz.ntmps160
    go_wp2_with fail
    go_region
    all_goals
     go_wp2_with fail
     exact bodyPost_ret (v:= .tuple #[.int .i64 0,.iface 276 (.pointer (some y))]) (by simp[results,Tryz.results160,go_sem]) rfl ⟨by rw[Aa q];rfl,BRN.drew⟩
 ·have R:(op== 19)=false:=zB.2 (fun e=>c (.inl e));have S:(op== 20)=false:=zB.2 (fun e=>c (.inr e));have q:=Ab (show opT op l r=(G9.find? (VK op l r)).map (fun s=>s.2.2.2) by rw[opT,if_neg c]);clear h c;go_enter Tryz.func160,Tryz.ntmps160
  go_wp2_with (refine Df rfl 267 _ rfl 13 rfl TN _ (Aa H) Tryz.underlying267 rfl (by kernel_rfl) ?_)
  clear H;have T:G9.length=17:=rfl;go_loopw [21] (fun i wr=>∃ k:Nat,k≤17∧i= .int .i64 k∧Below w.heap.size w wr∧∀ j,j < k→(z:j < G9.length)→VK op l r G9[j]=false) (fun i _=>17 - (intOf i).toNat)
  case atStart=>exact ⟨0,by omega,rfl,BRN,fun j h=>absurd h (by omega)⟩
  case round=>
   obtain ⟨k,hk,rfl,A,I⟩:=hrel;have u:=Ab I;clear I;have U:=(A.cell (p:=⟨10,0,none⟩) (Aa M)).trans ec;by_cases C:k < 17
   ·have V:(k:Int) < 17:=by omega
    have J:k < G9.length:=by omega
    have m:=Ab (AaJ k C);have a:=Ab C;have K:G9.getD k (0,0,0,0)=G9[k]:=by rw[List.getD,zH J];rfl
    rw[K] at m;have f:=Ab (show VK op l r G9[k]=false→∀ j,j < k+1→(z:j < G9.length)→VK op l r G9[j]=false from fun e j z P=>by
     by_cases Q:j=k
     ·subst Q;exact e
     ·exact Aa u j (by omega) P)
    have n:=Ab (show VK op l r G9[k]=true→opT op l r=some G9[k].2.2.2 from fun e=>by rw[Aa q,Xa _ _ k J (Aa u) e];rfl);clear C K u;generalize G9[k]=s at m f n;obtain ⟨o,t,x,E⟩:=s;simp only at m n;have B:=A.alloc A.size (.cells #[.int .i64 o,.int .i64 t,.int .i64 x,.int .i64 E] 266);have g:VK op l r (o,t,x,E)=(o== op && (t== l && x== r)):=rfl;by_cases h0:o=op
    ·by_cases h1:t=l
     ·by_cases h2:x=r
      ·subst h0 h1 h2;have b:=Ab (Aa n (by rw[g];simp));clear n f g;go_wp2_with (refine AU rfl 267 _ _ rfl TN rfl k rfl 17 266 Tryz.underlying267 (Aa a) _ Tryz.underlying266 rfl 4 (by kernel_rfl) _ (Aa m) ?_)
       exact bodyPost_ret (v:= .tuple #[.int .i64 E,.nilIface]) (by simp[results,Tryz.results160,go_sem]) rfl ⟨by rw[Aa b];rfl,B⟩
      ·have F:(o== op)=true:=zN.2 h0;have L:(t== l)=true:=zN.2 h1;have q2:(x== r)=false:=zB.2 h2;have b:=Ab (Aa f (by rw[g,q2];simp));clear n f g h0 h1 h2;go_wp2_with (refine AU rfl 267 _ _ rfl TN rfl k rfl 17 266 Tryz.underlying267 (Aa a) _ Tryz.underlying266 rfl 4 (by kernel_rfl) _ (Aa m) ?_)
       go_roundw
       case rel=>exact ⟨k+1,Aa a,by go_num,B,Aa b⟩
       case measure=>have:=Aa a;simp[intOf];omega
     ·have F:(o== op)=true:=zN.2 h0;have L:(t== l)=false:=zB.2 h1;have b:=Ab (Aa f (by rw[g,L];simp));clear n f g h0 h1;go_wp2_with (refine AU rfl 267 _ _ rfl TN rfl k rfl 17 266 Tryz.underlying267 (Aa a) _ Tryz.underlying266 rfl 4 (by kernel_rfl) _ (Aa m) ?_)
      go_roundw
      case rel=>exact ⟨k+1,Aa a,by go_num,B,Aa b⟩
      case measure=>have:=Aa a;simp[intOf];omega
    ·have F:(o== op)=false:=zB.2 h0;have b:=Ab (Aa f (by rw[g,F];simp));clear n f g h0;go_wp2_with (refine AU rfl 267 _ _ rfl TN rfl k rfl 17 266 Tryz.underlying267 (Aa a) _ Tryz.underlying266 rfl 4 (by kernel_rfl) _ (Aa m) ?_)
     go_roundw
     case rel=>exact ⟨k+1,Aa a,by go_num,B,Aa b⟩
     case measure=>have:=Aa a;simp[intOf];omega
   ·have e:k=17:=by omega
    subst e;have b:=Ab (show opT op l r=none by rw[Aa q,Aca _ _ (fun j z=>Aa u j (by omega) z)];rfl);clear u;go_wp2_with fail
    go_region
    all_goals
     go_wp2_with fail
     exact bodyPost_ret (v:= .tuple #[.int .i64 0,.iface 276 (.pointer (some y))]) (by simp[results,Tryz.results160,go_sem]) rfl ⟨by rw[Aa b];rfl,A.drew⟩
theorem AcZ {op:Int}(h: 8≤op∧op≤10)(a:Int)(b: 1≤a∧a≤4):opT op a 0=nz (Ct op [a]):=by
 have h1:op=8∨op=9∨op=10:=by omega
 have h2:a=1∨a=2∨a=3∨a=4:=by omega
 rcases h1 with rfl | rfl | rfl <;> rcases h2 with rfl | rfl | rfl | rfl <;> decide
theorem Abw {op:Int}(h: 11≤op∧op≤26)(a b:Int)(c: 1≤a∧a≤4)(d: 1≤b∧b≤4):opT op a b=nz (Ct op [a,b]):=by
 have h1:op=11∨op=12∨op=13∨op=14∨op=15∨op=16∨op=17∨op=18∨op=19∨op=20∨op=21∨op=22∨op=23∨op=24∨op=25∨op=26:=by omega
 have h2:a=1∨a=2∨a=3∨a=4:=by omega
 have h3:b=1∨b=2∨b=3∨b=4:=by omega
 rcases h1 with rfl | rfl | rfl | rfl | rfl | rfl | rfl | rfl | rfl | rfl | rfl | rfl | rfl | rfl | rfl | rfl <;> rcases h2 with rfl | rfl | rfl | rfl <;> rcases h3 with rfl | rfl | rfl | rfl <;> decide
theorem Ni (a b c:Int)(g:Addr)(w:World)(h:KM w g)(i: 1≤b∧b≤4):
  Calls Tryz.prog 161 #[.int .i64 a,.int .i64 b,.int .i64 c] w fun e w'=>H8 (nz (Ct 27 [a,b,c])) g e∧Below w.heap.size w w':=by
 have ec:=h.ec;have d:=Ab (show nz (Ct 27 [a,b,c])=if a=1∧b=c then some b else none by
  rw[Ct,nz];by_cases h1:a=1∧b=c
  ·rw[if_pos h1,if_neg (by omega),if_pos h1]
  ·rw[if_neg h1,if_pos rfl,if_neg h1])
 clear h;by_cases h1:a=1
 ·have e1:(a != 1)=false:=by simp[h1]
  by_cases h2:b=c
  ·have e2:(b != c)=false:=by simp[h2]
   have f:=Ab ((Aa d).trans (if_pos ⟨h1,h2⟩));clear h1 h2 d;go_enter Tryz.func161,Tryz.ntmps161
   go_wp2_with fail
   exact bodyPost_ret (v:= .tuple #[.int .i64 b,.nilIface]) (by simp[results,Tryz.results161,go_sem]) rfl ⟨by rw[Aa f];rfl,BRN⟩
  ·have e2:(b != c)=true:=zS.2 h2;have f:=Ab ((Aa d).trans (if_neg (fun k=>h2 k.2)));clear h1 h2 d;go_enter Tryz.func161,Tryz.ntmps161
   go_wp2_with fail
   go_region
   all_goals
    go_wp2_with fail
    exact bodyPost_ret (v:= .tuple #[.int .i64 0,.iface 276 (.pointer (some g))]) (by simp[results,Tryz.results161,go_sem]) rfl ⟨by rw[Aa f];rfl,BRN.drew⟩
 ·have e1:(a != 1)=true:=zS.2 h1;have f:=Ab ((Aa d).trans (if_neg (fun k=>h1 k.1)));clear h1 d;go_enter Tryz.func161,Tryz.ntmps161
  go_wp2_with fail
  go_region
  all_goals
   go_wp2_with fail
   exact bodyPost_ret (v:= .tuple #[.int .i64 0,.iface 276 (.pointer (some g))]) (by simp[results,Tryz.results161,go_sem]) rfl ⟨by rw[Aa f];rfl,BRN.drew⟩
def Dr (S:List (Nat × Nat)):List Value:=S.flatMap fun p=> [.int .i64 p.1,.int .i64 p.2]
theorem LN:∀ (S:List (Nat × Nat)) (i:Nat) (h:i < S.length),(Dr S)[i * 2]? =some (.int .i64 (S[i].1 :Int))∧(Dr S)[i * 2+1]? =some (.int .i64 (S[i].2 :Int))
 | [],i,h=>absurd h (by simp)
 |p ::S,0,h=>⟨rfl,rfl⟩
 |p ::S,i+1,h=>by
  have a:=LN S i (by simpa using h);have e:Dr (p ::S)= .int .i64 p.1 :: .int .i64 p.2 ::Dr S:=rfl;rw[e,show (i+1) * 2=i * 2+1+1 by omega,zc,zc,show i * 2+1+1+1=(i * 2+1)+1+1 by omega,zc,zc];simpa using a
theorem Abg (l:List (Nat × Nat))(p:Nat × Nat):Ev (l ++ [p])=max (Ev l) p.2:=by
 induction l with
 |nil=>simp[Ev]
 |cons q l a=>rw[List.cons_append,Ev,Ev,a];omega
theorem YT {K:List (List Int)}{k:Nat}{S:List (Nat × Nat)}{ks:List Int}(h:CB K k [] 0=some S)(hk:K[k]? =some ks):CB K (k+1) [] 0=DQ S k ks:=by
 rw[GL K k 1 [] 0,h];show CB K 1 S (0+k)=_;rw[zX,CB,hk];dsimp only;cases DQ S k ks <;> rfl
theorem YU {K:List (List Int)}{k n:Nat}(hk:k≤n)(h:CB K k [] 0=none):CB K n [] 0=none:=by
 have e:n=k+(n - k):=by omega
 rw[e,GL K k (n - k) [] 0,h];rfl
theorem UA {S:List (Nat × Nat)}{i:Nat}{ks:List Int}(h:S.length < ks.length):DQ S i ks=none:=by rw[DQ,if_pos h]
theorem Wd {S:List (Nat × Nat)}{i f j:Nat}{ks:List Int}(hf:f+ks.length=S.length)(a:j < ks.length)(b:f+j < S.length)(h:(S[f+j].1 :Int)≠ks[j]):DQ S i ks=none:=by
 have c:S.length - ks.length=f:=by omega
 rw[DQ,if_neg (by omega),if_pos];rw[c];intro e;apply h;have h1:(Aq (S.drop f))[j]? =some ks[j]:=by rw[e];exact zH a
 rw[Aq,zh,List.getElem?_drop,zH b] at h1;simpa using h1
theorem We {S:List (Nat × Nat)}{i f:Nat}{ks:List Int}(hf:f+ks.length=S.length)(hd:Ev (S.drop f)=64):DQ S i ks=none:=by
 have a:S.length - ks.length=f:=by omega
 rw[DQ,if_neg (by omega),a];by_cases h:Aq (S.drop f)≠ks
 ·rw[if_pos h]
 ·rw[if_neg h,if_pos hd]
theorem Abh {S:List (Nat × Nat)}{i f:Nat}{ks:List Int}(hf:f+ks.length=S.length)(ht:Aq (S.drop f)=ks)(hd:Ev (S.drop f)≠64):DQ S i ks=some (S.take f ++ [(i,Ev (S.drop f)+1)]):=by
 have a:S.length - ks.length=f:=by omega
 rw[DQ,if_neg (by omega),a,if_neg (by simp[ht]),if_neg hd]
def KI (S:List (Nat × Nat)) (f:Nat) (ks:List Int) (j:Nat):Prop:=Aq ((S.drop f).take j)=ks.take j
theorem Wf (S:List (Nat × Nat))(f:Nat)(ks:List Int):KI S f ks 0:=by simp[KI,Aq]
theorem IJ (S:List (Nat × Nat))(f j:Nat)(h:f+j < S.length):(S.drop f).take (j+1)=(S.drop f).take j ++ [S[f+j]]:=by
 have a:j < (S.drop f).length:=by rw[zp];omega
 rw[zf a,List.getElem_drop]
theorem Wg {S:List (Nat × Nat)}{f j:Nat}{ks:List Int}(a:j < ks.length)(b:f+j < S.length)(h:KI S f ks j)(e:(S[f+j].1 :Int)=ks[j]):KI S f ks (j+1):=by
 rw[KI,IJ S f j b,zf a,← e];rw[KI] at h;rw[← h];simp[Aq]
theorem YV {S:List (Nat × Nat)}{f:Nat}{ks:List Int}(hf:f+ks.length=S.length)(h:KI S f ks ks.length):Aq (S.drop f)=ks:=by
 rw[KI,zq (by rw[zp];omega),zq NLN] at h;exact h
theorem AdQ:(Tryz.prog.info? 243).map (fun i=>(i.zero,i.size,i.bytes))=some (some (.agg #[.int .i64 0,.int .i64 0]),2,16):=by kernel_rfl
def AcE (B:Nat) (r:Option (List (Nat × Nat))) (e:Ending) (w':World):Prop:=match r with
 |none=>e= .returned (.tuple #[.slice none 0 0,.bool false])
 |some S=>∃ v,e= .returned (.tuple #[v,.bool true])∧w'.ownsRow B 3 1 v S.length (Ar (Aq S))
def AdS (K:List (List Int)) (B k:Nat) (v:Value) (wr:World):Prop:=∃ S,CB K k [] 0=some S∧S.length≤k∧(∀ p∈S,p.1 < k∧p.2≤64)∧wr.ownsRow B 243 2 v S.length (Dr S)
theorem UB {S a:List (Nat × Nat)}{k:Nat}{ks:List Int}(h:DQ S k ks=some a)(h1:S.length≤k)(h2:∀ p∈S,p.1 < k∧p.2≤64):a.length≤k+1∧∀ p∈a,p.1 < k+1∧p.2≤64:=by
 obtain ⟨c,B,rfl,e2,e3,rfl⟩:=OV h;have hd:Ev B≤64:=by
  clear h e2 e3 h1
  induction B with
  |nil=>simp[Ev]
  |cons q B b=>
   have hq:=h2 q (by simp);have d:=b (fun p hp=>h2 p (by rcases zK.1 hp with e | e <;> simp[e]));rw[Ev];omega
 rw[zA] at h1;refine ⟨by rw[zA];simp;omega,fun p hp=>?_⟩;rcases zK.1 hp with e | e
 ·have:=h2 p (zl _ e);omega
 ·simp at e;subst e;exact ⟨by show k < k+1;omega,by show Ev B+1≤64;omega⟩
theorem Abi {w:World}{b:Nat}{e:TypeId}{size:Nat}{x:Option Addr}{n c:Nat}{d:List Value}(h:w.ownsRow b e size (.slice x n c) n d):n≤c:=by
 rcases h.2 with ⟨a,f⟩ | ⟨g,cap,i,a,h1,h2,h3,h4,h5,h6⟩
 ·omega
 ·cases a;exact h3
theorem UC (S:List (Nat × Nat))(f k d:Nat):(Dr S).take (f * 2) ++ [.int .i64 k,.int .i64 ((d:Int)+1)]=Dr (S.take f ++ [(k,d+1)]):=by
 have e:∀ (S:List (Nat × Nat)) (f:Nat),(Dr S).take (f * 2)=Dr (S.take f):=by
  intro S
  induction S with
  |nil=>intro f;simp[Dr]
  |cons p S a=>
   intro f;cases f with
   |zero=>simp[Dr]
   |succ f=>
    have e1:Dr (p ::S)= .int .i64 p.1 :: .int .i64 p.2 ::Dr S:=rfl;have e2:Dr (p ::S.take f)= .int .i64 p.1 :: .int .i64 p.2 ::Dr (S.take f):=rfl;rw[e1,show (f+1) * 2=f * 2+1+1 by omega,List.take_succ_cons,List.take_succ_cons,a f,List.take_succ_cons,e2]
 rw[e,Dr,Dr,List.flatMap_append];simp
theorem Mg {w:World}{a base':Nat}{e:TypeId}{size:Nat}{v:Value}{n:Nat}{b:List Value}(h:w.ownsRow a e size v n b)(i:base'≤a):w.ownsRow base' e size v n b:=by
 refine ⟨h.1, ?_⟩;rcases h.2 with c | ⟨g,cap,d,f,h1,h2,h3⟩
 ·exact .inl c
 ·exact .inr ⟨g,cap,d,f,by omega,h2,h3⟩
theorem Wh (S:List (Nat × Nat))(k:Nat)(h:k < S.length):Aq (S.take (k+1))=Aq (S.take k) ++ [(S[k].1 :Int)]:=by
 rw[zf h,Aq,Aq,zU];rfl
theorem OY (a:Option Addr)(n c:Nat)(L:List Nd)(w:World)(h:GQ w a n c L):
  Calls Tryz.prog 125 #[.slice a n c] w fun e w'=>AcE w.heap.size (CB (L.map Nd.kids) n [] 0) e w'∧Below w.heap.size w w':=by
 have bd:=h.small;have ap:=Ab h.len;obtain ⟨aG,aH,aI,aJ,aK⟩:=info_parts AdQ;obtain ⟨i,hi,aL,aM,aN⟩:=info_parts Jk;go_enter Tryz.func125,Tryz.ntmps125
 go_wp2_with fail
 go_loopw [4,16] (fun v i wr=>∃ k:Nat,k≤n∧i= .int .i64 k∧Below w.heap.size w wr∧AdS (L.map Nd.kids) w.heap.size k v wr) (fun _ i _=>n - (intOf i).toNat)
 case atStart=>exact ⟨0,by omega,rfl,BRN, [],rfl,by simp,by simp,World.ownsRow_nil _ _ _ _⟩
 case round=>
  obtain ⟨k,hk,rfl,o,S,U,aO,V,W⟩:=hrel;by_cases ad:k < n
  ·have bf:(k:Int) < (n:Int):=by omega
   have aq:k < L.length:=by rw[Aa ap];exact ad
   obtain ⟨b,bg,rfl,bh,an,nn,X,Y,l,Z,c0,c1,c2,c3,c4,ar,F⟩:=(h.below o NLN).cells k aq;have H:=Ab (YT U (show (L.map Nd.kids)[k]? =some L[k].kids by rw[zh,zH aq];rfl));have r:=Ab (show DQ S k L[k].kids=none→CB (L.map Nd.kids) n [] 0=none from fun e=>YU (k:=k+1) ad (by rw[Aa H,e]));have ae:=Ab (fun aP (aQ:DQ S k L[k].kids=some aP)=>UB aQ aO V);have au:=Ab ad;have aR:=Ab V;clear U V;generalize L[k]=x at c0 c1 c2 c3 c4 ar F H r ae;have bi:=F.small;have t:=Ab F.len;have bj:=Al.new wr #[.int .i64 x.op,.int .i64 x.num,.string x.text,.slice an nn X,.slice Y l Z] 68;have s:=o.alloc o.size (.cells #[.int .i64 x.op,.int .i64 x.num,.string x.text,.slice an nn X,.slice Y l Z] 68);have aS:=(Below.refl wr.heap.size wr).alloc NLN (.cells #[.int .i64 x.op,.int .i64 x.num,.string x.text,.slice an nn X,.slice Y l Z] 68);have af:=W.alloc (.cells #[.int .i64 x.op,.int .i64 x.num,.string x.text,.slice an nn X,.slice Y l Z] 68);have aT:=F.below aS NLN;obtain ⟨aU,av,rfl,I⟩:=Ad af;have ag:=Ab I;clear ar F I;by_cases hs:S.length < l
   ·have is:(S.length:Int) - (l:Int) < 0:=by omega
    have J:=Ab (Aa r (UA (by rw[Aa t];exact hs)));clear hs r;go_wp2_with fail
    exact bodyPost_ret (v:= .tuple #[.slice none 0 0,.bool false]) (by simp[results,Tryz.results125,go_sem]) rfl ⟨by rw[Aa J];rfl,s⟩
   ·have is: ¬ ((S.length:Int) - (l:Int) < 0):=by omega
    obtain ⟨f,hf⟩:∃ f,f+l=S.length:=⟨S.length - l,by omega⟩
    have aV:=Ab (show (S.length:Int) - (l:Int)=(f:Int) by omega);have bk:=Ab hf;clear hs;go_wp2_with fail
    rw[Aa aV];go_loop [8,32] (fun d i=>∃ j:Nat,j≤l∧i= .int .i64 j∧d= .int .i64 (Ev ((S.drop f).take j))∧Ev ((S.drop f).take j)≤64∧KI S f x.kids j) (fun _ i=>l - (intOf i).toNat)
    case atStart=>exact ⟨0,by omega,rfl,rfl,by simp[Ev],Wf _ _ _⟩
    case round=>
     obtain ⟨j,aW,rfl,rfl,hd,aw⟩:=hrel;have aa:=Ab aw;clear aw;by_cases C:j < l
     ·have aX:(j:Int) < (l:Int):=by omega
      obtain ⟨g,rfl,aY,z⟩:=Aa ag (by omega);have K:f+j < S.length:=by omega
      have ah:j < x.kids.length:=by rw[Aa t];exact C
      obtain ⟨bl,ok,rfl,bm,aZ⟩:=aT.cells j ah;obtain ⟨M,N⟩:=LN S (f+j) K;have ai:=z _ _ M;have aj:=z _ _ N;have hp:=Aa aR S[f+j] (zO K);have O:=Ab (show Ev ((S.drop f).take (j+1))=max (Ev ((S.drop f).take j)) S[f+j].2 by rw[IJ S f j K,Abg]);have P:=Ab (fun e=>Wd (i:=k) (ks:=x.kids) (by rw[Aa t];exact hf) ah K e);have Q:=Ab (fun e=>Wg ah K (Aa aa) e);clear M N z aa;generalize S[f+j]=p at ai aj hp O P Q;generalize x.kids[j]=y at aZ P Q;generalize Ev ((S.drop f).take j)=D at hd O;by_cases hy:(p.1:Int)=y
      ·have a0:((p.1:Int) != y)=false:=by rw[hy];simp
       have a1:=Ab (Aa Q hy);clear hy P Q;have R:=Ab C;go_wp2_with fail
       have a2:(Value.int .i64 (if D < p.2 then (p.2:Int) else (D:Int)))= .int .i64 (Ev ((S.drop f).take (j+1))):=by
        rw[Aa O];split <;> congr 1 <;> omega
       (first | rw[a2] | rw[show Value.int .i64 (max (D:Int) (p.2:Int))= .int .i64 (Ev ((S.drop f).take (j+1))) by rw[Aa O];congr 1;omega])
       exact ⟨⟨j+1,Aa R,by go_num,rfl,by rw[Aa O];omega,Aa a1⟩,by have:=Aa R;simp[intOf];omega⟩
      ·have a0:((p.1:Int) != y)=true:=zS.2 hy;have J:=Ab (Aa r (Aa P hy));clear hy P Q r;go_wp2_with fail
       exact bodyPost_ret (v:= .tuple #[.slice none 0 0,.bool false]) (by simp[results,Tryz.results125,go_sem]) rfl ⟨by rw[Aa J];rfl,s⟩
     ·have e:j=l:=by omega
      subst e;have ax:=Ab (YV (by rw[Aa t];exact hf) (by rw[Aa t];exact Aa aa));have a3:=Ab (show (S.drop f).take j=S.drop f from zq (by rw[zp];omega));rw[Aa a3] at hd ⊢;clear aa;by_cases ab:Ev (S.drop f)=64
      ·have ak:((Ev (S.drop f):Int)== 64)=true:=zN.2 (by omega);have J:=Ab (Aa r (We (by rw[Aa t];exact hf) ab));clear ab r;generalize Ev (S.drop f)=D at hd ak ⊢;go_wp2_with fail
       exact bodyPost_ret (v:= .tuple #[.slice none 0 0,.bool false]) (by simp[results,Tryz.results125,go_sem]) rfl ⟨by rw[Aa J];rfl,s⟩
      ·have ak:((Ev (S.drop f):Int)== 64)=false:=zB.2 (by omega);have ac:=Ab (Abh (i:=k) (by rw[Aa t];exact hf) (Aa ax) ab);clear ab r ax;generalize Ev (S.drop f)=D at hd ak ac ⊢;have ay:=PA (m:=f) af (by omega);have bn:=Abi af;have bo:(f:Int)≤(av:Int):=by omega
       have a4:=o.size;go_wp2_with (at_builtin;refine wpList_append_own _ rfl _ _ 241 rfl w.heap.size 243 aG (.agg #[.int .i64 0,.int .i64 0]) 2 16 Tryz.underlying241 aH aI aJ aK rfl (by decide) _ _ _ rfl (World.ownsRow.alloc ay _) ⟨wr.heap.size+1,0,none⟩ 1 1 [.int .i64 k,.int .i64 ((D:Int)+1)] rfl rfl ?c1 ?c2 ?c3 ?c4 ?c5 ?_)
       case c2=>exact ⟨rfl,rfl⟩
       case c3=>unfold maxLen;omega
       case c4=>omega
       case c5=>omega
       intro v' a5 az E _;have a6:=(s.alloc s.size (.cells #[.int .i64 k,.int .i64 ((D:Int)+1)] 243)).grown E (by simp;omega) (fun q hq=>(ay.lt q hq).1);clear E;rw[UC] at az;go_wp2_with fail
       go_roundw
       case rel=>exact ⟨k+1,Aa au,by go_num,a6,S.take f ++ [(k,D+1)],by rw[Aa H,Aa ac],(Aa ae _ (Aa ac)).1,(Aa ae _ (Aa ac)).2,by rw[zA,zb,z7,show min f S.length=f by omega];exact az⟩
       case measure=>have:=Aa au;simp[intOf];omega
  ·have e:k=n:=by omega
   subst e;obtain ⟨aU,av,rfl,I⟩:=Ad W;have H:=Ab U;obtain ⟨A,a7⟩:∃ A,A=wr:=⟨_,rfl⟩
   subst a7;have ag:=Ab I;have a8:=Ab W;have aA:=Ab o;clear U I V W o h ap;go_wp2_with fail
   go_loopw [11,70] (fun v i wr=>∃ j:Nat,j≤S.length∧i= .int .i64 j∧wr.ownsRow A.heap.size 3 1 v (Aq (S.take j)).length (Ar (Aq (S.take j)))∧Below w.heap.size w wr∧Below A.heap.size A wr) (fun _ i _=>S.length - (intOf i).toNat)
   case atStart=>exact ⟨0,by omega,rfl,World.ownsRow_nil _ _ _ _,Aa aA,BRN⟩
   case round=>
    obtain ⟨j,aW,rfl,B,o,T⟩:=hrel;by_cases C:j < S.length
    ·have aX:(j:Int) < (S.length:Int):=by omega
     obtain ⟨g,rfl,aY,z⟩:=Aa ag (by omega);obtain ⟨M,N⟩:=LN S j C;have aB:g < A.heap.size:=((Aa a8).lt g rfl).2;have ai:=(T.cell (p:=⟨g,j * 2,none⟩) aB).trans (z _ _ M);have aj:=(T.cell (p:=⟨g,j * 2+1,none⟩) aB).trans (z _ _ N);have al:=Ab (Wh S j C);have a9:(Aq (S.take j)).length≤1048576:=by rw[Aq,zV,zb];omega
     have R:=Ab C;clear M N z;generalize S[j]=p at ai aj al;generalize Aq (S.take j)=bp at B a9 al;have s:=o.alloc o.size (.cells #[.int .i64 p.1,.int .i64 p.2] 243);have aC:=T.alloc T.size (.cells #[.int .i64 p.1,.int .i64 p.2] 243);have ao:=B.alloc (.cells #[.int .i64 p.1,.int .i64 p.2] 243);obtain ⟨aD,aE,rfl,_⟩:=Ad B;have a4:=o.size;have bq:=T.size;have br:=Al.new wr #[.int .i64 p.1,.int .i64 p.2] 243;go_wp2_with (at_builtin;refine wpList_append_own _ rfl _ _ 24 rfl A.heap.size 3 i (.int .i64 0) 1 8 Tryz.underlying24 hi aL aM aN rfl (by decide) _ _ _ rfl (World.ownsRow.alloc ao _) ⟨wr.heap.size+1,0,none⟩ 1 1 [.int .i64 p.1] rfl rfl ?d1 ?d2 ?d3 ?d4 ?d5 ?_)
     case d1=>exact Bj _ _ _ _ (by simp)
     case d2=>intro u aF;simp at aF;subst aF;rfl
     case d3=>unfold maxLen;omega
     case d4=>omega
     case d5=>simp;omega
     intro v' a5 ba E _;have bb:=(s.alloc s.size (.cells #[.int .i64 p.1] 3)).grown E (by simp;omega) (fun q hq=>by have:=(ao.lt q hq).1;omega);have bc:=(aC.alloc aC.size (.cells #[.int .i64 p.1] 3)).grown E (by simp;omega) (fun q hq=>(ao.lt q hq).1);clear E;go_wp2_with fail
     go_roundw
     case rel=>exact ⟨j+1,Aa R,by go_num,by rw[Aa al,Ar,zU,zA];exact ba,bb,bc⟩
     case measure=>have:=Aa R;simp[intOf];omega
    ·have e:j=S.length:=by omega
     subst e;have e2:S.take S.length=S:=zq NLN;rw[e2] at B;obtain ⟨aD,aE,rfl,_⟩:=Ad B;go_wp2_with fail
     refine bodyPost_ret (v:= .tuple #[.slice aD (Aq S).length aE,.bool true]) (by simp[results,Tryz.results125,go_sem]) rfl ⟨?_,o⟩
     rw[Aa H];exact ⟨_,rfl,Mg (by rw[LO] at B ⊢;exact B) (Aa aA).size⟩
theorem EJ {w:World}{a:Nat}{x:Option Addr}{n c:Nat}{L:List Int}(h:w.ownsRow a 3 1 (.slice x n c) n (Ar L))(b:n≤1048576):BT w x n c L:=by
 have d:L.length=n:=by have:=h.1;rw[Ar,zV] at this;omega
 refine ⟨d,b,fun j f=>?_⟩;obtain ⟨l,m,i,hc⟩:=Ad h;cases i;obtain ⟨g,rfl,_,k⟩:=hc (by omega);refine ⟨g,0,rfl,(h.lt g rfl).2, ?_⟩;rw[zX];exact k j _ (by rw[Ar,zh,zH f];rfl)
end Go.Proofs.YtchakjeegneeoaaGreatDoor
