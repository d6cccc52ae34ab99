/-
  Ints0, MarkT, Mark, GA, GB, GC, GD, GE. Own work.
-/
import Derived.Test.YtchakjeegneeoaaGreatDoorMXAF
import Derived.Test.YtchakjeegneeoaaGreatDoorMXAC
import Derived.Test.YtchakjeegneeoaaGreatDoorMXAG
import Derived.Deep.Draws
namespace Go.Proofs.YtchakjeegneeoaaGreatDoor
set_option maxRecDepth 100000
set_option maxHeartbeats 3200000
open Go.RowKit
set_option linter.unusedVariables false
structure BT (w:World) (a:Option Addr) (n c:Nat) (L:List Int):Prop where
 len:L.length=n
 small:n≤1048576
 cells:∀ j,(h:j < L.length)→∃ b off,a=some ⟨b,off,none⟩∧b < w.heap.size∧w.cell? ⟨b,off+j,none⟩=some (.int .i64 L[j])
theorem BT.below {w w':World}{B:Nat}{a:Option Addr}{n c:Nat}{L:List Int}(h:BT w a n c L)(d:Below B w w')(hB:w.heap.size≤B):BT w' a n c L:=
 ⟨h.len,h.small,fun j g=>by
  obtain ⟨b,f,i,k,c0⟩:=h.cells j g;exact ⟨b,f,i,zM k d.size,(d.cell (p:=⟨b,f+j,none⟩) (by show b < B;omega)).trans c0⟩⟩
theorem Yn (a B:List Int)(b:a.length=B.length):a=B↔∀ j,(h:j < a.length)→a[j]=B[j]'(b ▸ h):=by
 constructor
 ·intro e j h;subst e;rfl
 ·intro h;exact List.ext_getElem b (fun j h1 h2=>h j h1)
theorem Iy (w:World)(m:Nat):Below w.heap.size w (w.drewN m):=by
 exact ⟨(Below.refl w.heap.size w).os,(Below.refl w.heap.size w).tape,(Below.refl w.heap.size w).output,NLN,fun _ _=>rfl⟩
theorem Oh {w wr:World}(h:∃ m,wr=w.drewN m):∃ m,wr.drew=w.drewN m:=by
 obtain ⟨m,rfl⟩:=h;exact ⟨m+1,rfl⟩
theorem AaE (a b:Option Addr)(n c m d:Nat)(f B:List Int)(w:World)(h1:BT w a n c f)(h2:BT w b m d B):
  Calls Tryz.prog 126 #[.slice a n c,.slice b m d] w fun e w'=>e= .returned (.bool (decide (f=B)))∧∃ m,w'=w.drewN m:=by
 have R:=h1.small;have S:=h2.small;have A:=Ab h1.len;have K:=Ab h2.len;by_cases g:n=m
 ·have L:((n:Int) !=(m:Int))=false:=by rw[g];simp
  have r:=Ab (show f.length=B.length by rw[h1.len,h2.len,g]);have C:=Ab (Yn f B (Aa r));have E:=Ab g;clear g;go_enter Tryz.func126,Tryz.ntmps126
  go_wp2_with fail
  go_loopw [13] (fun i wr=>∃ k:Nat,k≤n∧i= .int .i64 k∧(∃ m,wr=w.drewN m)∧∀ j,(h:j < f.length)→j < k→f[j]=B[j]'(Aa r ▸ h)) (fun i _=>n - (intOf i).toNat)
  case atStart=>exact ⟨0,by omega,rfl,⟨0,rfl⟩,fun j _ h=>absurd h (by omega)⟩
  case round=>
   obtain ⟨k,hk,rfl,s,F⟩:=hrel;have t:=Ab s;have H:Below w.heap.size w wr:=by obtain ⟨M,rfl⟩:=s;exact Iy w M
   clear s;have u:=Ab F;clear F;by_cases v:k < n
   ·have T:(k:Int) < (n:Int):=by omega
    have U:(k:Int) < (m:Int):=by have:=Aa E;omega
    have I:k < f.length:=by rw[Aa A];exact v
    have N:k < B.length:=by rw[Aa K,← Aa E];exact v
    obtain ⟨b1,V,rfl,W,c1⟩:=(h1.below H NLN).cells k I;obtain ⟨b2,X,rfl,Y,c2⟩:=(h2.below H NLN).cells k N;have o:=Ab (show f[k]≠B[k]→decide (f=B)=false from fun e=>zR (fun e'=>e ((Aa C).1 e' k I)));have p:=Ab (show f[k]=B[k]→∀ j,(h:j < f.length)→j < k+1→f[j]=B[j]'(Aa r ▸ h) from fun e j z Z=>by
     by_cases O:j=k
     ·subst O;exact e
     ·exact Aa u j z (by omega))
    have J:=Ab v;clear u;generalize f[k]=x at c1 o p;generalize B[k]=y at c2 o p;by_cases l:x=y
    ·have P:(x != y)=false:=by rw[l];simp
     have Q:=Ab (Aa p l);clear l o p;go_wp2_with fail
     go_region
     go_wp2_with fail
     go_roundw
     case rel=>exact ⟨k+1,Aa J,by go_num,Oh (Aa t),Aa Q⟩
     case measure=>have:=Aa J;simp[intOf];omega
    ·have P:(x != y)=true:=zS.2 l;have q:=Ab (Aa o l);clear l o p;go_wp2_with fail
     go_region
     go_wp2_with fail
     go_ret
     exact ⟨Ag (Aa q).symm,Oh (Aa t)⟩
   ·have e:k=n:=by omega
    subst e;have q:=Ab (show decide (f=B)=true from zW ((Aa C).2 (fun j z=>Aa u j z (by have:=Aa A;omega))));go_wp2
    go_ret
    exact ⟨Ag (Aa q).symm,Aa t⟩
 ·have L:((n:Int) !=(m:Int))=true:=zS.2 (by omega);have q:=Ab (show decide (f=B)=false from zR (fun e=>g (by rw[← h1.len,← h2.len,e])));clear g;go_enter Tryz.func126,Tryz.ntmps126
  go_wp2
  go_ret
  exact ⟨Ag (Aa q).symm,0,rfl⟩
theorem VJ (a b:Option Addr)(n c m d:Nat)(f B:List Int)(w:World)(h1:BT w a n c f)(h2:BT w b m d B):
  Calls Tryz.prog 126 #[.slice a n c,.slice b m d] w fun e w'=>e= .returned (.bool (decide (f=B)))∧Below w.heap.size w w':=
 (AaE a b n c m d f B w h1 h2).mono fun e w' h=>⟨h.1,by obtain ⟨m,rfl⟩:=h.2;exact Iy w m⟩
set_option maxHeartbeats 800000
def LC:Nat→Nat→ByteArray→ByteArray
 | 0,_,l=>l
 |f+1,k,l=>if k=0 then l else LC f (k / 10) (Sv (48+(k:Int) % 10) ++l)
theorem Yt (f:Nat)(l:ByteArray):LC f 0 l=l:=by cases f <;> simp[LC]
theorem Qk (f k:Nat)(l:ByteArray)(h:k≠0):LC (f+1) k l=LC f (k / 10) (Sv (48+(k:Int) % 10) ++l):=by simp[LC,h]
theorem TW:∀ (f k:Nat) (l:ByteArray),(LC f k l).size≤l.size+k
 | 0,_,_=>by simp[LC]
 |f+1,k,l=>by
  by_cases h:k=0
  ·simp[LC,h]
  ·have:=TW f (k / 10) (Sv (48+(k:Int) % 10) ++l);rw[Qk f k l h];rw[M5,Jq] at this;omega
def BL (k:Nat):ByteArray:=if k=0 then ⟨#[109,48]⟩ else ⟨#[109]⟩ ++LC (k+1) k ⟨#[]⟩
theorem VP (k:Nat):(BL k).size≤k+2:=by
 unfold BL;by_cases h:k=0
 ·simp[h,ByteArray.size]
 ·have:=TW (k+1) k ⟨#[]⟩;rw[if_neg h,M5];simp only[ByteArray.size,List.size_toArray,List.length_nil,List.length_cons] at this ⊢;omega
theorem RI (k:Nat)(w:World)(hk:k≤35184372088832):
  Calls Tryz.prog 39 #[.int .i64 k] w fun e w'=>e= .returned (.string (BL k))∧Below w.heap.size w w':=by
 by_cases h0:k=0
 ·subst h0;go_enter Tryz.func39,Tryz.ntmps39
  go_wp2
  go_ret
  exact ⟨rfl,BRN⟩
 ·have h1:(0 :Int) < (k:Int):=by omega
  have g:=Ab (show BL k=⟨#[109]⟩ ++LC (k+1) k ⟨#[]⟩ by rw[BL,if_neg h0]);have j:=Ad3;clear h0;go_enter Tryz.func39,Tryz.ntmps39
  go_wp2
  go_loopw [0,3] (fun i o wr=>∃ (m f:Nat) (l:ByteArray),i= .int .i64 m∧o= .string l∧m < f∧l.size+m≤k∧LC f m l=LC (k+1) k ⟨#[]⟩∧Below w.heap.size w wr) (fun i _ _=>(intOf i).toNat)
  case atStart=>exact ⟨k,k+1,⟨#[]⟩,rfl,rfl,by omega,by simp[ByteArray.size],rfl,BRN⟩
  case round=>
   obtain ⟨m,f,l,rfl,rfl,n,p,hd,b⟩:=hrel;have h:=b.size;by_cases d:m=0
   ·subst d;rw[Yt] at hd;have c:=Ab hd;clear hd;go_wp2
    go_ret
    exact ⟨by rw[Aa g,← Aa c];rfl,b⟩
   ·have q:(0 :Int) < (m:Int):=by omega
    obtain ⟨a,rfl⟩:∃ a,f=a+1:=⟨f - 1,by omega⟩
    rw[Qk a m l d] at hd;have c:=Ab hd;clear hd;have r:=Jq (48+(m:Int) % 10);go_wp2
    go_roundw
    case rel=>exact ⟨m / 10,a,_,by go_num,rfl,by omega,by rw[M5,Jq];omega,Aa c,b.alloc h _⟩
    case measure=>simp[intOf];omega
theorem Dx (x:Int)(w:World)(h0: 0≤x)(hk:x≤35184372088832):
  Calls Tryz.prog 39 #[.int .i64 x] w fun e w'=>e= .returned (.string (BL x.toNat))∧Below w.heap.size w w':=by
 obtain ⟨n,rfl⟩:=yA h0;rw[zj];exact RI n w (by omega)
def see (s:List UInt8) (t:Af):Bool:=(decide (t.kind=4) || decide (t.kind=5)) && decide (t.text=AB s)
def AM (s:List UInt8):List Af→Bool
 | []=>false
 |t ::_=>see s t
theorem Tl {a b:List UInt8}(h:AB a=AB b):a=b:=by
 rw[← DT a,← DT b,h]
theorem Ah {s s':List UInt8}{t:Af}(h:see s t=true)(a:s≠s'):see s' t=false:=by
 rw[see,zI,zG] at h;rw[see,h.2];have:decide (AB s=AB s')=false:=zR (fun e=>a (Tl e));rw[this,Bool.and_false]
theorem Im {s:List UInt8}{t:Af}(h:see s t=true):t.kind=4∨t.kind=5:=by
 rw[see,zI,Bool.or_eq_true,zG,zG] at h;exact h.1
theorem NJ {s:List UInt8}{t:Af}(h:see s t=true):t.text=AB s:=by
 rw[see,zI,zG] at h;exact h.2
def DK:List UInt8:= [108,101,116]
def Bb:List UInt8:= [119,104,101,110]
def AJ:List UInt8:= [101,108,115,101]
def Ga:List UInt8:= [100,101,110,121]
def Bz:List UInt8:= [103,114,97,110,116]
def Et:List UInt8:= [105,102]
def BP:List UInt8:= [116,104,101,110]
def E3:List UInt8:= [110,111,116]
def Tm:List UInt8:= [97,110,100]
def kOr:List UInt8:= [111,114]
def kIn:List UInt8:= [105,110]
def AbQ:List UInt8:= [119,105,116,104,105,110]
def Cf:List UInt8:= [115,105,122,101]
def Ch:List UInt8:= [116,114,117,101]
def Bm:List UInt8:= [102,97,108,115,101]
def By:List UInt8:= [61,62]
def So:List UInt8:= [61]
def AC:List UInt8:= [59]
def Bi:List UInt8:= [45]
def AF:List UInt8:= [40]
def AS:List UInt8:= [41]
def Cp:List UInt8:= [123]
def BJ:List UInt8:= [125]
def EC:List UInt8:= [44]
def CE:Nat→List (List UInt8 × Int)
 | 1=> [(kOr,26)]
 | 2=> [(Tm,25)]
 | 4=> [([61,61],19),([33,61],20),([60],21),([60,61],22),(kIn,23),(AbQ,24)]
 | 5=> [([43],11),(Bi,12),([124],16),([92],18)]
 | 6=> [([42],13),([47],14),([37],15),([38],17)]
 |_=> []
def CZ (k:Nat) (t:Af):Option Int:=((CE k).find? (fun p=>see p.1 t)).map Prod.snd
def Tn (k:Nat):List Af→Option Int
 | []=>none
 |t ::_=>CZ k t
theorem FH {k:Nat}{t:Af}{op:Int}(h:CZ k t=some op):∃ s,(s,op)∈CE k∧see s t=true:=by
 rw[CZ,Option.map_eq_some_iff] at h;obtain ⟨⟨s,o⟩,h1,h2⟩:=h;have h3:=List.mem_of_find?_eq_some h1;have h4:=List.find?_some h1;exact ⟨s,by rw[← h2];exact h3,h4⟩
inductive Pt where
 |int (i:Nat) (n:Int)
 |text (i:Nat) (s:ByteArray)
 |bool (i:Nat) (b:Bool)
 |set (i:Nat) (ss:List ByteArray)
 |name (i:Nat) (s:ByteArray)
 |un (i:Nat) (op:Int) (k:Pt)
 |bin (i:Nat) (op:Int) (l r:Pt)
 |ite (i:Nat) (c t e:Pt)
def GS (t:Af):Prop:=t.kind=2∧t.text≠AB []
instance (t:Af):Decidable (GS t):=inferInstanceAs (Decidable (_∧_))
def JB:List Af→List ByteArray→List ByteArray × Bool × List Af
 | [],a=>(a,false, [])
 | [t],a=>if GS t then (a ++ [t.text],true, []) else (a,false, [t])
 |t ::c ::q,a=>if GS t then (if see EC c then JB q (a ++ [t.text]) else (a ++ [t.text],true,c ::q)) else (a,false,t ::c ::q)
def GT (ts:List Af):List ByteArray × Bool × List Af:=if AM BJ ts then ([],true,ts) else JB ts []
inductive PR where
 |ok (e:Pt) (r:List Af)
 |bad (r:List Af)
def PR.rest:PR→List Af
 | .ok _ r=>r
 | .bad r=>r
inductive NT where
 |expr
 |chain (k:Nat)
 |more (k:Nat) (e:Pt)
 |opd (k:Nat)
 |neg
 |cmp
 |una
 |prim
 |encl
 |beh (s:List UInt8)
inductive D:NT→List Af→PR→Prop
 |beh_no {s:List UInt8} {ts:List Af} (h:AM s ts=false):D (.beh s) ts (.bad ts)
 |beh {s:List UInt8} {t:Af} {r:List Af} {x:PR} (h:see s t=true) (d:D .expr r x):D (.beh s) (t ::r) x
 |expr_no {ts:List Af} {x:PR} (h:AM Et ts=false) (d:D (.chain 1) ts x):D .expr ts x
 |expr_if1 {t:Af} {r q:List Af} (h:see Et t=true) (d1:D (.beh Et) (t ::r) (.bad q)):D .expr (t ::r) (.bad q)
 |expr_if2 {t:Af} {r q p:List Af} {a:Pt} (h:see Et t=true) (d1:D (.beh Et) (t ::r) (.ok a q)) (d2:D (.beh BP) q (.bad p)):D .expr (t ::r) (.bad p)
 |expr_if3 {t:Af} {r q p o:List Af} {a b:Pt} (h:see Et t=true) (d1:D (.beh Et) (t ::r) (.ok a q)) (d2:D (.beh BP) q (.ok b p)) (d3:D (.beh AJ) p (.bad o)):D .expr (t ::r) (.bad o)
 |expr_if {t:Af} {r q p o:List Af} {a b c:Pt} (h:see Et t=true) (d1:D (.beh Et) (t ::r) (.ok a q)) (d2:D (.beh BP) q (.ok b p)) (d3:D (.beh AJ) p (.ok c o)):D .expr (t ::r) (.ok (.ite t.at_ a b c) o)
 |chain_bad {k:Nat} {ts r:List Af} (d:D (.opd k) ts (.bad r)):D (.chain k) ts (.bad r)
 |chain {k:Nat} {ts r:List Af} {e:Pt} {x:PR} (d:D (.opd k) ts (.ok e r)) (d2:D (.more k e) r x):D (.chain k) ts x
 |more_no {k:Nat} {e:Pt} {ts:List Af} (h:Tn k ts=none):D (.more k e) ts (.ok e ts)
 |more_bad {k:Nat} {e:Pt} {t:Af} {r q:List Af} {op:Int} (h:CZ k t=some op) (d:D (.opd k) r (.bad q)):D (.more k e) (t ::r) (.bad q)
 |more {k:Nat} {e f:Pt} {t:Af} {r q:List Af} {op:Int} {x:PR} (h:CZ k t=some op) (d:D (.opd k) r (.ok f q)) (d2:D (.more k (.bin t.at_ op e f)) q x):D (.more k e) (t ::r) x
 |opd1 {ts:List Af} {x:PR} (d:D (.chain 2) ts x):D (.opd 1) ts x
 |opd2 {ts:List Af} {x:PR} (d:D .neg ts x):D (.opd 2) ts x
 |opd4 {ts:List Af} {x:PR} (d:D (.chain 5) ts x):D (.opd 4) ts x
 |opd5 {ts:List Af} {x:PR} (d:D (.chain 6) ts x):D (.opd 5) ts x
 |opd6 {ts:List Af} {x:PR} (d:D .una ts x):D (.opd 6) ts x
 |neg_no {ts:List Af} {x:PR} (h:AM E3 ts=false) (d:D .cmp ts x):D .neg ts x
 |neg_bad {t:Af} {r q:List Af} (h:see E3 t=true) (d:D .neg r (.bad q)):D .neg (t ::r) (.bad q)
 |neg {t:Af} {r q:List Af} {e:Pt} (h:see E3 t=true) (d:D .neg r (.ok e q)):D .neg (t ::r) (.ok (.un t.at_ 9 e) q)
 |cmp_bad {ts r:List Af} (d:D (.opd 4) ts (.bad r)):D .cmp ts (.bad r)
 |cmp_one {ts r:List Af} {e:Pt} (d:D (.opd 4) ts (.ok e r)) (h:Tn 4 r=none):D .cmp ts (.ok e r)
 |cmp_two_bad {ts r q:List Af} {e:Pt} {t:Af} {op:Int} (d:D (.opd 4) ts (.ok e (t ::r))) (h:CZ 4 t=some op) (d2:D (.opd 4) r (.bad q)):D .cmp ts (.bad q)
 |cmp_two {ts r q:List Af} {e f:Pt} {t:Af} {op:Int} (d:D (.opd 4) ts (.ok e (t ::r))) (h:CZ 4 t=some op) (d2:D (.opd 4) r (.ok f q)):D .cmp ts (.ok (.bin t.at_ op e f) q)
 |una_no {ts:List Af} {x:PR} (h:AM Bi ts=false) (d:D .prim ts x):D .una ts x
 |una_bad {t:Af} {r q:List Af} (h:see Bi t=true) (d:D .una r (.bad q)):D .una (t ::r) (.bad q)
 |una {t:Af} {r q:List Af} {e:Pt} (h:see Bi t=true) (d:D .una r (.ok e q)):D .una (t ::r) (.ok (.un t.at_ 8 e) q)
 |num {t:Af} {r:List Af} (h:t.kind=1):D .prim (t ::r) (.ok (.int t.at_ t.num) r)
 |text {t:Af} {r:List Af} (h:t.kind=2):D .prim (t ::r) (.ok (.text t.at_ t.text) r)
 |name {t:Af} {r:List Af} (h:t.kind=3):D .prim (t ::r) (.ok (.name t.at_ t.text) r)
 |tru {t:Af} {r:List Af} (h:see Ch t=true):D .prim (t ::r) (.ok (.bool t.at_ true) r)
 |fls {t:Af} {r:List Af} (h:see Bm t=true):D .prim (t ::r) (.ok (.bool t.at_ false) r)
 |size_bad {t:Af} {r q:List Af} (h:see Cf t=true) (d:D .encl r (.bad q)):D .prim (t ::r) (.bad q)
 |size {t:Af} {r q:List Af} {e:Pt} (h:see Cf t=true) (d:D .encl r (.ok e q)):D .prim (t ::r) (.ok (.un t.at_ 10 e) q)
 |par {t:Af} {r:List Af} {x:PR} (h:see AF t=true) (d:D .encl (t ::r) x):D .prim (t ::r) x
 |set_bad {t:Af} {r q:List Af} {ss:List ByteArray} (h:see Cp t=true) (hs:GT r=(ss,false,q)):D .prim (t ::r) (.bad q)
 |set_end {t:Af} {r q:List Af} {ss:List ByteArray} (h:see Cp t=true) (hs:GT r=(ss,true,q)) (hq:AM BJ q=false):D .prim (t ::r) (.bad q)
 |set {t u:Af} {r q:List Af} {ss:List ByteArray} (h:see Cp t=true) (hs:GT r=(ss,true,u ::q)) (hq:see BJ u=true):D .prim (t ::r) (.ok (.set t.at_ ss) q)
 |prim_nil:D .prim [] (.bad [])
 |prim_no {t:Af} {r:List Af} (h1:t.kind≠1) (h2:t.kind≠2) (h3:t.kind≠3) (h4:see Ch t=false) (h5:see Bm t=false) (h6:see Cf t=false) (h7:see AF t=false) (h8:see Cp t=false):D .prim (t ::r) (.bad (t ::r))
 |encl_bad {ts r:List Af} (d:D (.beh AF) ts (.bad r)):D .encl ts (.bad r)
 |encl_end {ts r:List Af} {e:Pt} (d:D (.beh AF) ts (.ok e r)) (h:AM AS r=false):D .encl ts (.bad r)
 |encl {ts r:List Af} {e:Pt} {t:Af} (d:D (.beh AF) ts (.ok e (t ::r))) (h:see AS t=true):D .encl ts (.ok e r)
theorem WJ:∀ (ts:List Af) (a:List ByteArray),∃ c,ts=c ++(JB ts a).2.2
 | [],a=>⟨[],by simp[JB]⟩
 | [t],a=>by
  rw[JB];split
  ·exact ⟨[t],rfl⟩
  ·exact ⟨[],rfl⟩
 |t ::c ::q,a=>by
  rw[JB];split
  ·split
   ·obtain ⟨d,hd⟩:=WJ q (a ++ [t.text]);exact ⟨t ::c ::d,by rw[List.cons_append,List.cons_append,← hd]⟩
   ·exact ⟨[t],rfl⟩
  ·exact ⟨[],rfl⟩
theorem J6 (ts:List Af):∃ c,ts=c ++(GT ts).2.2:=by
 rw[GT];split
 ·exact ⟨[],rfl⟩
 ·exact WJ ts []
def NT.slow:NT→Bool
 | .more _ _=>true
 |_=>false
theorem D.suf {nt:NT}{ts:List Af}{x:PR}(h:D nt ts x):∃ c,ts=c ++x.rest∧(∀ e r,x= .ok e r→nt.slow=false→c≠ []):=by
 induction h with
 |beh_no=>exact ⟨[],rfl,fun e r h=>by cases h⟩
 |@beh s t r x h d a=>obtain ⟨c,hc,_⟩:=a;exact ⟨t ::c,by rw[List.cons_append,← hc],fun _ _ _ _=>by simp⟩
 |expr_no h d a=>obtain ⟨c,hc,h2⟩:=a;exact ⟨c,hc,fun e r h3 _=>h2 e r h3 rfl⟩
 |expr_if1 h d a=>obtain ⟨c,hc,_⟩:=a;exact ⟨c,hc,fun _ _ h=>by cases h⟩
 |expr_if2 h d1 d2 g i=>obtain ⟨c,hc,_⟩:=g;obtain ⟨d,hd,_⟩:=i;exact ⟨c ++d,by rw[zC,← hd];exact hc,fun _ _ h=>by cases h⟩
 |expr_if3 h d1 d2 d3 g i j=>obtain ⟨c,hc,_⟩:=g;obtain ⟨d,hd,_⟩:=i;obtain ⟨e,he,_⟩:=j;dsimp only[PR.rest] at *;exact ⟨c ++(d ++e),by rw[zC,zC,← he,← hd];exact hc,fun _ _ h=>by cases h⟩
 |expr_if h d1 d2 d3 g i j=>obtain ⟨c,hc,l⟩:=g;obtain ⟨d,hd,_⟩:=i;obtain ⟨e,he,_⟩:=j;dsimp only[PR.rest] at *;exact ⟨c ++(d ++e),by rw[zC,zC,← he,← hd];exact hc,fun _ _ _ _ h=>l _ _ rfl rfl (List.append_eq_nil_iff.1 h).1⟩
 |chain_bad d a=>obtain ⟨c,hc,_⟩:=a;exact ⟨c,hc,fun _ _ h=>by cases h⟩
 |chain d d2 g i=>obtain ⟨c,hc,l⟩:=g;obtain ⟨d,hd,_⟩:=i;exact ⟨c ++d,by rw[zC,← hd];exact hc,fun _ _ _ _ h=>l _ _ rfl rfl (List.append_eq_nil_iff.1 h).1⟩
 |more_no=>exact ⟨[],rfl,fun _ _ _ h=>by cases h⟩
 |@more_bad k e t r q op h d a=>obtain ⟨c,hc,_⟩:=a;exact ⟨t ::c,by rw[List.cons_append,← hc],fun _ _ h=>by cases h⟩
 |@more k e f t r q op x h d d2 g i=>obtain ⟨c,hc,_⟩:=g;obtain ⟨d,hd,_⟩:=i;exact ⟨t ::(c ++d),by rw[List.cons_append,zC,← hd];exact congrArg _ hc,fun _ _ _ h=>by cases h⟩
 |opd1 d a=>obtain ⟨c,hc,h2⟩:=a;exact ⟨c,hc,fun e r h3 _=>h2 e r h3 rfl⟩
 |opd2 d a=>obtain ⟨c,hc,h2⟩:=a;exact ⟨c,hc,fun e r h3 _=>h2 e r h3 rfl⟩
 |opd4 d a=>obtain ⟨c,hc,h2⟩:=a;exact ⟨c,hc,fun e r h3 _=>h2 e r h3 rfl⟩
 |opd5 d a=>obtain ⟨c,hc,h2⟩:=a;exact ⟨c,hc,fun e r h3 _=>h2 e r h3 rfl⟩
 |opd6 d a=>obtain ⟨c,hc,h2⟩:=a;exact ⟨c,hc,fun e r h3 _=>h2 e r h3 rfl⟩
 |neg_no h d a=>obtain ⟨c,hc,h2⟩:=a;exact ⟨c,hc,fun e r h3 _=>h2 e r h3 rfl⟩
 |@neg_bad t r q h d a=>obtain ⟨c,hc,_⟩:=a;exact ⟨t ::c,by rw[List.cons_append,← hc],fun _ _ h=>by cases h⟩
 |@neg t r q e h d a=>obtain ⟨c,hc,_⟩:=a;exact ⟨t ::c,by rw[List.cons_append];exact congrArg _ hc,fun _ _ _ _=>by simp⟩
 |cmp_bad d a=>obtain ⟨c,hc,_⟩:=a;exact ⟨c,hc,fun _ _ h=>by cases h⟩
 |cmp_one d h a=>obtain ⟨c,hc,h2⟩:=a;exact ⟨c,hc,fun _ _ _ _=>h2 _ _ rfl rfl⟩
 |@cmp_two_bad ts r q e t op d h d2 g i=>obtain ⟨c,hc,_⟩:=g;obtain ⟨b,m,_⟩:=i;exact ⟨c ++t ::b,by rw[zC,List.cons_append,← m];exact hc,fun _ _ h=>by cases h⟩
 |@cmp_two ts r q e f t op d h d2 g i=>obtain ⟨c,hc,_⟩:=g;obtain ⟨b,m,_⟩:=i;exact ⟨c ++t ::b,by rw[zC,List.cons_append];exact hc.trans (by rw[show r=b ++_ from m];rfl),fun _ _ _ _ h=>by simp at h⟩
 |una_no h d a=>obtain ⟨c,hc,h2⟩:=a;exact ⟨c,hc,fun e r h3 _=>h2 e r h3 rfl⟩
 |@una_bad t r q h d a=>obtain ⟨c,hc,_⟩:=a;exact ⟨t ::c,by rw[List.cons_append,← hc],fun _ _ h=>by cases h⟩
 |@una t r q e h d a=>obtain ⟨c,hc,_⟩:=a;exact ⟨t ::c,by rw[List.cons_append];exact congrArg _ hc,fun _ _ _ _=>by simp⟩
 |@num t r h=>exact ⟨[t],rfl,fun _ _ _ _=>by simp⟩
 |@text t r h=>exact ⟨[t],rfl,fun _ _ _ _=>by simp⟩
 |@name t r h=>exact ⟨[t],rfl,fun _ _ _ _=>by simp⟩
 |@tru t r h=>exact ⟨[t],rfl,fun _ _ _ _=>by simp⟩
 |@fls t r h=>exact ⟨[t],rfl,fun _ _ _ _=>by simp⟩
 |@size_bad t r q h d a=>obtain ⟨c,hc,_⟩:=a;exact ⟨t ::c,by rw[List.cons_append,← hc],fun _ _ h=>by cases h⟩
 |@size t r q e h d a=>obtain ⟨c,hc,_⟩:=a;exact ⟨t ::c,by rw[List.cons_append];exact congrArg _ hc,fun _ _ _ _=>by simp⟩
 |par h d a=>obtain ⟨c,hc,h2⟩:=a;exact ⟨c,hc,fun e r h3 _=>h2 e r h3 rfl⟩
 |@set_bad t r q n h hs=>obtain ⟨c,hc⟩:=J6 r;rw[hs] at hc;exact ⟨t ::c,by rw[List.cons_append];exact congrArg _ hc,fun _ _ h=>by cases h⟩
 |@set_end t r q n h hs hq=>obtain ⟨c,hc⟩:=J6 r;rw[hs] at hc;exact ⟨t ::c,by rw[List.cons_append];exact congrArg _ hc,fun _ _ h=>by cases h⟩
 |@set t u r q n h hs hq=>obtain ⟨c,hc⟩:=J6 r;rw[hs] at hc;exact ⟨t ::(c ++ [u]),by rw[List.cons_append,zC];exact congrArg _ hc,fun _ _ _ _=>by simp⟩
 |prim_nil=>exact ⟨[],rfl,fun _ _ h=>by cases h⟩
 |prim_no=>exact ⟨[],rfl,fun _ _ h=>by cases h⟩
 |encl_bad d a=>obtain ⟨c,hc,_⟩:=a;exact ⟨c,hc,fun _ _ h=>by cases h⟩
 |encl_end d h a=>obtain ⟨c,hc,_⟩:=a;exact ⟨c,hc,fun _ _ h=>by cases h⟩
 |@encl ts r e t d h a=>obtain ⟨c,hc,_⟩:=a;exact ⟨c ++ [t],by rw[zC];exact hc,fun _ _ _ _=>by simp⟩
theorem D.len {nt:NT}{ts:List Af}{x:PR}(h:D nt ts x):x.rest.length≤ts.length:=by
 obtain ⟨c,hc,_⟩:=h.suf;rw[hc,zA];omega
theorem D.less {nt:NT}{ts r:List Af}{e:Pt}(h:D nt ts (.ok e r))(hs:nt.slow=false):r.length < ts.length:=by
 obtain ⟨c,hc,a⟩:=h.suf;have h1:=a e r rfl hs;have h2: 0 < c.length:=List.length_pos_iff.2 h1;rw[hc,zA,PR.rest];omega
def NT.rank:NT→Nat
 | .beh _=>0 | .encl=>1 | .prim=>2 | .una=>3
 | .opd k=>if k=6 then 4 else if k=5 then 6 else if k=4 then 8 else if k=2 then 11 else 13
 | .chain k=>if k=6 then 5 else if k=5 then 7 else if k=2 then 12 else 14
 | .cmp=>9 | .neg=>10 | .expr=>15 | .more .. =>16
def NT.good:NT→Prop
 | .opd k=>k=1∨k=2∨k=4∨k=5∨k=6
 | .chain k=>k=1∨k=2∨k=5∨k=6
 | .more k _=>k=1∨k=2∨k=5∨k=6
 |_=>True
theorem D.total:∀ (n:Nat) (nt:NT) (ts:List Af),nt.good→ts.length * 17+nt.rank≤n→∃ x,D nt ts x:=by
 intro n
 induction n with
 |zero=>
  intro nt ts j g;cases nt with
  |beh s=>cases ts with
   |nil=>exact ⟨_,.beh_no rfl⟩
   |cons t r=>simp at g
  |opd k=>exfalso;revert g;simp only[NT.rank];split <;> (try split) <;> (try split) <;> (try split) <;> omega
  |chain k=>exfalso;revert g;simp only[NT.rank];split <;> (try split) <;> (try split) <;> omega
  |_=>simp[NT.rank] at g
 |succ n i=>
  intro nt ts j g;cases nt with
  |beh s=>
   cases ts with
   |nil=>exact ⟨_,.beh_no rfl⟩
   |cons t r=>
    cases h:see s t
    ·exact ⟨_,.beh_no h⟩
    ·obtain ⟨x,d⟩:=i .expr r trivial (by simp[NT.rank] at g ⊢;omega);exact ⟨x,.beh h d⟩
  |expr=>
   cases h:AM Et ts
   ·obtain ⟨x,d⟩:=i (.chain 1) ts (.inl rfl) (by simp[NT.rank] at g ⊢;omega);exact ⟨x,.expr_no h d⟩
   ·cases ts with
    |nil=>cases h
    |cons t r=>
     have m:see Et t=true:=h;obtain ⟨x,d⟩:=i (.beh Et) (t ::r) trivial (by simp[NT.rank] at g ⊢;omega);cases x with
     |bad q=>exact ⟨_,.expr_if1 m d⟩
     |ok a q=>
      have l:=d.less rfl;obtain ⟨y,d2⟩:=i (.beh BP) q trivial (by simp[NT.rank] at g l ⊢;omega);cases y with
      |bad p=>exact ⟨_,.expr_if2 m d d2⟩
      |ok b p=>
       have z:=d2.less rfl;obtain ⟨v,d3⟩:=i (.beh AJ) p trivial (by simp[NT.rank] at g l ⊢;omega);cases v with
       |bad o=>exact ⟨_,.expr_if3 m d d2 d3⟩
       |ok c o=>exact ⟨_,.expr_if m d d2 d3⟩
  |chain k=>
   have hk:(k=1∨k=2∨k=4∨k=5∨k=6):=by simp[NT.good] at j;omega
   have w:(NT.opd k).rank+1=(NT.chain k).rank:=by simp[NT.good] at j;rcases j with rfl | rfl | rfl | rfl <;> rfl
   obtain ⟨x,d⟩:=i (.opd k) ts hk (by omega);cases x with
   |bad q=>exact ⟨_,.chain_bad d⟩
   |ok e q=>
    have l:=d.less rfl;obtain ⟨y,d2⟩:=i (.more k e) q j (by simp only[NT.rank] at g l ⊢;omega);exact ⟨y,.chain d d2⟩
  |more k e=>
   have hk:(k=1∨k=2∨k=4∨k=5∨k=6):=by simp[NT.good] at j;omega
   cases h:Tn k ts with
   |none=>exact ⟨_,.more_no h⟩
   |some op=>
    cases ts with
    |nil=>cases h
    |cons t r=>
     have w:(NT.opd k).rank≤13:=by simp only[NT.rank];split <;> (try split) <;> (try split) <;> (try split) <;> omega
     have A:(r.length+1) * 17+16≤n+1:=by simpa[NT.rank] using g
     obtain ⟨x,d⟩:=i (.opd k) r hk (by omega);cases x with
     |bad q=>exact ⟨_,.more_bad h d⟩
     |ok f q=>
      have l:=d.less rfl;obtain ⟨y,d2⟩:=i (.more k (.bin t.at_ op e f)) q j (by simp only[NT.rank];omega);exact ⟨y,.more h d d2⟩
  |opd k=>
   simp only[NT.good] at j;rcases j with rfl | rfl | rfl | rfl | rfl
   ·obtain ⟨x,d⟩:=i (.chain 2) ts (.inr (.inl rfl)) (by simp[NT.rank] at g ⊢;omega);exact ⟨x,.opd1 d⟩
   ·obtain ⟨x,d⟩:=i .neg ts trivial (by simp[NT.rank] at g ⊢;omega);exact ⟨x,.opd2 d⟩
   ·obtain ⟨x,d⟩:=i (.chain 5) ts (.inr (.inr (.inl rfl))) (by simp[NT.rank] at g ⊢;omega);exact ⟨x,.opd4 d⟩
   ·obtain ⟨x,d⟩:=i (.chain 6) ts (.inr (.inr (.inr rfl))) (by simp[NT.rank] at g ⊢;omega);exact ⟨x,.opd5 d⟩
   ·obtain ⟨x,d⟩:=i .una ts trivial (by simp[NT.rank] at g ⊢;omega);exact ⟨x,.opd6 d⟩
  |neg=>
   cases h:AM E3 ts
   ·obtain ⟨x,d⟩:=i .cmp ts trivial (by simp[NT.rank] at g ⊢;omega);exact ⟨x,.neg_no h d⟩
   ·cases ts with
    |nil=>cases h
    |cons t r=>
     obtain ⟨x,d⟩:=i .neg r trivial (by simp[NT.rank] at g ⊢;omega);cases x with
     |bad q=>exact ⟨_,.neg_bad h d⟩
     |ok e q=>exact ⟨_,.neg h d⟩
  |cmp=>
   obtain ⟨x,d⟩:=i (.opd 4) ts (.inr (.inr (.inl rfl))) (by simp[NT.rank] at g ⊢;omega);cases x with
   |bad q=>exact ⟨_,.cmp_bad d⟩
   |ok e q=>
    have l:=d.less rfl;cases h:Tn 4 q with
    |none=>exact ⟨_,.cmp_one d h⟩
    |some op=>
     cases q with
     |nil=>cases h
     |cons t r=>
      obtain ⟨y,d2⟩:=i (.opd 4) r (.inr (.inr (.inl rfl))) (by simp[NT.rank] at g l ⊢;omega);cases y with
      |bad q=>exact ⟨_,.cmp_two_bad d h d2⟩
      |ok f q=>exact ⟨_,.cmp_two d h d2⟩
  |una=>
   cases h:AM Bi ts
   ·obtain ⟨x,d⟩:=i .prim ts trivial (by simp[NT.rank] at g ⊢;omega);exact ⟨x,.una_no h d⟩
   ·cases ts with
    |nil=>cases h
    |cons t r=>
     obtain ⟨x,d⟩:=i .una r trivial (by simp[NT.rank] at g ⊢;omega);cases x with
     |bad q=>exact ⟨_,.una_bad h d⟩
     |ok e q=>exact ⟨_,.una h d⟩
  |prim=>
   cases ts with
   |nil=>exact ⟨_,.prim_nil⟩
   |cons t r=>
    by_cases h1:t.kind=1
    ·exact ⟨_,.num h1⟩
    by_cases h2:t.kind=2
    ·exact ⟨_,.text h2⟩
    by_cases h3:t.kind=3
    ·exact ⟨_,.name h3⟩
    cases h4:see Ch t
    case true=>exact ⟨_,.tru h4⟩
    cases h5:see Bm t
    case true=>exact ⟨_,.fls h5⟩
    cases h6:see Cf t
    case true=>
     obtain ⟨x,d⟩:=i .encl r trivial (by simp[NT.rank] at g ⊢;omega);cases x with
     |bad q=>exact ⟨_,.size_bad h6 d⟩
     |ok e q=>exact ⟨_,.size h6 d⟩
    cases h7:see AF t
    case true=>
     obtain ⟨x,d⟩:=i .encl (t ::r) trivial (by simp[NT.rank] at g ⊢;omega);exact ⟨x,.par h7 d⟩
    cases h8:see Cp t
    case true=>
     rcases hs:GT r with ⟨B,b,q⟩
     cases b
     ·exact ⟨_,.set_bad h8 hs⟩
     ·cases hq:AM BJ q
      ·exact ⟨_,.set_end h8 hs hq⟩
      ·cases q with
       |nil=>cases hq
       |cons u q=>exact ⟨_,.set h8 hs hq⟩
    exact ⟨_,.prim_no h1 h2 h3 h4 h5 h6 h7 h8⟩
  |encl=>
   obtain ⟨x,d⟩:=i (.beh AF) ts trivial (by simp[NT.rank] at g ⊢;omega);cases x with
   |bad q=>exact ⟨_,.encl_bad d⟩
   |ok e q=>
    cases h:AM AS q
    ·exact ⟨_,.encl_end d h⟩
    ·cases q with
     |nil=>cases h
     |cons t r=>exact ⟨_,.encl d h⟩
def Pn:List UInt8:= [78,85,77]
def FI:List UInt8:= [84,69,88,84]
def ER:List UInt8:= [78,65,77,69]
def tk (t:Af):List UInt8:=if t.kind=1 then Pn else if t.kind=2 then FI else if t.kind=3 then ER else Ap t.text
def KQ:List Af→List UInt8
 | []=> []
 |t ::_=>tk t
def Cq:List (List UInt8):=FJ ++Dp ++El.map (fun c=> [c])
def BI (t:Af):Prop:=t.kind=1∨t.kind=2∨t.kind=3∨((t.kind=4∨t.kind=5)∧Ap t.text∈Cq)
theorem J7 {t:Af}{s:List UInt8}(h:BI t)(hs:s∈Cq):see s t=decide (tk t=s):=by
 have b:Pn≠s:=fun e=>by rw[← e] at hs;revert hs;decide
 have c:FI≠s:=fun e=>by rw[← e] at hs;revert hs;decide
 have d:ER≠s:=fun e=>by rw[← e] at hs;revert hs;decide
 rcases h with h | h | h | ⟨h,f⟩
 ·simp[see,tk,h,b]
 ·simp[see,tk,h,c]
 ·simp[see,tk,h,d]
 ·have e:decide (t.text=AB s)=decide (Ap t.text=s):=by
   by_cases a:Ap t.text=s
   ·rw[zW a,zW];rw[← a,Bs]
   ·rw[zR a,zR];intro e;exact a (by rw[e,DT])
  rcases h with h | h <;> simp[see,tk,h,e]
theorem To {ts:List Af}{s:List UInt8}(h:∀ t∈ts,BI t)(hs:s∈Cq):AM s ts=decide (KQ ts=s):=by
 cases ts with
 |nil=>
  have:KQ []≠s:=fun e=>by rw[← e] at hs;revert hs;decide
  rw[zR this];rfl
 |cons t r=>exact J7 (h t (zT ..)) hs
inductive Sy where
 |policy | decision | expr | orMore | and_ | andMore | not_ | compared | sum | sumMore | term | termMore | unary | primary | scopes | scopesMore
 |scope
 |t (s:List UInt8)
def AY (k:Nat):List (List UInt8):=(CE k).map Prod.fst
def An (x:Sy) (t:List UInt8):Option (List Sy):=match x with
 | .policy=>if t=DK then some [.t DK,.t ER,.t So,.expr,.t AC,.policy] else if t=Bb then some [.t Bb,.expr,.t By,.decision,.t AC,.policy] else some [.t AJ,.decision,.t AC]
 | .decision=>if t=Bz then some [.t Bz,.expr] else some [.t Ga]
 | .expr=>if t=Et then some [.t Et,.expr,.t BP,.expr,.t AJ,.expr] else some [.and_,.orMore]
 | .orMore=>if t=kOr then some [.t kOr,.and_,.orMore] else some []
 | .and_=>some [.not_,.andMore]
 | .andMore=>if t=Tm then some [.t Tm,.not_,.andMore] else some []
 | .not_=>if t=E3 then some [.t E3,.not_] else some [.sum,.compared]
 | .compared=>if t∈AY 4 then some [.t t,.sum] else some []
 | .sum=>some [.term,.sumMore]
 | .sumMore=>if t∈AY 5 then some [.t t,.term,.sumMore] else some []
 | .term=>some [.unary,.termMore]
 | .termMore=>if t∈AY 6 then some [.t t,.unary,.termMore] else some []
 | .unary=>if t=Bi then some [.t Bi,.unary] else some [.primary]
 | .primary=>if t=AF then some [.t AF,.expr,.t AS] else if t=Cf then some [.t Cf,.t AF,.expr,.t AS] else if t=Cp then some [.t Cp,.scopes] else if t=FI∨t=ER∨t=Ch∨t=Bm then some [.t t] else some [.t Pn]
 | .scopes=>if t=BJ then some [.t BJ] else some [.scope,.scopesMore]
 | .scopesMore=>if t=EC then some [.t EC,.scope,.scopesMore] else some [.t BJ]
 | .scope=>none
 | .t _=>none
inductive NK:Nat→List Sy→List Af→Option (List Af)→Prop
 |fin:NK 0 [] [] none
 |over {t:Af} {r:List Af} :NK 0 [] (t ::r) (some (t ::r))
 |exp {n:Nat} {x:Sy} {m st:List Sy} {ts:List Af} {res:Option (List Af)} (h:An x (KQ ts)=some m) (d:NK n (m ++st) ts res):NK (n+1) (x ::st) ts res
 |scope {n:Nat} {st:List Sy} {t:Af} {r:List Af} {res:Option (List Af)} (h:GS t) (d:NK n st r res):NK (n+1) (.scope ::st) (t ::r) res
 |scope_nil {st:List Sy} :NK 1 (.scope ::st) [] (some [])
 |scope_no {st:List Sy} {t:Af} {r:List Af} (h: ¬ GS t):NK 1 (.scope ::st) (t ::r) (some (t ::r))
 |term {n:Nat} {s:List UInt8} {st:List Sy} {t:Af} {r:List Af} {res:Option (List Af)} (h:tk t=s) (d:NK n st r res):NK (n+1) (.t s ::st) (t ::r) res
 |term_nil {s:List UInt8} {st:List Sy} :NK 1 (.t s ::st) [] (some [])
 |term_no {s:List UInt8} {st:List Sy} {t:Af} {r:List Af} (h:tk t≠s):NK 1 (.t s ::st) (t ::r) (some (t ::r))
def Ru (st:List Sy) (ts:List Af) (res:Option (List Af)):Prop:=∃ n,NK n st ts res
theorem Ru.exp {x:Sy}{m st:List Sy}{ts:List Af}{a:Option (List Af)}(h:An x (KQ ts)=some m)(d:Ru (m ++st) ts a):Ru (x ::st) ts a:=by
 obtain ⟨n,d⟩:=d;exact ⟨n+1,.exp h d⟩
theorem Ru.scope {st:List Sy}{t:Af}{r:List Af}{a:Option (List Af)}(h:GS t)(d:Ru st r a):Ru (.scope ::st) (t ::r) a:=by
 obtain ⟨n,d⟩:=d;exact ⟨n+1,.scope h d⟩
theorem Ru.term {s:List UInt8}{st:List Sy}{t:Af}{r:List Af}{a:Option (List Af)}(h:tk t=s)(d:Ru st r a):Ru (.t s ::st) (t ::r) a:=by
 obtain ⟨n,d⟩:=d;exact ⟨n+1,.term h d⟩
theorem Ru.term_no {s:List UInt8}{st:List Sy}{ts:List Af}(h:KQ ts≠s):Ru (.t s ::st) ts (some ts):=by
 cases ts with
 |nil=>exact ⟨1,.term_nil⟩
 |cons t r=>exact ⟨1,.term_no h⟩
def PR.aft (x:PR) (st:List Sy) (res:Option (List Af)):Prop:=match x with
 | .ok _ r=>Ru st r res
 | .bad r=>res=some r
def NT.sym:NT→List Sy
 | .expr=> [.expr]
 | .chain k=>if k=1 then [.and_,.orMore] else if k=2 then [.not_,.andMore] else if k=5 then [.term,.sumMore] else [.unary,.termMore]
 | .more k _=>if k=1 then [.orMore] else if k=2 then [.andMore] else if k=5 then [.sumMore] else [.termMore]
 | .opd k=>if k=1 then [.and_] else if k=2 then [.not_] else if k=4 then [.sum] else if k=5 then [.term] else [.unary]
 | .neg=> [.not_]
 | .cmp=> [.sum,.compared]
 | .una=> [.unary]
 | .prim=> [.primary]
 | .encl=> [.t AF,.expr,.t AS]
 | .beh s=> [.t s,.expr]
def NT.fair:NT→Prop
 | .beh s=>s∈Cq
 |n=>n.good
theorem J8 {k:Nat}{s:List UInt8}(h:s∈AY k):s∈Cq:=by
 have a1:∀ s∈AY 1,s∈Cq:=by decide
 have a2:∀ s∈AY 2,s∈Cq:=by decide
 have a4:∀ s∈AY 4,s∈Cq:=by decide
 have a5:∀ s∈AY 5,s∈Cq:=by decide
 have a:∀ s∈AY 6,s∈Cq:=by decide
 match k,h with
 | 0,h | 3,h=>cases h
 | 1,h=>exact a1 s h
 | 2,h=>exact a2 s h
 | 4,h=>exact a4 s h
 | 5,h=>exact a5 s h
 | 6,h=>exact a s h
 |k+7,h=>cases h
theorem P8 {k:Nat}{ts:List Af}(c:∀ t∈ts,BI t)(h:Tn k ts=none):KQ ts ∉ AY k:=by
 intro a;cases ts with
 |nil=>exact absurd (J8 a) (by decide)
 |cons t r=>
  obtain ⟨p,hp,b⟩:=zQ.1 a;rw[Tn,CZ,Option.map_eq_none_iff,List.find?_eq_none] at h;refine h p hp ?_;rw[J7 (c t (zT ..)) (by rw[b];exact J8 a),zG,b];rfl
theorem IV {k:Nat}{t:Af}{op:Int}(a:BI t)(h:CZ k t=some op):tk t∈AY k:=by
 obtain ⟨s,h1,h2⟩:=FH h;have h3:s∈AY k:=zQ.2 ⟨_,h1,rfl⟩;rw[J7 a (J8 h3),zG] at h2;rw[h2];exact h3
theorem AO {s:List UInt8}{t:Af}(a:BI t)(hs:s∈Cq)(h:see s t=true):tk t=s:=by
 rw[J7 a hs,zG] at h;exact h
theorem P9 {s:List UInt8}{t:Af}(a:BI t)(hs:s∈Cq)(h:see s t=false):tk t≠s:=by
 rw[J7 a hs,decide_eq_false_iff_not] at h;exact h
theorem D8 {s:List UInt8}{ts:List Af}(a:∀ t∈ts,BI t)(hs:s∈Cq)(h:AM s ts=false):KQ ts≠s:=by
 rw[To a hs,decide_eq_false_iff_not] at h;exact h
theorem WK:∀ (ts:List Af) (a:List ByteArray),(∀ t∈ts,BI t)→∀ st b,((JB ts a).2.1=false→b=some (JB ts a).2.2)→((JB ts a).2.1=true→Ru (.t BJ ::st) (JB ts a).2.2 b)→Ru (.scope :: .scopesMore ::st) ts b
 | [],a,ho,st,b,h1,h2=>by
  have e:b=some []:=h1 rfl;rw[e];exact ⟨1,.scope_nil⟩
 | [t],a,ho,st,b,h1,h2=>by
  rw[JB] at h1 h2;by_cases hc:GS t
  ·rw[if_pos hc] at h2;refine .scope hc (.exp (m:= [.t BJ]) rfl (h2 rfl))
  ·rw[if_neg hc] at h1;have e:b=some [t]:=h1 rfl;rw[e];exact ⟨1,.scope_no hc⟩
 |t ::c ::q,a,ho,st,b,h1,h2=>by
  rw[JB] at h1 h2;by_cases hc:GS t
  ·rw[if_pos hc] at h1 h2;have f:=ho c (by simp);cases hk:see EC c
   ·rw[hk,if_neg (by decide)] at h2;have d:=P9 f (by decide) hk;exact .scope hc (.exp (m:= [.t BJ]) (if_neg d) (h2 rfl))
   ·rw[hk,if_pos rfl] at h1 h2;have d:=AO f (by decide) hk;exact .scope hc (.exp (m:= [.t EC,.scope,.scopesMore]) (if_pos d) (.term d (WK q _ (fun u g=>ho u (by simp[g])) st b h1 h2)))
  ·rw[if_neg hc] at h1;have e:b=some (t ::c ::q):=h1 rfl;rw[e];exact ⟨1,.scope_no hc⟩
theorem Q9 (ts:List Af)(b:∀ t∈ts,BI t)(st:List Sy)(a:Option (List Af))(h1:(GT ts).2.1=false→a=some (GT ts).2.2)(h2:(GT ts).2.1=true→Ru (.t BJ ::st) (GT ts).2.2 a):Ru (.scopes ::st) ts a:=by
 rw[GT] at h1 h2;cases h:AM BJ ts
 ·rw[h,if_neg (by decide)] at h1 h2;exact .exp (m:= [.scope,.scopesMore]) (if_neg (D8 b (by decide) h)) (WK ts [] b st a h1 h2)
 ·rw[h,if_pos rfl] at h2;rw[To b (by decide),zG] at h;exact .exp (m:= [.t BJ]) (if_pos h) (h2 rfl)
theorem BA {nt:NT}{ts:List Af}{x:PR}(d:D nt ts x)(a:∀ t∈ts,BI t):∀ t∈x.rest,BI t:=by
 obtain ⟨c,hc,_⟩:=d.suf;intro t ht;exact a t (by rw[hc];exact zm _ ht)
theorem Ru.prim_t {s:List UInt8}{st:List Sy}{t:Af}{r:List Af}{a:Option (List Af)}(h:tk t=s)(he:An .primary s=some [.t s])(d:Ru st r a):Ru (.primary ::st) (t ::r) a:=
 .exp (m:= [.t s]) (by show An .primary (tk t)=_;rw[h];exact he) (.term h d)
theorem D.run {nt:NT}{ts:List Af}{x:PR}(d:D nt ts x):nt.fair→(∀ t∈ts,BI t)→∀ st i,x.aft st i→Ru (nt.sym ++st) ts i:=by
 induction d with
 |@beh_no s ts h=>
  intro hf g st i j;have e:i=some ts:=j;rw[e];exact .term_no (D8 g hf h)
 |@beh s t r x h d l=>
  intro hf g st i j;exact .term (AO (g t (by simp)) hf h) (l trivial (fun u n=>g u (by simp[n])) st i j)
 |@expr_no ts x h d l=>
  intro hf g st i j;exact .exp (m:= [.and_,.orMore]) (if_neg (D8 g (by decide) h)) (l (.inl rfl) g st i j)
 |@expr_if1 t r q h d l=>
  intro hf g st i j;have:=AO (g t (by simp)) (by decide) h;exact .exp (m:= [.t Et,.expr,.t BP,.expr,.t AJ,.expr]) (if_pos this) (l (show Et∈Cq by decide) g ([Sy.t BP,Sy.expr,Sy.t AJ,Sy.expr] ++st) i j)
 |@expr_if2 t r q p a h d d2 v A=>
  intro hf g st i j;have e1:=AO (g t (by simp)) (by decide) h;have z:=BA d g;have h2:Ru ([.t BP,.expr,.t AJ,.expr] ++st) q i:=A (show BP∈Cq by decide) z ([Sy.t AJ,Sy.expr] ++st) i j;exact .exp (m:= [.t Et,.expr,.t BP,.expr,.t AJ,.expr]) (if_pos e1) (v (show Et∈Cq by decide) g ([Sy.t BP,Sy.expr,Sy.t AJ,Sy.expr] ++st) i h2)
 |@expr_if3 t r q p o a b h d d2 d3 v A C=>
  intro hf g st i j;have e1:=AO (g t (by simp)) (by decide) h;have z:=BA d g;have h3:Ru ([.t AJ,.expr] ++st) p i:=C (show AJ∈Cq by decide) (BA d2 z) st i j;have h2:Ru ([.t BP,.expr,.t AJ,.expr] ++st) q i:=A (show BP∈Cq by decide) z ([Sy.t AJ,Sy.expr] ++st) i h3;exact .exp (m:= [.t Et,.expr,.t BP,.expr,.t AJ,.expr]) (if_pos e1) (v (show Et∈Cq by decide) g ([Sy.t BP,Sy.expr,Sy.t AJ,Sy.expr] ++st) i h2)
 |@expr_if t r q p o a b c h d d2 d3 v A C=>
  intro hf g st i j;have e1:=AO (g t (by simp)) (by decide) h;have z:=BA d g;have h3:Ru ([.t AJ,.expr] ++st) p i:=C (show AJ∈Cq by decide) (BA d2 z) st i j;have h2:Ru ([.t BP,.expr,.t AJ,.expr] ++st) q i:=A (show BP∈Cq by decide) z ([Sy.t AJ,Sy.expr] ++st) i h3;exact .exp (m:= [.t Et,.expr,.t BP,.expr,.t AJ,.expr]) (if_pos e1) (v (show Et∈Cq by decide) g ([Sy.t BP,Sy.expr,Sy.t AJ,Sy.expr] ++st) i h2)
 |@chain_bad k ts r d l=>
  intro hf g st i j;rcases hf with rfl | rfl | rfl | rfl
  ·exact l (.inl rfl) g (.orMore ::st) i j
  ·exact l (.inr (.inl rfl)) g (.andMore ::st) i j
  ·exact l (.inr (.inr (.inr (.inl rfl)))) g (.sumMore ::st) i j
  ·exact l (.inr (.inr (.inr (.inr rfl)))) g (.termMore ::st) i j
 |@chain k ts r e x d d2 v A=>
  intro hf g st i j;have h2:=A hf (BA d g) st i j;rcases hf with rfl | rfl | rfl | rfl
  ·exact v (.inl rfl) g (.orMore ::st) i h2
  ·exact v (.inr (.inl rfl)) g (.andMore ::st) i h2
  ·exact v (.inr (.inr (.inr (.inl rfl)))) g (.sumMore ::st) i h2
  ·exact v (.inr (.inr (.inr (.inr rfl)))) g (.termMore ::st) i h2
 |@more_no k e ts h=>
  intro hf g st i j;have w:=P8 g h;rcases hf with rfl | rfl | rfl | rfl
  ·exact .exp (m:= []) (if_neg (fun e=>w (by rw[e];decide))) j
  ·exact .exp (m:= []) (if_neg (fun e=>w (by rw[e];decide))) j
  ·exact .exp (m:= []) (if_neg w) j
  ·exact .exp (m:= []) (if_neg w) j
 |@more_bad k e t r q op h d l=>
  intro hf g st i j;have w:=IV (g t (by simp)) h;have y:∀ u∈r,BI u:=fun u n=>g u (by simp[n]);rcases hf with rfl | rfl | rfl | rfl
  ·have e1:tk t=kOr:=zL.1 w;exact .exp (m:= [.t kOr,.and_,.orMore]) (if_pos e1) (.term e1 (l (.inl rfl) y (.orMore ::st) i j))
  ·have e1:tk t=Tm:=zL.1 w;exact .exp (m:= [.t Tm,.not_,.andMore]) (if_pos e1) (.term e1 (l (.inr (.inl rfl)) y (.andMore ::st) i j))
  ·exact .exp (m:= [.t (tk t),.term,.sumMore]) (if_pos w) (.term rfl (l (.inr (.inr (.inr (.inl rfl)))) y (.sumMore ::st) i j))
  ·exact .exp (m:= [.t (tk t),.unary,.termMore]) (if_pos w) (.term rfl (l (.inr (.inr (.inr (.inr rfl)))) y (.termMore ::st) i j))
 |@more k e f t r q op x h d d2 v A=>
  intro hf g st i j;have w:=IV (g t (by simp)) h;have y:∀ u∈r,BI u:=fun u n=>g u (by simp[n]);have h2:=A hf (BA d y) st i j;rcases hf with rfl | rfl | rfl | rfl
  ·have e1:tk t=kOr:=zL.1 w;exact .exp (m:= [.t kOr,.and_,.orMore]) (if_pos e1) (.term e1 (v (.inl rfl) y (.orMore ::st) i h2))
  ·have e1:tk t=Tm:=zL.1 w;exact .exp (m:= [.t Tm,.not_,.andMore]) (if_pos e1) (.term e1 (v (.inr (.inl rfl)) y (.andMore ::st) i h2))
  ·exact .exp (m:= [.t (tk t),.term,.sumMore]) (if_pos w) (.term rfl (v (.inr (.inr (.inr (.inl rfl)))) y (.sumMore ::st) i h2))
  ·exact .exp (m:= [.t (tk t),.unary,.termMore]) (if_pos w) (.term rfl (v (.inr (.inr (.inr (.inr rfl)))) y (.termMore ::st) i h2))
 |opd1 d l=>intro hf g st i j;exact .exp (m:= [.not_,.andMore]) rfl (l (.inr (.inl rfl)) g st i j)
 |opd2 d l=>intro hf g st i j;exact l trivial g st i j
 |opd4 d l=>intro hf g st i j;exact .exp (m:= [.term,.sumMore]) rfl (l (.inr (.inr (.inl rfl))) g st i j)
 |opd5 d l=>intro hf g st i j;exact .exp (m:= [.unary,.termMore]) rfl (l (.inr (.inr (.inr rfl))) g st i j)
 |opd6 d l=>intro hf g st i j;exact l trivial g st i j
 |@neg_no ts x h d l=>
  intro hf g st i j;exact .exp (m:= [.sum,.compared]) (if_neg (D8 g (by decide) h)) (l trivial g st i j)
 |@neg_bad t r q h d l=>
  intro hf g st i j;have e1:=AO (g t (by simp)) (by decide) h;exact .exp (m:= [.t E3,.not_]) (if_pos e1) (.term e1 (l trivial (fun u n=>g u (by simp[n])) st i j))
 |@neg t r q e h d l=>
  intro hf g st i j;have e1:=AO (g t (by simp)) (by decide) h;exact .exp (m:= [.t E3,.not_]) (if_pos e1) (.term e1 (l trivial (fun u n=>g u (by simp[n])) st i j))
 |cmp_bad d l=>intro hf g st i j;exact l (.inr (.inr (.inl rfl))) g (.compared ::st) i j
 |cmp_one d h l=>
  intro hf g st i j;exact l (.inr (.inr (.inl rfl))) g (.compared ::st) i (.exp (m:= []) (if_neg (P8 (BA d g) h)) j)
 |@cmp_two_bad ts r q e t op d h d2 v A=>
  intro hf g st i j;have z:∀ u∈t ::r,BI u:=BA d g;have w:=IV (z t (by simp)) h;exact v (.inr (.inr (.inl rfl))) g (.compared ::st) i (.exp (m:= [.t (tk t),.sum]) (if_pos w) (.term rfl (A (.inr (.inr (.inl rfl))) (fun u n=>z u (by simp[n])) st i j)))
 |@cmp_two ts r q e f t op d h d2 v A=>
  intro hf g st i j;have z:∀ u∈t ::r,BI u:=BA d g;have w:=IV (z t (by simp)) h;exact v (.inr (.inr (.inl rfl))) g (.compared ::st) i (.exp (m:= [.t (tk t),.sum]) (if_pos w) (.term rfl (A (.inr (.inr (.inl rfl))) (fun u n=>z u (by simp[n])) st i j)))
 |@una_no ts x h d l=>
  intro hf g st i j;exact .exp (m:= [.primary]) (if_neg (D8 g (by decide) h)) (l trivial g st i j)
 |@una_bad t r q h d l=>
  intro hf g st i j;have e1:=AO (g t (by simp)) (by decide) h;exact .exp (m:= [.t Bi,.unary]) (if_pos e1) (.term e1 (l trivial (fun u n=>g u (by simp[n])) st i j))
 |@una t r q e h d l=>
  intro hf g st i j;have e1:=AO (g t (by simp)) (by decide) h;exact .exp (m:= [.t Bi,.unary]) (if_pos e1) (.term e1 (l trivial (fun u n=>g u (by simp[n])) st i j))
 |@num t r h=>intro hf g st i j;exact .prim_t (s:=Pn) (by rw[tk,if_pos h]) rfl j
 |@text t r h=>intro hf g st i j;exact .prim_t (s:=FI) (by rw[tk,h];rfl) rfl j
 |@name t r h=>intro hf g st i j;exact .prim_t (s:=ER) (by rw[tk,h];rfl) rfl j
 |@tru t r h=>intro hf g st i j;exact .prim_t (AO (g t (by simp)) (by decide) h) rfl j
 |@fls t r h=>intro hf g st i j;exact .prim_t (AO (g t (by simp)) (by decide) h) rfl j
 |@size_bad t r q h d l=>
  intro hf g st i j;have e1:=AO (g t (by simp)) (by decide) h;exact .exp (m:= [.t Cf,.t AF,.expr,.t AS]) (by show An .primary (tk t)=_;rw[e1];rfl) (.term e1 (l trivial (fun u n=>g u (by simp[n])) st i j))
 |@size t r q e h d l=>
  intro hf g st i j;have e1:=AO (g t (by simp)) (by decide) h;exact .exp (m:= [.t Cf,.t AF,.expr,.t AS]) (by show An .primary (tk t)=_;rw[e1];rfl) (.term e1 (l trivial (fun u n=>g u (by simp[n])) st i j))
 |@par t r x h d l=>
  intro hf g st i j;have e1:=AO (g t (by simp)) (by decide) h;exact .exp (m:= [.t AF,.expr,.t AS]) (by show An .primary (tk t)=_;rw[e1];rfl) (l trivial g st i j)
 |@set_bad t r q F h hs=>
  intro hf g st i j;have e1:=AO (g t (by simp)) (by decide) h;have e:i=some q:=j;exact .exp (m:= [.t Cp,.scopes]) (by show An .primary (tk t)=_;rw[e1];rfl) (.term e1 (Q9 r (fun u n=>g u (by simp[n])) st i (fun _=>by rw[hs];exact e) (fun h=>by rw[hs] at h;cases h)))
 |@set_end t r q F h hs hq=>
  intro hf g st i j;have e1:=AO (g t (by simp)) (by decide) h;have e:i=some q:=j;have y:∀ u∈r,BI u:=fun u n=>g u (by simp[n]);have I:∀ u∈q,BI u:=fun u n=>by
   obtain ⟨c,hc⟩:=J6 r;rw[hs] at hc;exact y u (by rw[hc];exact zm _ n)
  exact .exp (m:= [.t Cp,.scopes]) (by show An .primary (tk t)=_;rw[e1];rfl) (.term e1 (Q9 r y st i (fun h=>by rw[hs] at h;cases h) (fun _=>by rw[hs,e];exact .term_no (D8 I (by decide) hq))))
 |@set t u r q F h hs hq=>
  intro hf g st i j;have e1:=AO (g t (by simp)) (by decide) h;have y:∀ u∈r,BI u:=fun u n=>g u (by simp[n]);have J:BI u:=by
   obtain ⟨c,hc⟩:=J6 r;rw[hs] at hc;exact y u (by rw[hc];simp)
  exact .exp (m:= [.t Cp,.scopes]) (by show An .primary (tk t)=_;rw[e1];rfl) (.term e1 (Q9 r y st i (fun h=>by rw[hs] at h;cases h) (fun _=>by rw[hs];exact .term (AO J (by decide) hq) j)))
 |prim_nil=>
  intro hf g st i j;have e:i=some []:=j;rw[e];exact .exp (m:= [.t Pn]) rfl (.term_no (by decide))
 |@prim_no t r h1 h2 h3 h4 h5 h6 h7 h8=>
  intro hf g st i j;have e:i=some (t ::r):=j;rw[e];have B:=g t (by simp);have P:t.kind=4∨t.kind=5:=by rcases B with h | h | h | h <;> first | contradiction | exact h.1
  have H:tk t=Ap t.text∧Ap t.text∈Cq:=by
   rcases B with h | h | h | h
   ·contradiction
   ·contradiction
   ·contradiction
   ·exact ⟨by rw[tk,if_neg h1,if_neg h2,if_neg h3],h.2⟩
  have E:∀ s,s ∉ Cq→tk t≠s:=fun s hs e=>hs (by rw[← e,H.1];exact H.2);have K:=P9 B (by decide) h4;have L:=P9 B (by decide) h5;have M:=P9 B (by decide) h6;have N:=P9 B (by decide) h7;have O:=P9 B (by decide) h8;refine .exp (m:= [.t Pn]) ?_ (.term_no (show tk t≠_ from E _ (by decide)));show An .primary (tk t)=_;rw[An,if_neg N,if_neg M,if_neg O,if_neg (by
   rintro (h | h | h | h)
   ·exact E _ (by decide) h
   ·exact E _ (by decide) h
   ·exact K h
   ·exact L h)]
 |encl_bad d l=>intro hf g st i j;exact l (show AF∈Cq by decide) g (.t AS ::st) i j
 |encl_end d h l=>
  intro hf g st i j;refine l (show AF∈Cq by decide) g (.t AS ::st) i ?_;have e:i=_:=j;rw[e];exact .term_no (D8 (BA d g) (by decide) h)
 |@encl ts r e t d h l=>
  intro hf g st i j;have z:∀ u∈t ::r,BI u:=BA d g;exact l (show AF∈Cq by decide) g (.t AS ::st) i (.term (AO (z t (by simp)) (by decide) h) j)
def scT (t:Af):Prop:=t.kind=2∨see EC t=true
def nms:List Af→List ByteArray
 | []=> []
 |t ::r=>if t.kind=2 then t.text ::nms r else nms r
theorem WL:∀ (ts:List Af) (a b:List ByteArray) (q:List Af),JB ts a=(b,true,q)→∃ c,ts=c ++q∧(∀ x∈c,scT x)∧b=a ++nms c
 | [],a,b,q,h=>by simp[JB] at h
 | [t],a,b,q,h=>by
  rw[JB] at h;by_cases hc:GS t
  ·rw[if_pos hc] at h;simp only[Prod.mk.injEq,true_and] at h;exact ⟨[t],by rw[← h.2];rfl,fun x hx=>by rw[zL.1 hx];exact .inl hc.1,by rw[← h.1,nms,if_pos hc.1];rfl⟩
  ·rw[if_neg hc] at h;simp at h
 |t ::d ::r,a,b,q,h=>by
  rw[JB] at h;by_cases hc:GS t
  ·rw[if_pos hc] at h;cases hk:see EC d
   ·rw[hk,if_neg (by decide)] at h;simp only[Prod.mk.injEq,true_and] at h;exact ⟨[t],by rw[← h.2];rfl,fun x hx=>by rw[zL.1 hx];exact .inl hc.1,by rw[← h.1,nms,if_pos hc.1];rfl⟩
   ·rw[hk,if_pos rfl] at h;obtain ⟨c,h1,h2,h3⟩:=WL r _ b q h;have f:d.kind≠2:=by rcases Im hk with e | e <;> omega
    refine ⟨t ::d ::c,by rw[h1];rfl,fun x hx=>?_,by rw[h3,nms,if_pos hc.1,nms,if_neg f,zC];rfl⟩;rcases zE.1 hx with rfl | hx
    ·exact .inl hc.1
    ·rcases zE.1 hx with rfl | hx
     ·exact .inr hk
     ·exact h2 x hx
  ·rw[if_neg hc] at h;simp at h
theorem AbR {ts q:List Af}{a:List ByteArray}(h:GT ts=(a,true,q)):∃ c,ts=c ++q∧(∀ x∈c,scT x)∧a=nms c:=by
 rw[GT] at h;split at h
 ·simp only[Prod.mk.injEq,true_and] at h;exact ⟨[],by rw[← h.2];rfl,(fun x hx=>by cases hx),by rw[← h.1];rfl⟩
 ·obtain ⟨c,h1,h2,h3⟩:=WL ts [] a q h;exact ⟨c,h1,h2,by simpa using h3⟩
inductive G:Nat→List Af→Pt→Prop
 |up {k:Nat} {c:List Af} {p:Pt} (hk:k < 8) (g:G (k+1) c p):G k c p
 |ite {t u v:Af} {a b d:List Af} {pa pb pd:Pt} (ht:see Et t=true) (hu:see BP u=true) (hv:see AJ v=true) (ga:G 0 a pa) (gb:G 0 b pb) (gd:G 0 d pd):G 0 (t ::(a ++u ::(b ++v ::d))) (.ite t.at_ pa pb pd)
 |bin {k:Nat} {l r:List Af} {t:Af} {op:Int} {pl pr:Pt} (hk:k=1∨k=2∨k=5∨k=6) (gl:G k l pl) (ht:CZ k t=some op) (gr:G (k+1) r pr):G k (l ++t ::r) (.bin t.at_ op pl pr)
 |cmp {l r:List Af} {t:Af} {op:Int} {pl pr:Pt} (gl:G 5 l pl) (ht:CZ 4 t=some op) (gr:G 5 r pr):G 4 (l ++t ::r) (.bin t.at_ op pl pr)
 |not {t:Af} {r:List Af} {p:Pt} (ht:see E3 t=true) (g:G 3 r p):G 3 (t ::r) (.un t.at_ 9 p)
 |neg {t:Af} {r:List Af} {p:Pt} (ht:see Bi t=true) (g:G 7 r p):G 7 (t ::r) (.un t.at_ 8 p)
 |par {t u:Af} {r:List Af} {p:Pt} (ht:see AF t=true) (g:G 0 r p) (hu:see AS u=true):G 8 (t ::(r ++ [u])) p
 |size {t u v:Af} {r:List Af} {p:Pt} (ht:see Cf t=true) (hu:see AF u=true) (g:G 0 r p) (hv:see AS v=true):G 8 (t ::u ::(r ++ [v])) (.un t.at_ 10 p)
 |set {t u:Af} {c:List Af} (ht:see Cp t=true) (hc:∀ x∈c,scT x) (hu:see BJ u=true):G 8 (t ::(c ++ [u])) (.set t.at_ (nms c))
 |num {t:Af} (h:t.kind=1):G 8 [t] (.int t.at_ t.num)
 |text {t:Af} (h:t.kind=2):G 8 [t] (.text t.at_ t.text)
 |name {t:Af} (h:t.kind=3):G 8 [t] (.name t.at_ t.text)
 |tru {t:Af} (h:see Ch t=true):G 8 [t] (.bool t.at_ true)
 |fls {t:Af} (h:see Bm t=true):G 8 [t] (.bool t.at_ false)
theorem G.lift {c:List Af}{p:Pt} :∀ (n k:Nat),k+n≤8→G (k+n) c p→G k c p
 | 0,k,_,h=>h
 |n+1,k,hk,h=> .up (by omega) (G.lift n (k+1) (by omega) (by rw[Nat.add_right_comm];exact h))
theorem G.le8 {k:Nat}{c:List Af}{p:Pt}(h:G k c p):k≤8:=by
 cases h <;> omega
theorem G.low {k j:Nat}{c:List Af}{p:Pt}(h:G k c p)(a:j≤k):G j c p:=by
 have h8:=h.le8;obtain ⟨n,rfl⟩:∃ n,k=j+n:=⟨k - j,by omega⟩
 exact G.lift n j h8 h
def Tr:NT→List Af→Pt→List Af→Prop
 | .more k e0,ts,e,q=>∀ c0,G k c0 e0→∃ c,ts=c ++q∧G k (c0 ++c) e
 | .beh s,ts,e,q=>∃ t c,ts=t ::(c ++q)∧see s t=true∧G 0 c e
 | .encl,ts,e,q=>∃ t c u,ts=t ::(c ++u ::q)∧see AF t=true∧see AS u=true∧G 0 c e
 | .chain k,ts,e,q=>∃ c,ts=c ++q∧G k c e
 | .opd k,ts,e,q=>∃ c,ts=c ++q∧G (k+1) c e
 | .expr,ts,e,q=>∃ c,ts=c ++q∧G 0 c e
 | .neg,ts,e,q=>∃ c,ts=c ++q∧G 3 c e
 | .cmp,ts,e,q=>∃ c,ts=c ++q∧G 4 c e
 | .una,ts,e,q=>∃ c,ts=c ++q∧G 7 c e
 | .prim,ts,e,q=>∃ c,ts=c ++q∧G 8 c e
theorem D.tree {nt:NT}{ts:List Af}{x:PR}(d:D nt ts x):nt.good→∀ e q,x= .ok e q→Tr nt ts e q:=by
 induction d with
 |beh_no | expr_if1 | expr_if2 | expr_if3 | chain_bad | more_bad | neg_bad | cmp_bad | cmp_two_bad | una_bad | size_bad | set_bad | set_end | prim_nil | prim_no | encl_bad | encl_end=>intro _ e q h;cases h
 |@beh s t r x h d i=>
  intro _ e q hx;obtain ⟨c,hc,g⟩:=i trivial e q hx;exact ⟨t,c,by rw[hc],h,g⟩
 |expr_no h d i=>
  intro _ e q hx;obtain ⟨c,hc,g⟩:=i (.inl rfl) e q hx;exact ⟨c,hc,g.low (by omega)⟩
 |@expr_if t r q p o a b c h d1 d2 d3 j l B=>
  intro _ e q hx;cases hx;obtain ⟨v,c1,h1,m,g1⟩:=j trivial _ _ rfl;obtain ⟨C,c2,h2,y,g2⟩:=l trivial _ _ rfl;obtain ⟨E,c3,h3,F,g3⟩:=B trivial _ _ rfl;injection h1 with h0 h1;subst h0;exact ⟨t ::(c1 ++C ::(c2 ++E ::c3)),by rw[h1,h2,h3];simp,.ite m y F g1 g2 g3⟩
 |chain d1 d2 j l=>
  intro n e q hx;obtain ⟨c,hc,g⟩:=j (by simp only[NT.good] at n ⊢;omega) _ _ rfl;have J:=g.le8;obtain ⟨z,A,w⟩:=l n e q hx c (g.low (by omega));exact ⟨c ++z,by rw[zC,← A];exact hc,w⟩
 |@more_no k H ts h=>
  intro n e q hx;cases hx;exact fun c0 g=>⟨[],rfl,by rw[zr];exact g⟩
 |@more k H f t r q op x h d1 d2 j l=>
  intro n e I hx c0 g0;obtain ⟨c,hc,g⟩:=j (by simp only[NT.good] at n ⊢;omega) _ _ rfl;obtain ⟨z,A,w⟩:=l n e I hx (c0 ++t ::c) (.bin n g0 h g);exact ⟨t ::(c ++z),by rw[List.cons_append,zC,← A,← hc],by rw[zC] at w;exact w⟩
 |opd1 d i=>intro _ e q hx;exact i (.inr (.inl rfl)) e q hx
 |opd2 d i=>intro _ e q hx;exact i trivial e q hx
 |opd4 d i=>intro _ e q hx;exact i (.inr (.inr (.inl rfl))) e q hx
 |opd5 d i=>intro _ e q hx;exact i (.inr (.inr (.inr rfl))) e q hx
 |opd6 d i=>intro _ e q hx;exact i trivial e q hx
 |neg_no h d i=>intro _ e q hx;obtain ⟨c,hc,g⟩:=i trivial e q hx;exact ⟨c,hc,g.low (by omega)⟩
 |@neg t r q e h d i=>intro _ e q hx;cases hx;obtain ⟨c,hc,g⟩:=i trivial _ _ rfl;exact ⟨t ::c,by rw[hc];rfl,.not h g⟩
 |cmp_one d h i=>intro _ e q hx;cases hx;obtain ⟨c,hc,g⟩:=i (.inr (.inr (.inl rfl))) _ _ rfl;exact ⟨c,hc,g.low (by omega)⟩
 |@cmp_two ts r q e f t op d h d2 j l=>
  intro _ e q hx;cases hx;obtain ⟨c,hc,g⟩:=j (.inr (.inr (.inl rfl))) _ _ rfl;obtain ⟨z,A,w⟩:=l (.inr (.inr (.inl rfl))) _ _ rfl;exact ⟨c ++t ::z,by rw[zC,List.cons_append,← A];exact hc,.cmp g h w⟩
 |una_no h d i=>intro _ e q hx;obtain ⟨c,hc,g⟩:=i trivial e q hx;exact ⟨c,hc,g.low (by omega)⟩
 |@una t r q e h d i=>intro _ e q hx;cases hx;obtain ⟨c,hc,g⟩:=i trivial _ _ rfl;exact ⟨t ::c,by rw[hc];rfl,.neg h g⟩
 |@num t r h=>intro _ e q hx;cases hx;exact ⟨[t],rfl,.num h⟩
 |@text t r h=>intro _ e q hx;cases hx;exact ⟨[t],rfl,.text h⟩
 |@name t r h=>intro _ e q hx;cases hx;exact ⟨[t],rfl,.name h⟩
 |@tru t r h=>intro _ e q hx;cases hx;exact ⟨[t],rfl,.tru h⟩
 |@fls t r h=>intro _ e q hx;cases hx;exact ⟨[t],rfl,.fls h⟩
 |@size t r q e h d i=>
  intro _ e q hx;cases hx;obtain ⟨v,c,u,hc,m,y,g⟩:=i trivial _ _ rfl;exact ⟨t ::v ::(c ++ [u]),by rw[hc];simp,.size h m g y⟩
 |@par t r x h d i=>
  intro _ e q hx;obtain ⟨v,c,u,hc,m,y,g⟩:=i trivial e q hx;exact ⟨v ::(c ++ [u]),by rw[hc];simp,.par m g y⟩
 |@set t u r q K h hs hq=>
  intro _ e q hx;cases hx;obtain ⟨c,hc,h1,h2⟩:=AbR hs;exact ⟨t ::(c ++ [u]),by rw[hc];simp,by rw[h2];exact .set h h1 hq⟩
 |@encl ts r e t d h i=>
  intro _ e q hx;cases hx;obtain ⟨v,c,hc,m,g⟩:=i trivial _ _ rfl;exact ⟨v,c,t,hc,m,h,g⟩
def Fc (t:Af):Bool:=(!decide (t.kind=4) && !decide (t.kind=5)) || see AS t || see BJ t || see Ch t || see Bm t
def Ra (t:Af):Bool:=see AF t || see Cp t
def Tp (t:Af):Bool:=see AS t || see BJ t
structure LS where
 pe:Bool
 d:Int
 i:Int
 acc:Int
def dL (d:Int) (t:Af):Int:=if Tp t then (if Ra t then d+1 else d) - 1 else if Ra t then d+1 else d
def CV (of:List (List UInt8)) (s:LS) (t:Af):LS:=
 ⟨Fc t,dL s.d t,s.i+1,if dL s.d t > 0∨s.pe=false then s.acc else if of.any (fun x=>see x t) then s.i else s.acc⟩
theorem ZO {of:List (List UInt8)}{t:Af}{s:List UInt8}(h:see s t=true)(a:s ∉ of):of.any (fun x=>see x t)=false:=by
 rw[List.any_eq_false];intro x hx hs;have:=Ah h (s':=x) (fun e=>a (by rw[e];exact hx));rw[this] at hs;cases hs
theorem CP {s:List UInt8}{t:Af}(h:see s t=true)(hs:s ∉ [AF,Cp,AS,BJ])(d:Int):dL d t=d:=by
 have e1:=Ah h (s':=AF) (fun e=>hs (by rw[e];decide));have e2:=Ah h (s':=Cp) (fun e=>hs (by rw[e];decide));have e3:=Ah h (s':=AS) (fun e=>hs (by rw[e];decide));have e4:=Ah h (s':=BJ) (fun e=>hs (by rw[e];decide));simp[dL,Ra,Tp,e1,e2,e3,e4]
theorem NL {s:List UInt8}{t:Af}(h:see s t=true)(hs:s ∉ [AS,BJ,Ch,Bm]):Fc t=false:=by
 have e1:=Ah h (s':=AS) (fun e=>hs (by rw[e];decide));have e2:=Ah h (s':=BJ) (fun e=>hs (by rw[e];decide));have e3:=Ah h (s':=Ch) (fun e=>hs (by rw[e];decide));have e4:=Ah h (s':=Bm) (fun e=>hs (by rw[e];decide));have hk:=Im h;rw[Fc,e1,e2,e3,e4];rcases hk with hk | hk <;> simp[hk]
theorem AG {s:List UInt8}{t:Af}(h4:t.kind≠4)(h5:t.kind≠5):see s t=false:=by
 simp[see,h4,h5]
theorem Rb {t:Af}(h4:t.kind≠4)(h5:t.kind≠5)(d:Int):dL d t=d:=by
 simp[dL,Ra,Tp,AG h4 h5]
theorem Tq {t:Af}(h4:t.kind≠4)(h5:t.kind≠5):Fc t=true:=by
 simp[Fc,h4,h5]
theorem NM {k:Nat}{s:List UInt8}{op:Int}(h:(s,op)∈CE k):s ∉ [AF,Cp,AS,BJ,Ch,Bm,Et,BP,AJ,E3,AC,By]:=by
 match k,h with
 | 0,h | 3,h=>cases h
 | 1,h=>revert h;simp only[CE,zE,zo,Prod.mk.injEq,or_false];rintro ⟨rfl,rfl⟩;decide
 | 2,h=>revert h;simp only[CE,zE,zo,Prod.mk.injEq,or_false];rintro ⟨rfl,rfl⟩;decide
 | 4,h=>revert h;simp only[CE,zE,zo,Prod.mk.injEq,or_false];rintro (⟨rfl,rfl⟩ | ⟨rfl,rfl⟩ | ⟨rfl,rfl⟩ | ⟨rfl,rfl⟩ | ⟨rfl,rfl⟩ | ⟨rfl,rfl⟩) <;> decide
 | 5,h=>revert h;simp only[CE,zE,zo,Prod.mk.injEq,or_false];rintro (⟨rfl,rfl⟩ | ⟨rfl,rfl⟩ | ⟨rfl,rfl⟩ | ⟨rfl,rfl⟩) <;> decide
 | 6,h=>revert h;simp only[CE,zE,zo,Prod.mk.injEq,or_false];rintro (⟨rfl,rfl⟩ | ⟨rfl,rfl⟩ | ⟨rfl,rfl⟩ | ⟨rfl,rfl⟩) <;> decide
 |k+7,h=>cases h
theorem Em {k:Nat}{t:Af}{op:Int}(h:CZ k t=some op):(∀ d,dL d t=d)∧Fc t=false∧(∀ s∈ [AF,Cp,AS,BJ,Ch,Bm,Et,BP,AJ,E3,AC,By],see s t=false):=by
 obtain ⟨s,h1,h2⟩:=FH h;have a:=NM h1;refine ⟨fun d=>CP h2 (fun e=>a ?_) d,NL h2 (fun e=>a ?_),fun x hx=>Ah h2 (fun e=>a (by rw[e];exact hx))⟩
 ·simp only[zE,zo,or_false] at e ⊢;grind
 ·simp only[zE,zo,or_false] at e ⊢;grind
theorem Rd (of:List (List UInt8)):∀ (c:List Af),(∀ x∈c,scT x)→∀ (s:LS),0 < s.d→∃ pe,c.foldl (CV of) s=⟨pe,s.d,s.i+c.length,s.acc⟩
 | [],_,s,_=>⟨s.pe,by simp⟩
 |t ::c,h,s,hd=>by
  have a:dL s.d t=s.d:=by
   rcases h t (zT ..) with e | e
   ·exact Rb (by omega) (by omega) _
   ·exact CP e (by decide) _
  have e1:CV of s t=⟨Fc t,s.d,s.i+1,s.acc⟩:=by rw[CV,a,if_pos (.inl hd)]
  obtain ⟨pe,he⟩:=Rd of c (fun x hx=>h x (zY _ hx)) ⟨Fc t,s.d,s.i+1,s.acc⟩ hd;refine ⟨pe, ?_⟩;rw[List.foldl_cons,e1,he];simp only[List.length_cons,LS.mk.injEq,true_and,and_true];omega
theorem Gb {t:Af}(h:see AF t=true∨see Cp t=true)(d:Int):dL d t=d+1:=by
 rcases h with h | h
 ·simp[dL,Ra,Tp,h,Ah h (s':=AS) (by decide),Ah h (s':=BJ) (by decide)]
 ·simp[dL,Ra,Tp,h,Ah h (s':=AS) (by decide),Ah h (s':=BJ) (by decide)]
theorem ES {t:Af}(h:see AS t=true∨see BJ t=true)(d:Int):dL d t=d - 1:=by
 rcases h with h | h
 ·simp[dL,Ra,Tp,h,Ah h (s':=AF) (by decide),Ah h (s':=Cp) (by decide)]
 ·simp[dL,Ra,Tp,h,Ah h (s':=AF) (by decide),Ah h (s':=Cp) (by decide)]
theorem Fm {t:Af}(h:see AS t=true∨see BJ t=true):Fc t=true:=by
 rcases h with h | h <;> simp[Fc,h]
theorem J9 {t:Af}(h:see Ch t=true∨see Bm t=true):Fc t=true:=by
 rcases h with h | h <;> simp[Fc,h]
theorem AV (of:List (List UInt8)){s:LS}{t:Af}(h: 0 < dL s.d t):CV of s t=⟨Fc t,dL s.d t,s.i+1,s.acc⟩:=by
 rw[CV,if_pos (.inl h)]
theorem CJ (of:List (List UInt8)){s:LS}{t:Af}(h:s.pe=false):CV of s t=⟨Fc t,dL s.d t,s.i+1,s.acc⟩:=by
 rw[CV,if_pos (.inr h)]
theorem NO (of:List (List UInt8)){s:LS}{t:Af}{x:List UInt8}(h:see x t=true)(hx:x ∉ of):CV of s t=⟨Fc t,dL s.d t,s.i+1,s.acc⟩:=by
 rw[CV,ZO h hx];simp
theorem G.deep (of:List (List UInt8)){k:Nat}{c:List Af}{p:Pt}(g:G k c p):∀ (s:LS),0 < s.d→c.foldl (CV of) s=⟨true,s.d,s.i+c.length,s.acc⟩:=by
 induction g with
 |up hk g f=>exact f
 |@ite t u v a b d C E F ht j n H I J w x id=>
  intro s hs;have e1:=CP ht (by decide) s.d;have e2:=CP j (by decide) s.d;have e3:=CP n (by decide) s.d;rw[List.foldl_cons,AV of (by rw[e1];exact hs),zt,w _ (by show 0 < dL s.d t;rw[e1];exact hs),List.foldl_cons,AV of (by show 0 < dL (dL s.d t) u;rw[e1,e2];exact hs),zt,x _ (by show 0 < dL (dL s.d t) u;rw[e1,e2];exact hs),List.foldl_cons,AV of (by show 0 < dL (dL (dL s.d t) u) v;rw[e1,e2,e3];exact hs),id _ (by show 0 < dL (dL (dL s.d t) u) v;rw[e1,e2,e3];exact hs)];simp only[e1,e2,e3,LS.mk.injEq,true_and,and_true,List.length_cons,zA];omega
 |@bin k l r t op y z hk A ht B o q=>
  intro s hs;have e1:=(Em ht).1;rw[zt,o s hs,List.foldl_cons,AV of (by rw[e1];exact hs),q _ (by show 0 < dL _ t;rw[e1];exact hs)];simp only[e1,LS.mk.injEq,true_and,and_true,List.length_cons,zA];omega
 |@cmp l r t op y z A ht B o q=>
  intro s hs;have e1:=(Em ht).1;rw[zt,o s hs,List.foldl_cons,AV of (by rw[e1];exact hs),q _ (by show 0 < dL _ t;rw[e1];exact hs)];simp only[e1,LS.mk.injEq,true_and,and_true,List.length_cons,zA];omega
 |@not t r p ht g f=>
  intro s hs;have e1:=CP ht (by decide) s.d;rw[List.foldl_cons,AV of (by rw[e1];exact hs),f _ (by show 0 < dL _ t;rw[e1];exact hs)];simp only[e1,LS.mk.injEq,true_and,and_true,List.length_cons];omega
 |@neg t r p ht g f=>
  intro s hs;have e1:=CP ht (by decide) s.d;rw[List.foldl_cons,AV of (by rw[e1];exact hs),f _ (by show 0 < dL _ t;rw[e1];exact hs)];simp only[e1,LS.mk.injEq,true_and,and_true,List.length_cons];omega
 |@par t u r p ht g j f=>
  intro s hs;have e1:=Gb (.inl ht) s.d;have e2:=ES (.inl j) (s.d+1);rw[List.foldl_cons,AV of (by rw[e1];omega),zt,f _ (by show 0 < dL _ t;rw[e1];omega),List.foldl_cons,z9,AV of (by show 0 < dL (dL _ t) u;rw[e1,e2];omega)];simp only[e1,e2,LS.mk.injEq,List.length_cons,zA,List.length_nil];exact ⟨Fm (.inl j),by omega,by omega,trivial⟩
 |@size t u v r p ht j g n f=>
  intro s hs;have m:=CP ht (by decide) s.d;have e1:=Gb (.inl j) s.d;have e2:=ES (.inl n) (s.d+1);rw[List.foldl_cons,AV of (by rw[m];omega),List.foldl_cons,AV of (by show 0 < dL (dL _ t) u;rw[m,e1];omega),zt,f _ (by show 0 < dL (dL _ t) u;rw[m,e1];omega),List.foldl_cons,z9,AV of (by show 0 < dL (dL (dL _ t) u) v;rw[m,e1,e2];omega)];simp only[m,e1,e2,LS.mk.injEq,List.length_cons,zA,List.length_nil];exact ⟨Fm (.inl n),by omega,by omega,trivial⟩
 |@set t u c ht hc j=>
  intro s hs;have e1:=Gb (.inr ht) s.d;have e2:=ES (.inr j) (s.d+1);obtain ⟨pe,he⟩:=Rd of c hc ⟨Fc t,s.d+1,s.i+1,s.acc⟩ (by show 0 < s.d+1;omega);rw[List.foldl_cons,AV of (by rw[e1];omega),e1,zt,he,List.foldl_cons,z9,AV of (by show 0 < dL (s.d+1) u;rw[e2];omega)];simp only[e2,LS.mk.injEq,List.length_cons,zA,List.length_nil];exact ⟨Fm (.inr j),by omega,by omega,trivial⟩
 |@num t h | @text t h | @name t h=>
  intro s hs;have e1:=Rb (t:=t) (by omega) (by omega) s.d;rw[List.foldl_cons,z9,AV of (by rw[e1];exact hs),e1,Tq (by omega) (by omega)];rfl
 |@tru t h=>
  intro s hs;have e1:=CP h (by decide) s.d;rw[List.foldl_cons,z9,AV of (by rw[e1];exact hs),e1,J9 (.inl h)];rfl
 |@fls t h=>
  intro s hs;have e1:=CP h (by decide) s.d;rw[List.foldl_cons,z9,AV of (by rw[e1];exact hs),e1,J9 (.inr h)];rfl
theorem Qa {k m:Nat}{t:Af}{op:Int}(h:CZ k t=some op)(hk:m < k):(AY m).any (fun x=>see x t)=false:=by
 obtain ⟨s,h1,h2⟩:=FH h;refine ZO h2 (fun c=>?_);have hs:s∈AY k:=zQ.2 ⟨_,h1,rfl⟩;have d:∀ (a b:List (List UInt8)),(∀ x∈a,x ∉ b)→s∈a→s∈b→False:=fun a b h f g=>h s f g
 match k,m,hk with
 | 2,1,_=>exact d (AY 2) (AY 1) (by decide) hs c
 | 4,1,_=>exact d (AY 4) (AY 1) (by decide) hs c
 | 4,2,_=>exact d (AY 4) (AY 2) (by decide) hs c
 | 5,1,_=>exact d (AY 5) (AY 1) (by decide) hs c
 | 5,2,_=>exact d (AY 5) (AY 2) (by decide) hs c
 | 5,4,_=>exact d (AY 5) (AY 4) (by decide) hs c
 | 6,1,_=>exact d (AY 6) (AY 1) (by decide) hs c
 | 6,2,_=>exact d (AY 6) (AY 2) (by decide) hs c
 | 6,4,_=>exact d (AY 6) (AY 4) (by decide) hs c
 | 6,5,_=>exact d (AY 6) (AY 5) (by decide) hs c
 |_,0,_=>cases c
 |_,3,_=>cases c
 | 1,m+1,h=>omega
 | 3,_,_=>cases hs
 |k+7,_,_=>cases hs
theorem ZP {k:Nat}{t:Af}{op:Int}(h:CZ k t=some op):(AY k).any (fun x=>see x t)=true:=by
 obtain ⟨s,h1,h2⟩:=FH h;exact List.any_eq_true.2 ⟨s,zQ.2 ⟨_,h1,rfl⟩,h2⟩
theorem Le {k:Nat}{s:List UInt8}(h:s∈AY k):s ∉ [AF,Cp,AS,BJ,Ch,Bm,Et,BP,AJ,E3,AC,By]:=by
 obtain ⟨⟨x,op⟩,h1,h2⟩:=zQ.1 h;rw[← h2];exact NM h1
theorem G.flat (m:Nat){k:Nat}{c:List Af}{p:Pt}(g:G k c p): 1≤k→∀ (s:LS),s.d=0→s.pe=false→∃ acc,c.foldl (CV (AY m)) s=⟨true,0,s.i+c.length,acc⟩∧(m < k→acc=s.acc):=by
 induction g with
 |up hk g f=>
  intro h1 s hs hp;obtain ⟨acc,e,a⟩:=f (by omega) s hs hp;exact ⟨acc,e,fun h=>a (by omega)⟩
 |ite=>intro h1;omega
 |@bin k l r t op z A hk B ht C j n=>
  intro h1 s hs hp;obtain ⟨e1,e2,e3⟩:=Em ht;obtain ⟨acc,e,a⟩:=j h1 s hs hp;have o:CV (AY m) ⟨true,0,s.i+l.length,acc⟩ t=⟨false,0,s.i+l.length+1,if (AY m).any (fun x=>see x t) then s.i+l.length else acc⟩:=by
   rw[CV,e1,e2,if_neg (by rintro (h | h);exact absurd h (Int.lt_irrefl 0);cases h)]
  obtain ⟨q,e',w⟩:=n (by omega) ⟨false,0,s.i+l.length+1,if (AY m).any (fun x=>see x t) then s.i+l.length else acc⟩ rfl rfl;refine ⟨q, ?_,fun h=>?_⟩
  ·rw[zt,e,List.foldl_cons,o,e'];simp only[LS.mk.injEq,true_and,and_true,List.length_cons,zA];omega
  ·have:=w (by omega);rw[Qa ht h,if_neg (by decide),a h] at this;exact this
 |@cmp l r t op z A B ht C j n=>
  intro h1 s hs hp;obtain ⟨e1,e2,e3⟩:=Em ht;obtain ⟨acc,e,a⟩:=j (by omega) s hs hp;have o:CV (AY m) ⟨true,0,s.i+l.length,acc⟩ t=⟨false,0,s.i+l.length+1,if (AY m).any (fun x=>see x t) then s.i+l.length else acc⟩:=by
   rw[CV,e1,e2,if_neg (by rintro (h | h);exact absurd h (Int.lt_irrefl 0);cases h)]
  obtain ⟨q,e',w⟩:=n (by omega) ⟨false,0,s.i+l.length+1,if (AY m).any (fun x=>see x t) then s.i+l.length else acc⟩ rfl rfl;refine ⟨q, ?_,fun h=>?_⟩
  ·rw[zt,e,List.foldl_cons,o,e'];simp only[LS.mk.injEq,true_and,and_true,List.length_cons,zA];omega
  ·have:=w (by omega);rw[Qa ht h,if_neg (by decide),a (by omega)] at this;exact this
 |@not t r p ht g f=>
  intro h1 s hs hp;have e1:=CP ht (by decide) s.d;have e2:=NL ht (by decide);obtain ⟨acc,e,a⟩:=f h1 ⟨false,0,s.i+1,s.acc⟩ rfl rfl;refine ⟨acc, ?_,a⟩;rw[List.foldl_cons,CJ _ hp,e1,e2,hs,e];simp only[LS.mk.injEq,true_and,and_true,List.length_cons];omega
 |@neg t r p ht g f=>
  intro h1 s hs hp;have e1:=CP ht (by decide) s.d;have e2:=NL ht (by decide);obtain ⟨acc,e,a⟩:=f h1 ⟨false,0,s.i+1,s.acc⟩ rfl rfl;refine ⟨acc, ?_,a⟩;rw[List.foldl_cons,CJ _ hp,e1,e2,hs,e];simp only[LS.mk.injEq,true_and,and_true,List.length_cons];omega
 |@par t u r p ht g b f=>
  intro h1 s hs hp;have e1:=Gb (.inl ht) s.d;have e2:=ES (.inl b) (s.d+1);refine ⟨s.acc, ?_,fun _=>rfl⟩;rw[List.foldl_cons,CJ _ hp,e1,zt,g.deep (AY m) _ (by show 0 < s.d+1;omega),List.foldl_cons,z9,NO _ b (fun h=>Le h (by decide))];simp only[e2,LS.mk.injEq,List.length_cons,zA,List.length_nil];exact ⟨Fm (.inl b),by omega,by omega,trivial⟩
 |@size t u v r p ht b g y f=>
  intro h1 s hs hp;have E:=CP ht (by decide) s.d;have e1:=Gb (.inl b) s.d;have e2:=ES (.inl y) (s.d+1);refine ⟨s.acc, ?_,fun _=>rfl⟩;rw[List.foldl_cons,CJ _ hp,E,List.foldl_cons,AV _ (by show 0 < dL s.d u;rw[e1];omega),zt,g.deep (AY m) _ (by show 0 < dL s.d u;rw[e1];omega),List.foldl_cons,z9,NO _ y (fun h=>Le h (by decide))];simp only[e1,e2,LS.mk.injEq,List.length_cons,zA,List.length_nil];exact ⟨Fm (.inl y),by omega,by omega,trivial⟩
 |@set t u c ht hc b=>
  intro h1 s hs hp;have e1:=Gb (.inr ht) s.d;have e2:=ES (.inr b) (s.d+1);obtain ⟨pe,he⟩:=Rd (AY m) c hc ⟨Fc t,s.d+1,s.i+1,s.acc⟩ (by show 0 < s.d+1;omega);refine ⟨s.acc, ?_,fun _=>rfl⟩;rw[List.foldl_cons,CJ _ hp,e1,zt,he,List.foldl_cons,z9,NO _ b (fun h=>Le h (by decide))];simp only[e2,LS.mk.injEq,List.length_cons,zA,List.length_nil];exact ⟨Fm (.inr b),by omega,by omega,trivial⟩
 |@num t h | @text t h | @name t h=>
  intro h1 s hs hp;refine ⟨s.acc, ?_,fun _=>rfl⟩;have e1:=Rb (t:=t) (by omega) (by omega) s.d;rw[List.foldl_cons,z9,CJ _ hp,e1,Tq (by omega) (by omega),hs];rfl
 |@tru t h=>
  intro h1 s hs hp;refine ⟨s.acc, ?_,fun _=>rfl⟩;have e1:=CP h (by decide) s.d;rw[List.foldl_cons,z9,CJ _ hp,e1,J9 (.inl h),hs];rfl
 |@fls t h=>
  intro h1 s hs hp;refine ⟨s.acc, ?_,fun _=>rfl⟩;have e1:=CP h (by decide) s.d;rw[List.foldl_cons,z9,CJ _ hp,e1,J9 (.inr h),hs];rfl
def L9 (m:Nat) (c:List Af) (i:Int):Int:=(c.foldl (CV (AY m)) ⟨false,0,i,-1⟩).acc
theorem G.last_no {m k:Nat}{c:List Af}{p:Pt}(g:G k c p)(h:m < k)(i:Int):L9 m c i= -1:=by
 obtain ⟨acc,e,a⟩:=g.flat m (by omega) ⟨false,0,i,-1⟩ rfl rfl;rw[L9,e];exact a h
theorem G.last_at {m k a:Nat}{l r:List Af}{t:Af}{op:Int}{b c:Pt}(d:G k l b)(hk: 1≤k)(ht:CZ m t=some op)(f:G a r c)(h:m < a)(i:Int):L9 m (l ++t ::r) i=i+l.length:=by
 obtain ⟨acc,e,n⟩:=d.flat m hk ⟨false,0,i,-1⟩ rfl rfl;obtain ⟨e1,e2,e3⟩:=Em ht;have g:CV (AY m) ⟨true,0,i+l.length,acc⟩ t=⟨false,0,i+l.length+1,i+l.length⟩:=by
  rw[CV,e1,e2,if_neg (by rintro (h | h);exact absurd h (Int.lt_irrefl 0);cases h),ZP ht];rfl
 obtain ⟨o,e',j⟩:=f.flat m (by omega) ⟨false,0,i+l.length+1,i+l.length⟩ rfl rfl;rw[L9,zt,e,List.foldl_cons,g,e'];exact j h
theorem G.cut0 {c:List Af}{p:Pt}(g:G 0 c p):(∃ t u v a b d f h i,c=t ::(a ++u ::(b ++v ::d))∧p= .ite t.at_ f h i∧see Et t=true∧see BP u=true∧see AJ v=true∧G 0 a f∧G 0 b h∧G 0 d i)∨G 1 c p:=by
 cases g with
 |up hk g=>exact .inr g
 |ite ht j k l m n=>exact .inl ⟨_,_,_,_,_,_,_,_,_,rfl,rfl,ht,j,k,l,m,n⟩
 |bin hk=>omega
theorem G.cutB {k:Nat}{c:List Af}{p:Pt}(g:G k c p)(hk:k=1∨k=2∨k=5∨k=6):(∃ l t r op a b,c=l ++t ::r∧p= .bin t.at_ op a b∧CZ k t=some op∧G k l a∧G (k+1) r b)∨G (k+1) c p:=by
 cases g with
 |up hk g=>exact .inr g
 |bin hk d ht f=>exact .inl ⟨_,_,_,_,_,_,rfl,rfl,ht,d,f⟩
 |_=>omega
theorem G.cut3 {c:List Af}{p:Pt}(g:G 3 c p):(∃ t r q,c=t ::r∧p= .un t.at_ 9 q∧see E3 t=true∧G 3 r q)∨G 4 c p:=by
 cases g with
 |up hk g=>exact .inr g
 |not ht g=>exact .inl ⟨_,_,_,rfl,rfl,ht,g⟩
 |bin hk=>omega
theorem G.cut4 {c:List Af}{p:Pt}(g:G 4 c p):(∃ l t r op a b,c=l ++t ::r∧p= .bin t.at_ op a b∧CZ 4 t=some op∧G 5 l a∧G 5 r b)∨G 5 c p:=by
 cases g with
 |up hk g=>exact .inr g
 |cmp d ht f=>exact .inl ⟨_,_,_,_,_,_,rfl,rfl,ht,d,f⟩
 |bin hk=>omega
theorem G.cut7 {c:List Af}{p:Pt}(g:G 7 c p):(∃ t r q,c=t ::r∧p= .un t.at_ 8 q∧see Bi t=true∧G 7 r q)∨G 8 c p:=by
 cases g with
 |up hk g=>exact .inr g
 |neg ht g=>exact .inl ⟨_,_,_,rfl,rfl,ht,g⟩
 |bin hk=>omega
theorem G.head {k:Nat}{c:List Af}{p:Pt}(g:G k c p):∃ t r,c=t ::r∧(1≤k→see Et t=false)∧(4≤k→see E3 t=false)∧(8≤k→see Bi t=false):=by
 induction g with
 |up hk g d=>
  obtain ⟨t,r,e,h1,h2,h3⟩:=d;exact ⟨t,r,e,fun h=>h1 (by omega),fun h=>h2 (by omega),fun h=>h3 (by omega)⟩
 |ite=>exact ⟨_,_,rfl,fun h=>by omega,fun h=>by omega,fun h=>by omega⟩
 |@bin k l r t op f i hk j ht m a n=>
  obtain ⟨u,q,e,h1,h2,h3⟩:=a;exact ⟨u,q ++t ::r,by rw[e];rfl,h1,h2,h3⟩
 |@cmp l r t op f i j ht m a n=>
  obtain ⟨u,q,e,h1,h2,h3⟩:=a;exact ⟨u,q ++t ::r,by rw[e];rfl,fun _=>h1 (by omega),fun _=>h2 (by omega),fun h=>by omega⟩
 |not ht g=>exact ⟨_,_,rfl,fun _=>Ah ht (by decide),fun h=>by omega,fun h=>by omega⟩
 |neg ht g=>exact ⟨_,_,rfl,fun _=>Ah ht (by decide),fun _=>Ah ht (by decide),fun h=>by omega⟩
 |par ht g b=>exact ⟨_,_,rfl,fun _=>Ah ht (by decide),fun _=>Ah ht (by decide),fun _=>Ah ht (by decide)⟩
 |size ht b g o=>exact ⟨_,_,rfl,fun _=>Ah ht (by decide),fun _=>Ah ht (by decide),fun _=>Ah ht (by decide)⟩
 |set ht hc b=>exact ⟨_,_,rfl,fun _=>Ah ht (by decide),fun _=>Ah ht (by decide),fun _=>Ah ht (by decide)⟩
 |num h | text h | name h=>exact ⟨_,_,rfl,fun _=>AG (by omega) (by omega),fun _=>AG (by omega) (by omega),fun _=>AG (by omega) (by omega)⟩
 |tru h | fls h=>exact ⟨_,_,rfl,fun _=>Ah h (by decide),fun _=>Ah h (by decide),fun _=>Ah h (by decide)⟩
theorem G.free {k:Nat}{c:List Af}{p:Pt}(g:G k c p):∀ t∈c,see AC t=false∧see By t=false:=by
 induction g with
 |up hk g b=>exact b
 |ite ht a d o q r j l id=>
  intro x hx;simp only[zE,zK] at hx;rcases hx with rfl | hx | rfl | hx | rfl | hx
  ·exact ⟨Ah ht (by decide),Ah ht (by decide)⟩
  ·exact j x hx
  ·exact ⟨Ah a (by decide),Ah a (by decide)⟩
  ·exact l x hx
  ·exact ⟨Ah d (by decide),Ah d (by decide)⟩
  ·exact id x hx
 |bin hk m ht n f i=>
  intro x hx;simp only[zE,zK] at hx;rcases hx with hx | rfl | hx
  ·exact f x hx
  ·have:=(Em ht).2.2;exact ⟨this _ (by decide),this _ (by decide)⟩
  ·exact i x hx
 |cmp m ht n f i=>
  intro x hx;simp only[zE,zK] at hx;rcases hx with hx | rfl | hx
  ·exact f x hx
  ·have:=(Em ht).2.2;exact ⟨this _ (by decide),this _ (by decide)⟩
  ·exact i x hx
 |not ht g b | neg ht g b=>
  intro x hx;rcases zE.1 hx with rfl | hx
  ·exact ⟨Ah ht (by decide),Ah ht (by decide)⟩
  ·exact b x hx
 |par ht g a b=>
  intro x hx;simp only[zE,zK,zo,or_false] at hx;rcases hx with rfl | hx | rfl
  ·exact ⟨Ah ht (by decide),Ah ht (by decide)⟩
  ·exact b x hx
  ·exact ⟨Ah a (by decide),Ah a (by decide)⟩
 |size ht a g d b=>
  intro x hx;simp only[zE,zK,zo,or_false] at hx;rcases hx with rfl | rfl | hx | rfl
  ·exact ⟨Ah ht (by decide),Ah ht (by decide)⟩
  ·exact ⟨Ah a (by decide),Ah a (by decide)⟩
  ·exact b x hx
  ·exact ⟨Ah d (by decide),Ah d (by decide)⟩
 |set ht hc a=>
  intro x hx;simp only[zE,zK,zo,or_false] at hx;rcases hx with rfl | hx | rfl
  ·exact ⟨Ah ht (by decide),Ah ht (by decide)⟩
  ·rcases hc x hx with e | e
   ·exact ⟨AG (by omega) (by omega),AG (by omega) (by omega)⟩
   ·exact ⟨Ah e (by decide),Ah e (by decide)⟩
  ·exact ⟨Ah a (by decide),Ah a (by decide)⟩
 |num h | text h | name h=>
  intro x hx;rw[zL.1 hx];exact ⟨AG (by omega) (by omega),AG (by omega) (by omega)⟩
 |tru h | fls h=>
  intro x hx;rw[zL.1 hx];exact ⟨Ah h (by decide),Ah h (by decide)⟩
def Ce (w:List UInt8):List Af→Int→Int→Int→Int
 | [],_,_,i=>i
 |t ::r,o,d,i=>if see AF t then Ce w r o (d+1) (i+1) else if see AS t then Ce w r o (d - 1) (i+1) else if d=0∧see Et t=true then Ce w r (o+1) d (i+1)
  else if d=0∧see w t=true then (if o - 1=0 then i else Ce w r (o - 1) d (i+1)) else Ce w r o d (i+1)
theorem DM {w s:List UInt8}{t:Af}(h:see s t=true)(hs:s ∉ [AF,AS,Et,w])(r:List Af)(o d i:Int):Ce w (t ::r) o d i=Ce w r o d (i+1):=by
 have e1:=Ah h (s':=AF) (fun e=>hs (by rw[e];simp));have e2:=Ah h (s':=AS) (fun e=>hs (by rw[e];simp));have e3:=Ah h (s':=Et) (fun e=>hs (by rw[e];simp));have e4:=Ah h (s':=w) (fun e=>hs (by rw[e];simp));rw[Ce,e1,e2,e3,e4];simp
theorem Ts {w:List UInt8}{t:Af}(h4:t.kind≠4)(h5:t.kind≠5)(r:List Af)(o d i:Int):Ce w (t ::r) o d i=Ce w r o d (i+1):=by
 rw[Ce,AG h4 h5,AG h4 h5,AG h4 h5,AG h4 h5];simp
theorem NP {w:List UInt8}{t:Af}(h:see AF t=true)(r:List Af)(o d i:Int):Ce w (t ::r) o d i=Ce w r o (d+1) (i+1):=by
 rw[Ce,if_pos h]
theorem Lf {w:List UInt8}{t:Af}(h:see AS t=true)(r:List Af)(o d i:Int):Ce w (t ::r) o d i=Ce w r o (d - 1) (i+1):=by
 rw[Ce,Ah h (s':=AF) (by decide),if_neg (by decide),if_pos h]
theorem Adg {w:List UInt8}{t:Af}(h:see Et t=true)(a:w≠Et)(r:List Af)(o d i:Int):Ce w (t ::r) o d i=Ce w r (if d=0 then o+1 else o) d (i+1):=by
 rw[Ce,Ah h (s':=AF) (by decide),Ah h (s':=AS) (by decide),if_neg (by decide),if_neg (by decide),Ah h (s':=w) (fun e=>a e.symm)];by_cases hd:d=0
 ·rw[if_pos ⟨hd,h⟩,if_pos hd]
 ·rw[if_neg (fun e=>hd e.1),if_neg (fun e=>hd e.1),if_neg hd]
theorem Tt {w:List UInt8}{t:Af}(h:see w t=true)(a:w ∉ [AF,AS,Et])(r:List Af)(o d i:Int)(b:d=0→2≤o):Ce w (t ::r) o d i=Ce w r (if d=0 then o - 1 else o) d (i+1):=by
 have e1:=Ah h (s':=AF) (fun e=>a (by rw[e];simp));have e2:=Ah h (s':=AS) (fun e=>a (by rw[e];simp));have e3:=Ah h (s':=Et) (fun e=>a (by rw[e];simp));rw[Ce,e1,e2,e3,if_neg (by decide),if_neg (by decide),if_neg (fun e=>by cases e.2)];by_cases hd:d=0
 ·have:=b hd;rw[if_pos ⟨hd,h⟩,if_pos hd,if_neg (by omega)]
 ·rw[if_neg (fun e=>hd e.1),if_neg hd]
theorem WM {w:List UInt8}{t:Af}(h:see w t=true)(a:w ∉ [AF,AS,Et])(r:List Af)(i:Int):Ce w (t ::r) 1 0 i=i:=by
 have e1:=Ah h (s':=AF) (fun e=>a (by rw[e];simp));have e2:=Ah h (s':=AS) (fun e=>a (by rw[e];simp));have e3:=Ah h (s':=Et) (fun e=>a (by rw[e];simp));rw[Ce,e1,e2,e3,if_neg (by decide),if_neg (by decide),if_neg (fun e=>by cases e.2),if_pos ⟨rfl,h⟩,if_pos (by decide)]
theorem ZQ (w:List UInt8)(a:w=BP∨w=AJ):∀ (c:List Af),(∀ x∈c,scT x)→∀ (r:List Af) (o d i:Int),Ce w (c ++r) o d i=Ce w r o d (i+c.length)
 | [],_,r,o,d,i=>by simp
 |t ::c,h,r,o,d,i=>by
  have b:=ZQ w a c (fun x hx=>h x (zY _ hx)) r o d (i+1);have e:Ce w (t ::(c ++r)) o d i=Ce w (c ++r) o d (i+1):=by
   rcases h t (zT ..) with e | e
   ·exact Ts (by omega) (by omega) _ _ _ _
   ·exact DM e (by rcases a with rfl | rfl <;> decide) _ _ _ _
  rw[List.cons_append,e,b,List.length_cons]
  congr 1
  omega
theorem ZR {w:List UInt8}(a:w=BP∨w=AJ){k:Nat}{t:Af}{op:Int}(h:CZ k t=some op)(r:List Af)(o d i:Int):Ce w (t ::r) o d i=Ce w r o d (i+1):=by
 obtain ⟨s,h1,h2⟩:=FH h;refine DM h2 (fun b=>NM h1 ?_) r o d i;rcases a with rfl | rfl <;> (simp only[zE,zo,or_false] at b ⊢;grind)
theorem G.mat {w:List UInt8}(j:w=BP∨w=AJ){k:Nat}{c:List Af}{p:Pt}(g:G k c p):∀ (r:List Af) (o d i:Int),1≤o→0≤d→Ce w (c ++r) o d i=Ce w r o d (i+c.length):=by
 have B:w≠Et:=by rcases j with rfl | rfl <;> decide
 have w2:w ∉ [AF,AS,Et]:=by rcases j with rfl | rfl <;> decide
 induction g with
 |up hk g m=>exact m
 |@ite t u v a b e K L M ht n s N O P C z id=>
  intro r o d i f hd;have E:(t ::(a ++u ::(b ++v ::e))) ++r=t ::(a ++(u ::(b ++(v ::(e ++r))))):=by simp
  rw[E,Adg ht B];have A: 1≤(if d=0 then o+1 else o):=by split <;> omega
  rw[C _ _ _ _ A hd];rcases j with rfl | rfl
  ·rw[Tt n (by decide) _ _ _ _ (fun h=>by rw[if_pos h];omega)];have e1:(if d=0 then (if d=0 then o+1 else o) - 1 else (if d=0 then o+1 else o))=o:=by split <;> omega
   rw[e1,z _ _ _ _ f hd,DM s (by decide),id _ _ _ _ f hd]
   congr 1
   simp only[List.length_cons,zA];omega
  ·rw[DM n (by decide),z _ _ _ _ A hd,Tt s (by decide) _ _ _ _ (fun h=>by rw[if_pos h];omega)];have e1:(if d=0 then (if d=0 then o+1 else o) - 1 else (if d=0 then o+1 else o))=o:=by split <;> omega
   rw[e1,id _ _ _ _ f hd]
   congr 1
   simp only[List.length_cons,zA];omega
 |@bin k l q t op F H hk I ht J x y=>
  intro r o d i f hd;rw[zC,List.cons_append,x _ _ _ _ f hd,ZR j ht,y _ _ _ _ f hd]
  congr 1
  simp only[List.length_cons,zA];omega
 |@cmp l q t op F H I ht J x y=>
  intro r o d i f hd;rw[zC,List.cons_append,x _ _ _ _ f hd,ZR j ht,y _ _ _ _ f hd]
  congr 1
  simp only[List.length_cons,zA];omega
 |@not t q p ht g m=>
  intro r o d i f hd;rw[List.cons_append,DM ht (by rcases j with rfl | rfl <;> decide),m _ _ _ _ f hd]
  congr 1
  simp only[List.length_cons];omega
 |@neg t q p ht g m=>
  intro r o d i f hd;rw[List.cons_append,DM ht (by rcases j with rfl | rfl <;> decide),m _ _ _ _ f hd]
  congr 1
  simp only[List.length_cons];omega
 |@par t u q p ht g n m=>
  intro r o d i f hd;rw[List.cons_append,zC,NP ht,m _ _ _ _ f (by omega),List.cons_append,List.nil_append,Lf n,show d+1 - 1=d by omega]
  congr 1
  simp only[List.length_cons,zA,List.length_nil];omega
 |@size t u v q p ht n g s m=>
  intro r o d i f hd;rw[List.cons_append,List.cons_append,zC,DM ht (by rcases j with rfl | rfl <;> decide),NP n,m _ _ _ _ f (by omega),List.cons_append,List.nil_append,Lf s,show d+1 - 1=d by omega]
  congr 1
  simp only[List.length_cons,zA,List.length_nil];omega
 |@set t u c ht hc n=>
  intro r o d i f hd;rw[List.cons_append,zC,DM ht (by rcases j with rfl | rfl <;> decide),ZQ w j c hc,List.cons_append,List.nil_append,DM n (by rcases j with rfl | rfl <;> decide)]
  congr 1
  simp only[List.length_cons,zA,List.length_nil];omega
 |num h | text h | name h=>
  intro r o d i f hd;exact Ts (by omega) (by omega) r o d i
 |tru h | fls h=>
  intro r o d i f hd;exact DM h (by rcases j with rfl | rfl <;> decide) r o d i
structure Ps where
 at_:Nat
 kind:Int
 name:ByteArray
 cond:Option Pt
 grant:Option Pt
inductive DR where
 |ok (g:Option Pt) (r:List Af)
 |bad (r:List Af)
def DR.rest:DR→List Af
 | .ok _ r=>r
 | .bad r=>r
inductive DD (s:List UInt8):List Af→DR→Prop
 |no {ts:List Af} (h:AM s ts=false):DD s ts (.bad ts)
 |deny {t u:Af} {r:List Af} (h:see s t=true) (hu:see Ga u=true):DD s (t ::u ::r) (.ok none r)
 |grant {t:Af} {r q:List Af} {e:Pt} (h:see s t=true) (hu:AM Ga r=false) (d:D (.beh Bz) r (.ok e q)):DD s (t ::r) (.ok (some e) q)
 |grant_bad {t:Af} {r q:List Af} (h:see s t=true) (hu:AM Ga r=false) (d:D (.beh Bz) r (.bad q)):DD s (t ::r) (.bad q)
inductive SR where
 |ok (s:Ps) (r:List Af)
 |bad (r:List Af)
def SR.rest:SR→List Af
 | .ok _ r=>r
 | .bad r=>r
inductive DS:List Af→SR→Prop
 |let_nil {t:Af} (h:see DK t=true):DS [t] (.bad [])
 |let_no {t n:Af} {r:List Af} (h:see DK t=true) (hn:n.kind≠3):DS (t ::n ::r) (.bad (n ::r))
 |let_bad {t n:Af} {r q:List Af} (h:see DK t=true) (hn:n.kind=3) (d:D (.beh So) r (.bad q)):DS (t ::n ::r) (.bad q)
 |let_end {t n:Af} {r q:List Af} {e:Pt} (h:see DK t=true) (hn:n.kind=3) (d:D (.beh So) r (.ok e q)) (hq:AM AC q=false):DS (t ::n ::r) (.bad q)
 |let_ {t n u:Af} {r q:List Af} {e:Pt} (h:see DK t=true) (hn:n.kind=3) (d:D (.beh So) r (.ok e (u ::q))) (hq:see AC u=true):DS (t ::n ::r) (.ok ⟨t.at_,1,n.text,some e,none⟩ q)
 |when_bad {t:Af} {r q:List Af} (h:see Bb t=true) (d:D (.beh Bb) (t ::r) (.bad q)):DS (t ::r) (.bad q)
 |when_bad2 {t:Af} {r q p:List Af} {e:Pt} (h:see Bb t=true) (d:D (.beh Bb) (t ::r) (.ok e q)) (d2:DD By q (.bad p)):DS (t ::r) (.bad p)
 |when_end {t:Af} {r q p:List Af} {e:Pt} {g:Option Pt} (h:see Bb t=true) (d:D (.beh Bb) (t ::r) (.ok e q)) (d2:DD By q (.ok g p)) (hq:AM AC p=false):DS (t ::r) (.bad p)
 |when {t u:Af} {r q p:List Af} {e:Pt} {g:Option Pt} (h:see Bb t=true) (d:D (.beh Bb) (t ::r) (.ok e q)) (d2:DD By q (.ok g (u ::p))) (hq:see AC u=true):DS (t ::r) (.ok ⟨t.at_,2,AB [],some e,g⟩ p)
 |else_bad {t:Af} {r q:List Af} (h:see AJ t=true) (d:DD AJ (t ::r) (.bad q)):DS (t ::r) (.bad q)
 |else_end {t:Af} {r q:List Af} {g:Option Pt} (h:see AJ t=true) (d:DD AJ (t ::r) (.ok g q)) (hq:AM AC q=false):DS (t ::r) (.bad q)
 |else_ {t u:Af} {r q:List Af} {g:Option Pt} (h:see AJ t=true) (d:DD AJ (t ::r) (.ok g (u ::q))) (hq:see AC u=true):DS (t ::r) (.ok ⟨t.at_,3,AB [],none,g⟩ q)
 |none {ts:List Af} (h1:AM DK ts=false) (h2:AM Bb ts=false) (h3:AM AJ ts=false):DS ts (.bad ts)
inductive QR where
 |ok (S:List Ps)
 |bad (r:List Af)
def QR.res:QR→Option (List Af)
 | .ok _=>none
 | .bad q=>some q
def QR.cons (s:Ps):QR→QR
 | .ok S=> .ok (s ::S)
 | .bad r=> .bad r
inductive DP:List Af→QR→Prop
 |bad {ts q:List Af} (d:DS ts (.bad q)):DP ts (.bad q)
 |more {ts r:List Af} {s:Ps} {x:QR} (d:DS ts (.ok s r)) (hk:s.kind≠3) (d2:DP r x):DP ts (x.cons s)
 |last {ts:List Af} {s:Ps} (d:DS ts (.ok s [])) (hk:s.kind=3):DP ts (.ok [s])
 |over {ts r:List Af} {t:Af} {s:Ps} (d:DS ts (.ok s (t ::r))) (hk:s.kind=3):DP ts (.bad (t ::r))
theorem D.any (nt:NT)(ts:List Af)(h:nt.good):∃ x,D nt ts x:=D.total _ nt ts h NLN
theorem DD.total (s:List UInt8)(ts:List Af):∃ x,DD s ts x:=by
 cases h:AM s ts
 ·exact ⟨_,.no h⟩
 ·cases ts with
  |nil=>cases h
  |cons t r=>
   cases hd:AM Ga r
   ·obtain ⟨x,d⟩:=D.any (.beh Bz) r trivial;cases x with
    |ok e q=>exact ⟨_,.grant h hd d⟩
    |bad q=>exact ⟨_,.grant_bad h hd d⟩
   ·cases r with
    |nil=>cases hd
    |cons u r=>exact ⟨_,.deny h hd⟩
theorem DS.total (ts:List Af):∃ x,DS ts x:=by
 cases h1:AM DK ts
 case true=>
  cases ts with
  |nil=>cases h1
  |cons t r=>
   cases r with
   |nil=>exact ⟨_,.let_nil h1⟩
   |cons n r=>
    by_cases a:n.kind=3
    ·obtain ⟨x,d⟩:=D.any (.beh So) r trivial;cases x with
     |bad q=>exact ⟨_,.let_bad h1 a d⟩
     |ok e q=>
      cases hq:AM AC q
      ·exact ⟨_,.let_end h1 a d hq⟩
      ·cases q with
       |nil=>cases hq
       |cons u q=>exact ⟨_,.let_ h1 a d hq⟩
    ·exact ⟨_,.let_no h1 a⟩
 cases h2:AM Bb ts
 case true=>
  cases ts with
  |nil=>cases h2
  |cons t r=>
   obtain ⟨x,d⟩:=D.any (.beh Bb) (t ::r) trivial;cases x with
   |bad q=>exact ⟨_,.when_bad h2 d⟩
   |ok e q=>
    obtain ⟨y,d2⟩:=DD.total By q;cases y with
    |bad p=>exact ⟨_,.when_bad2 h2 d d2⟩
    |ok g p=>
     cases hq:AM AC p
     ·exact ⟨_,.when_end h2 d d2 hq⟩
     ·cases p with
      |nil=>cases hq
      |cons u p=>exact ⟨_,.when h2 d d2 hq⟩
 cases h3:AM AJ ts
 case true=>
  cases ts with
  |nil=>cases h3
  |cons t r=>
   obtain ⟨y,d2⟩:=DD.total AJ (t ::r);cases y with
   |bad p=>exact ⟨_,.else_bad h3 d2⟩
   |ok g p=>
    cases hq:AM AC p
    ·exact ⟨_,.else_end h3 d2 hq⟩
    ·cases p with
     |nil=>cases hq
     |cons u p=>exact ⟨_,.else_ h3 d2 hq⟩
 exact ⟨_,.none h1 h2 h3⟩
theorem DD.suf {s:List UInt8}{ts:List Af}{x:DR}(d:DD s ts x):∃ c,ts=c ++x.rest∧(∀ g r,x= .ok g r→c≠ []):=by
 cases d with
 |no h=>exact ⟨[],rfl,fun _ _ h=>by cases h⟩
 |@deny t u r h a=>exact ⟨[t,u],rfl,fun _ _ _=>by simp⟩
 |@grant t r q e h a d=>obtain ⟨c,hc,_⟩:=d.suf;exact ⟨t ::c,by rw[hc];rfl,fun _ _ _=>by simp⟩
 |@grant_bad t r q h a d=>obtain ⟨c,hc,_⟩:=d.suf;exact ⟨t ::c,by rw[hc];rfl,fun _ _ h=>by cases h⟩
theorem DS.suf {ts:List Af}{x:SR}(d:DS ts x):∃ c,ts=c ++x.rest∧(∀ g r,x= .ok g r→c≠ []):=by
 cases d with
 |@let_nil t h=>exact ⟨[t],rfl,fun _ _ h=>by cases h⟩
 |@let_no t n r h a=>exact ⟨[t],rfl,fun _ _ h=>by cases h⟩
 |@let_bad t n r q h a d=>obtain ⟨c,hc,_⟩:=d.suf;exact ⟨t ::n ::c,by rw[hc];rfl,fun _ _ h=>by cases h⟩
 |@let_end t n r q e h a d hq=>obtain ⟨c,hc,_⟩:=d.suf;exact ⟨t ::n ::c,by rw[hc];rfl,fun _ _ h=>by cases h⟩
 |@let_ t n u r q e h a d hq=>obtain ⟨c,hc,_⟩:=d.suf;exact ⟨t ::n ::(c ++ [u]),by rw[hc];simp[PR.rest,SR.rest],fun _ _ _=>by simp⟩
 |@when_bad t r q h d=>obtain ⟨c,hc,_⟩:=d.suf;exact ⟨c,hc,fun _ _ h=>by cases h⟩
 |@when_bad2 t r q p e h d d2=>obtain ⟨c,hc,_⟩:=d.suf;obtain ⟨c2,b,_⟩:=d2.suf;dsimp only[PR.rest,DR.rest,SR.rest] at *;exact ⟨c ++c2,by rw[zC,← b];exact hc,fun _ _ h=>by cases h⟩
 |@when_end t r q p e g h d d2 hq=>obtain ⟨c,hc,_⟩:=d.suf;obtain ⟨c2,b,_⟩:=d2.suf;dsimp only[PR.rest,DR.rest,SR.rest] at *;exact ⟨c ++c2,by rw[zC,← b];exact hc,fun _ _ h=>by cases h⟩
 |@when t u r q p e g h d d2 hq=>obtain ⟨c,hc,a⟩:=d.suf;obtain ⟨c2,b,_⟩:=d2.suf;exact ⟨c ++(c2 ++ [u]),by rw[hc];simp only[zC];congr 1,fun _ _ _ h=>a _ _ rfl rfl (List.append_eq_nil_iff.1 h).1⟩
 |@else_bad t r q h d=>obtain ⟨c,hc,_⟩:=d.suf;exact ⟨c,hc,fun _ _ h=>by cases h⟩
 |@else_end t r q g h d hq=>obtain ⟨c,hc,_⟩:=d.suf;exact ⟨c,hc,fun _ _ h=>by cases h⟩
 |@else_ t u r q g h d hq=>obtain ⟨c,hc,_⟩:=d.suf;exact ⟨c ++ [u],by rw[hc];simp[DR.rest,SR.rest],fun _ _ _=>by simp⟩
 |none h1 h2 h3=>exact ⟨[],rfl,fun _ _ h=>by cases h⟩
theorem DP.total:∀ (n:Nat) (ts:List Af),ts.length≤n→∃ x,DP ts x
 |n,ts,hn=>by
  obtain ⟨x,d⟩:=DS.total ts;cases x with
  |bad q=>exact ⟨_,.bad d⟩
  |ok s r=>
   by_cases hk:s.kind=3
   ·cases r with
    |nil=>exact ⟨_,.last d hk⟩
    |cons t r=>exact ⟨_,.over d hk⟩
   ·obtain ⟨c,hc,a⟩:=d.suf;have h1: 0 < c.length:=List.length_pos_iff.2 (a _ _ rfl);have h2:ts.length=c.length+r.length:=by rw[hc,zA];rfl
    match n with
    | 0=>omega
    |n+1=>
     obtain ⟨y,d2⟩:=DP.total n r (by omega);exact ⟨_,.more d hk d2⟩
theorem DD.run {s:List UInt8}{ts:List Af}{x:DR}(d:DD s ts x)(hs:s∈Cq)(b:∀ t∈ts,BI t)(st:List Sy)(f:Option (List Af))(h1:∀ q,x= .bad q→f=some q)(h2:∀ g r,x= .ok g r→Ru st r f):Ru (.t s :: .decision ::st) ts f:=by
 cases d with
 |no h=>rw[h1 _ rfl];exact .term_no (D8 b hs h)
 |@deny t u r h a=>
  have e2:=AO (b u (by simp)) (by decide) a;exact .term (AO (b t (by simp)) hs h) (.exp (m:= [.t Ga]) (by show An .decision (tk u)=_;rw[e2];rfl) (.term e2 (h2 _ _ rfl)))
 |@grant t r q e h a d=>
  have i:∀ u∈r,BI u:=fun u a=>b u (by simp[a]);refine .term (AO (b t (by simp)) hs h) ?_;have hd:Ru ([Sy.t Bz,Sy.expr] ++st) r f:=d.run (show Bz∈Cq by decide) i st f (h2 _ _ rfl);by_cases j:KQ r=Bz
  ·exact .exp (m:= [.t Bz,.expr]) (if_pos j) hd
  ·exfalso;obtain ⟨k,c,hc,l,_⟩:=d.tree trivial _ _ rfl;refine j ?_;rw[hc];exact AO (i k (by rw[hc];simp)) (by decide) l
 |@grant_bad t r q h a d=>
  have i:∀ u∈r,BI u:=fun u a=>b u (by simp[a]);refine .term (AO (b t (by simp)) hs h) ?_;have hd:Ru ([Sy.t Bz,Sy.expr] ++st) r f:=d.run (show Bz∈Cq by decide) i st f (h1 _ rfl);by_cases j:KQ r=Bz
  ·exact .exp (m:= [.t Bz,.expr]) (if_pos j) hd
  ·refine .exp (m:= [.t Ga]) (if_neg j) ?_;have e:q=r:=by
    cases d with
    |beh_no h=>rfl
    |@beh _ k o _ n d1=>exact absurd (AO (i k (by simp)) (by decide) n) j
   rw[h1 _ rfl,e];exact .term_no (D8 i (by decide) a)
theorem In {c r:List Af}(h:∀ t∈c ++r,BI t):∀ t∈r,BI t:=fun t ht=>h t (zm _ ht)
theorem DS.run {ts:List Af}{x:SR}(d:DS ts x)(a:∀ t∈ts,BI t)(b:Option (List Af))(h1:∀ q,x= .bad q→b=some q)(h2:∀ s r,x= .ok s r→Ru (if s.kind=3 then [] else [.policy]) r b):Ru [.policy] ts b:=by
 have l:An .policy DK=some [.t DK,.t ER,.t So,.expr,.t AC,.policy]:=rfl;have v:An .policy Bb=some [.t Bb,.expr,.t By,.decision,.t AC,.policy]:=rfl;have w:An .policy AJ=some [.t AJ,.decision,.t AC]:=rfl;have z:∀ n:Af,BI n→n.kind≠3→tk n≠ER:=fun n f hk e=>by
  rcases f with h | h | h | ⟨h,y⟩
  ·rw[tk,if_pos h] at e;revert e;decide
  ·rw[tk,if_neg (by omega),if_pos h] at e;revert e;decide
  ·exact hk h
  ·have:tk n=Ap n.text:=by rcases h with h | h <;> simp[tk,h]
   rw[← this,e] at y;revert y;decide
 cases d with
 |@let_nil t h=>
  have e1:=AO (a t (by simp)) (by decide) h;have h3:Ru [.t ER,.t So,.expr,.t AC,.policy] [] b:=by rw[h1 _ rfl];exact .term_no (by decide)
  exact .exp (by show An .policy (tk t)=_;rw[e1];exact l) (.term e1 h3)
 |@let_no t n r h f=>
  have e1:=AO (a t (by simp)) (by decide) h;have h3:Ru [.t ER,.t So,.expr,.t AC,.policy] (n ::r) b:=by rw[h1 _ rfl];exact .term_no (z n (a n (by simp)) f)
  exact .exp (by show An .policy (tk t)=_;rw[e1];exact l) (.term e1 h3)
 |@let_bad t n r q h f d=>
  have e1:=AO (a t (by simp)) (by decide) h;have e2:tk n=ER:=by rw[tk,f];rfl
  have hd:Ru ([Sy.t So,Sy.expr] ++ [.t AC,.policy]) r b:=d.run (show So∈Cq by decide) (fun u i=>a u (by simp[i])) _ _ (h1 _ rfl);exact .exp (by show An .policy (tk t)=_;rw[e1];exact l) (.term e1 (.term e2 hd))
 |@let_end t n r q e h f d hq=>
  have e1:=AO (a t (by simp)) (by decide) h;have e2:tk n=ER:=by rw[tk,f];rfl
  have o:∀ u∈r,BI u:=fun u i=>a u (by simp[i]);have hd:Ru ([Sy.t So,Sy.expr] ++ [.t AC,.policy]) r b:=d.run (show So∈Cq by decide) o _ _ (by
   show Ru _ q b;rw[h1 _ rfl];exact .term_no (D8 (BA d o) (by decide) hq))
  exact .exp (by show An .policy (tk t)=_;rw[e1];exact l) (.term e1 (.term e2 hd))
 |@let_ t n u r q e h f d hq=>
  have e1:=AO (a t (by simp)) (by decide) h;have e2:tk n=ER:=by rw[tk,f];rfl
  have o:∀ u∈r,BI u:=fun u i=>a u (by simp[i]);have i:=BA d o u (by simp[PR.rest]);have hd:Ru ([Sy.t So,Sy.expr] ++ [.t AC,.policy]) r b:=d.run (show So∈Cq by decide) o _ _ (by
   show Ru _ (u ::q) b;exact .term (AO i (by decide) hq) (h2 _ _ rfl))
  exact .exp (by show An .policy (tk t)=_;rw[e1];exact l) (.term e1 (.term e2 hd))
 |@when_bad t r q h d=>
  have e1:=AO (a t (by simp)) (by decide) h;have hd:Ru ([Sy.t Bb,Sy.expr] ++ [.t By,.decision,.t AC,.policy]) (t ::r) b:=d.run (show Bb∈Cq by decide) a _ _ (h1 _ rfl);exact .exp (by show An .policy (tk t)=_;rw[e1];exact v) hd
 |@when_bad2 t r q p e h d d2=>
  have e1:=AO (a t (by simp)) (by decide) h;have hq:=BA d a;have h3:Ru (.t By :: .decision :: [.t AC,.policy]) q b:=d2.run (by decide) hq _ _ (fun _ e=>h1 _ (by cases e;rfl)) (fun _ _ e=>by cases e);have hd:Ru ([Sy.t Bb,Sy.expr] ++ [.t By,.decision,.t AC,.policy]) (t ::r) b:=d.run (show Bb∈Cq by decide) a _ _ h3;exact .exp (by show An .policy (tk t)=_;rw[e1];exact v) hd
 |@when_end t r q p e g h d d2 hq=>
  have e1:=AO (a t (by simp)) (by decide) h;have j:∀ u∈q,BI u:=BA d a;have k:∀ u∈p,BI u:=by obtain ⟨c,hc,_⟩:=d2.suf;rw[hc] at j;exact In j
  have h3:Ru (.t By :: .decision :: [.t AC,.policy]) q b:=d2.run (by decide) j _ _ (fun _ e=>by cases e) (fun _ _ e=>by cases e;rw[h1 _ rfl];exact .term_no (D8 k (by decide) hq));have hd:Ru ([Sy.t Bb,Sy.expr] ++ [.t By,.decision,.t AC,.policy]) (t ::r) b:=d.run (show Bb∈Cq by decide) a _ _ h3;exact .exp (by show An .policy (tk t)=_;rw[e1];exact v) hd
 |@when t u r q p e g h d d2 hq=>
  have e1:=AO (a t (by simp)) (by decide) h;have j:∀ u∈q,BI u:=BA d a;have k:∀ x∈u ::p,BI x:=by obtain ⟨c,hc,_⟩:=d2.suf;rw[hc] at j;exact In j
  have h3:Ru (.t By :: .decision :: [.t AC,.policy]) q b:=d2.run (by decide) j _ _ (fun _ e=>by cases e) (fun _ _ e=>by cases e;exact .term (AO (k u (by simp)) (by decide) hq) (h2 _ _ rfl));have hd:Ru ([Sy.t Bb,Sy.expr] ++ [.t By,.decision,.t AC,.policy]) (t ::r) b:=d.run (show Bb∈Cq by decide) a _ _ h3;exact .exp (by show An .policy (tk t)=_;rw[e1];exact v) hd
 |@else_bad t r q h d=>
  have e1:=AO (a t (by simp)) (by decide) h;exact .exp (by show An .policy (tk t)=_;rw[e1];exact w) (d.run (by decide) a _ _ (fun _ e=>h1 _ (by cases e;rfl)) (fun _ _ e=>by cases e))
 |@else_end t r q g h d hq=>
  have e1:=AO (a t (by simp)) (by decide) h;have k:∀ u∈q,BI u:=by obtain ⟨c,hc,_⟩:=d.suf;rw[hc] at a;exact In a
  have h3:Ru (.t AJ :: .decision :: [.t AC]) (t ::r) b:=d.run (by decide) a _ _ (fun _ e=>by cases e) (fun _ _ e=>by cases e;rw[h1 _ rfl];exact .term_no (D8 k (by decide) hq));exact .exp (by show An .policy (tk t)=_;rw[e1];exact w) h3
 |@else_ t u r q g h d hq=>
  have e1:=AO (a t (by simp)) (by decide) h;have k:∀ x∈u ::q,BI x:=by obtain ⟨c,hc,_⟩:=d.suf;rw[hc] at a;exact In a
  have h3:Ru (.t AJ :: .decision :: [.t AC]) (t ::r) b:=d.run (by decide) a _ _ (fun _ e=>by cases e) (fun _ _ e=>by cases e;exact .term (AO (k u (by simp)) (by decide) hq) (h2 _ _ rfl));exact .exp (by show An .policy (tk t)=_;rw[e1];exact w) h3
 |none A B C=>
  have E:=D8 a (by decide) A;have F:=D8 a (by decide) B;have H:=D8 a (by decide) C;rw[h1 _ rfl];exact .exp (m:= [.t AJ,.decision,.t AC]) (by rw[An,if_neg E,if_neg F]) (.term_no H)
theorem DP.run {ts:List Af}{x:QR}(d:DP ts x):(∀ t∈ts,BI t)→Ru [.policy] ts x.res:=by
 induction d with
 |bad d=>intro a;exact d.run a _ (fun _ e=>by cases e;rfl) (fun _ _ e=>by cases e)
 |@more ts r s x d hk d2 b=>
  intro a;have f:∀ t∈r,BI t:=by obtain ⟨c,hc,_⟩:=d.suf;rw[hc] at a;exact In a
  have h3:=b f;refine d.run a _ (fun _ e=>by cases e) (fun _ _ e=>by cases e;rw[if_neg hk];cases x <;> exact h3)
 |last d hk=>intro a;exact d.run a _ (fun _ e=>by cases e) (fun _ _ e=>by cases e;rw[if_pos hk];exact ⟨0,.fin⟩)
 |over d hk=>intro a;exact d.run a _ (fun _ e=>by cases e) (fun _ _ e=>by cases e;rw[if_pos hk];exact ⟨0,.over⟩)
inductive GC:List Af→Option Pt→Prop
 |deny {t:Af} (h:see Ga t=true):GC [t] none
 |grant {t:Af} {c:List Af} {p:Pt} (h:see Bz t=true) (g:G 0 c p):GC (t ::c) (some p)
inductive SC:List Af→Ps→Prop
 |let_ {t n e:Af} {c:List Af} {p:Pt} (h:see DK t=true) (hn:n.kind=3) (he:see So e=true) (g:G 0 c p):SC (t ::n ::e ::c) ⟨t.at_,1,n.text,some p,none⟩
 |when {t a:Af} {c d:List Af} {p:Pt} {g:Option Pt} (h:see Bb t=true) (gc:G 0 c p) (ha:see By a=true) (gd:GC d g):SC (t ::(c ++a ::d)) ⟨t.at_,2,AB [],some p,g⟩
 |else_ {t:Af} {d:List Af} {g:Option Pt} (h:see AJ t=true) (gd:GC d g):SC (t ::d) ⟨t.at_,3,AB [],none,g⟩
inductive PC:List Af→List Ps→Prop
 |nil:PC [] []
 |cons {c r:List Af} {u:Af} {s:Ps} {S:List Ps} (sc:SC c s) (hu:see AC u=true) (pc:PC r S):PC (c ++u ::r) (s ::S)
theorem DD.cut {s:List UInt8}{ts:List Af}{x:DR}(d:DD s ts x){g:Option Pt}{r:List Af}(hx:x= .ok g r):∃ t c,ts=t ::(c ++r)∧see s t=true∧GC c g:=by
 cases d with
 |no h=>cases hx
 |@deny t u r h a=>cases hx;exact ⟨t, [u],rfl,h,.deny a⟩
 |@grant t r q e h a d=>
  cases hx;obtain ⟨b,c,hc,hs,f⟩:=d.tree trivial _ _ rfl;exact ⟨t,b ::c,by rw[hc];rfl,h,.grant hs f⟩
 |grant_bad=>cases hx
theorem DS.cut {ts:List Af}{x:SR}(d:DS ts x){s:Ps}{r:List Af}(hx:x= .ok s r):∃ c u,ts=c ++u ::r∧see AC u=true∧SC c s:=by
 cases d with
 |@let_ t n u r q e h k d hq=>
  cases hx;obtain ⟨i,c,hc,hs,f⟩:=d.tree trivial _ _ rfl;exact ⟨t ::n ::i ::c,u,by rw[hc];rfl,hq,.let_ h k hs f⟩
 |@when t u r q p e g h d d2 hq=>
  cases hx;obtain ⟨i,c,hc,hs,f⟩:=d.tree trivial _ _ rfl;obtain ⟨a,c2,b,j,g2⟩:=d2.cut rfl;injection hc with h0 hc;subst h0;exact ⟨t ::(c ++a ::c2),u,by rw[hc,b];simp,hq,.when h f j g2⟩
 |@else_ t u r q g h d hq=>
  cases hx;obtain ⟨a,c2,b,j,g2⟩:=d.cut rfl;injection b with h0 b;subst h0;exact ⟨t ::c2,u,by rw[b];simp,hq,.else_ h g2⟩
 |_=>cases hx
theorem DP.cut {ts:List Af}{x:QR}(d:DP ts x):∀ S,x= .ok S→PC ts S:=by
 induction d with
 |bad=>intro S h;cases h
 |over=>intro S h;cases h
 |@more ts r s x d hk d2 b=>
  intro S h;cases x with
  |bad=>cases h
  |ok T=>
   cases h;obtain ⟨c,u,hc,a,sc⟩:=d.cut rfl;rw[hc];exact .cons sc a (b T rfl)
 |@last ts s d hk=>
  intro S h;cases h;obtain ⟨c,u,hc,a,sc⟩:=d.cut rfl;rw[hc];exact .cons sc a .nil
def Lg:List Af→List ByteArray
 | []=> []
 |t ::r=>if see BJ t then [] else if t.kind=2 then t.text ::Lg r else Lg r
def DN:List Af→List (Nat × List ByteArray)
 | []=> []
 |t ::r=>if see Cp t then (t.at_,Lg r) ::DN r else DN r
def Pt.sets:Pt→List (Nat × List ByteArray)
 | .set i ss=> [(i,ss)]
 | .un _ _ k=>k.sets
 | .bin _ _ l r=>l.sets ++r.sets
 | .ite _ c t e=>c.sets ++(t.sets ++e.sets)
 |_=> []
theorem Re:∀ (c:List Af),(∀ x∈c,scT x)→∀ (u:Af) (r:List Af),see BJ u=true→Lg (c ++u ::r)=nms c
 | [],_,u,r,hu=>by rw[List.nil_append,Lg,if_pos hu];rfl
 |t ::c,h,u,r,hu=>by
  have a:=Re c (fun x hx=>h x (zY _ hx)) u r hu;have b:see BJ t=false:=by
   rcases h t (zT ..) with e | e
   ·exact AG (by omega) (by omega)
   ·exact Ah e (by decide)
  rw[List.cons_append,Lg,b,nms,a];rfl
theorem AP {t:Af}(h:see Cp t=false)(r:List Af):DN (t ::r)=DN r:=by
 rw[DN,h];rfl
theorem Tu:∀ (c:List Af),(∀ x∈c,scT x)→∀ (r:List Af),DN (c ++r)=DN r
 | [],_,r=>rfl
 |t ::c,h,r=>by
  have a:=Tu c (fun x hx=>h x (zY _ hx)) r;have b:see Cp t=false:=by
   rcases h t (zT ..) with e | e
   ·exact AG (by omega) (by omega)
   ·exact Ah e (by decide)
  rw[List.cons_append,AP b,a]
theorem G.sets {k:Nat}{c:List Af}{p:Pt}(g:G k c p):∀ (r:List Af),DN (c ++r)=p.sets ++DN r:=by
 induction g with
 |up hk g a=>exact a
 |ite ht b d o q s j l id=>
  intro r;rw[List.cons_append,AP (Ah ht (by decide)),zC,j,List.cons_append,AP (Ah b (by decide)),zC,l,List.cons_append,AP (Ah d (by decide)),id,Pt.sets];simp
 |bin hk m ht n f i=>
  intro r;rw[zC,f,List.cons_append,AP ((Em ht).2.2 _ (by decide)),i,Pt.sets,zC]
 |cmp m ht n f i=>
  intro r;rw[zC,f,List.cons_append,AP ((Em ht).2.2 _ (by decide)),i,Pt.sets,zC]
 |not ht g a=>intro r;rw[List.cons_append,AP (Ah ht (by decide)),a,Pt.sets]
 |neg ht g a=>intro r;rw[List.cons_append,AP (Ah ht (by decide)),a,Pt.sets]
 |par ht g b a=>intro r;rw[List.cons_append,AP (Ah ht (by decide)),zC,a,List.cons_append,List.nil_append,AP (Ah b (by decide))]
 |size ht b g d a=>intro r;rw[List.cons_append,List.cons_append,AP (Ah ht (by decide)),AP (Ah b (by decide)),zC,a,List.cons_append,List.nil_append,AP (Ah d (by decide)),Pt.sets]
 |@set t u c ht hc b=>
  intro r;rw[List.cons_append,DN,if_pos ht,zC,List.cons_append,List.nil_append,Re c hc u r b,Tu c hc,AP (Ah b (by decide))];rfl
 |num h | text h | name h=>intro r;exact AP (AG (by omega) (by omega)) r
 |tru h | fls h=>intro r;exact AP (Ah h (by decide)) r
def Q7:Option Pt→List (Nat × List ByteArray)
 |none=> []
 |some p=>p.sets
def Ps.sets (s:Ps):List (Nat × List ByteArray):=Q7 s.cond ++Q7 s.grant
theorem GC.sets {c:List Af}{g:Option Pt}(h:GC c g)(r:List Af):DN (c ++r)=Q7 g ++DN r:=by
 cases h with
 |deny h=>exact AP (Ah h (by decide)) r
 |grant h g=>rw[List.cons_append,AP (Ah h (by decide)),g.sets];rfl
theorem SC.sets {c:List Af}{s:Ps}(h:SC c s)(r:List Af):DN (c ++r)=s.sets ++DN r:=by
 cases h with
 |let_ h f he g=>rw[List.cons_append,List.cons_append,List.cons_append,AP (Ah h (by decide)),AP (AG (by omega) (by omega)),AP (Ah he (by decide)),g.sets];simp[Ps.sets,Q7]
 |when h b d a=>rw[List.cons_append,AP (Ah h (by decide)),zC,b.sets,List.cons_append,AP (Ah d (by decide)),a.sets];simp[Ps.sets,Q7]
 |else_ h a=>rw[List.cons_append,AP (Ah h (by decide)),a.sets];simp[Ps.sets,Q7]
theorem PC.sets {ts:List Af}{S:List Ps}(h:PC ts S):DN ts=S.flatMap Ps.sets:=by
 induction h with
 |nil=>rfl
 |cons sc a c b=>rw[sc.sets,AP (Ah a (by decide)),b];rfl
theorem GC.free {c:List Af}{g:Option Pt}(h:GC c g):∀ t∈c,see AC t=false:=by
 cases h with
 |deny h=>intro x hx;rw[zL.1 hx];exact Ah h (by decide)
 |grant h g=>
  intro x hx;rcases zE.1 hx with rfl | hx
  ·exact Ah h (by decide)
  ·exact (g.free x hx).1
theorem SC.free {c:List Af}{s:Ps}(h:SC c s):∀ t∈c,see AC t=false:=by
 cases h with
 |let_ h f he g=>
  intro x hx;rcases zE.1 hx with rfl | hx
  ·exact Ah h (by decide)
  rcases zE.1 hx with rfl | hx
  ·exact AG (by omega) (by omega)
  rcases zE.1 hx with rfl | hx
  ·exact Ah he (by decide)
  ·exact (g.free x hx).1
 |when h b d a=>
  intro x hx;rcases zE.1 hx with rfl | hx
  ·exact Ah h (by decide)
  rcases zK.1 hx with hx | hx
  ·exact (b.free x hx).1
  rcases zE.1 hx with rfl | hx
  ·exact Ah d (by decide)
  ·exact a.free x hx
 |else_ h a=>
  intro x hx;rcases zE.1 hx with rfl | hx
  ·exact Ah h (by decide)
  ·exact a.free x hx
end Go.Proofs.YtchakjeegneeoaaGreatDoor
