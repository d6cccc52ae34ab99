/-
  Ints0, GA, GB, GC. Own work.
-/
import Derived.Test.YtffkofkjpckmpaaGreatDoorMXAA
import Derived.Test.YtffkofkjpckmpaaGreatDoorMXAD
import Derived.Test.YtffkofkjpckmpaaGreatDoorMXAM
import Derived.Deep.Draws
import Derived.Test.YtffkofkjpckmpaaGreatDoorMXAI
namespace Go.Proofs.YtffkofkjpckmpaaGreatDoor
set_option maxRecDepth 100000
set_option maxHeartbeats 3200000
open Go.RowKit
set_option linter.unusedVariables false
structure IP (w:World) (a:Option Addr) (n c:Nat) (L:List Int):Prop where
 len:L.length=n
 small:n≤1048576
 cells:∀ j,(h:j < L.length)→∃ b off,a=some ⟨b,off,none⟩∧b < w.heap.size∧w.cell? ⟨b,off+j,none⟩=some (.int .i64 L[j])
theorem IP.below {w w':World}{B:Nat}{a:Option Addr}{n c:Nat}{L:List Int}(h:IP w a n c L)(d:Below B w w')(l:w.heap.size≤B):IP w' a n c L:=
 ⟨h.len,h.small,fun j g=>by
  obtain ⟨b,f,i,hl,k⟩:=h.cells j g;exact ⟨b,f,i,zY hl d.size,(d.cell (p:=⟨b,f+j,none⟩) (by show b < B;omega)).trans k⟩⟩
theorem WV (a B:List Int)(hl:a.length=B.length):a=B↔∀ j,(h:j < a.length)→a[j]=B[j]'(hl ▸ h):=by
 constructor
 ·intro e j h;subst e;rfl
 ·intro h;exact List.ext_getElem hl (fun j h1 h2=>h j h1)
theorem Lw (w:World)(m:Nat):Below w.heap.size w (w.drewN m):=by
 exact ⟨(Below.refl w.heap.size w).os,(Below.refl w.heap.size w).tape,(Below.refl w.heap.size w).output,NLN,fun _ _=>rfl⟩
theorem MU {w wr:World}(h:∃ m,wr=w.drewN m):∃ m,wr.drew=w.drewN m:=by
 obtain ⟨m,rfl⟩:=h;exact ⟨m+1,rfl⟩
theorem YV (a b:Option Addr)(n c m d:Nat)(f B:List Int)(w:World)(h1:IP w a n c f)(h2:IP w b m d B):
  Calls Tryz.prog 54 #[.slice a n c,.slice b m d] w fun e w'=>e= .returned (.bool (decide (f=B)))∧∃ m,w'=w.drewN m:=by
 have R:=h1.small;have S:=h2.small;have A:=Ab h1.len;have K:=Ab h2.len;by_cases g:n=m
 ·have L:((n:Int) !=(m:Int))=false:=by rw[g];simp
  have r:=Ab (show f.length=B.length by rw[h1.len,h2.len,g]);have C:=Ab (WV f B (Aa r));have E:=Ab g;clear g;go_enter Tryz.func54,Tryz.ntmps54
  go_wp2_with fail
  go_loopw [13] (fun i wr=>∃ k:Nat,k≤n∧i= .int .i64 k∧(∃ m,wr=w.drewN m)∧∀ j,(h:j < f.length)→j < k→f[j]=B[j]'(Aa r ▸ h)) (fun i _=>n - (intOf i).toNat)
  case atStart=>exact ⟨0,by omega,rfl,⟨0,rfl⟩,fun j _ h=>absurd h (by omega)⟩
  case round=>
   obtain ⟨k,hk,rfl,s,F⟩:=hrel;have t:=Ab s;have H:Below w.heap.size w wr:=by obtain ⟨M,rfl⟩:=s;exact Lw w M
   clear s;have u:=Ab F;clear F;by_cases v:k < n
   ·have T:(k:Int) < (n:Int):=by omega
    have U:(k:Int) < (m:Int):=by have:=Aa E;omega
    have I:k < f.length:=by rw[Aa A];exact v
    have N:k < B.length:=by rw[Aa K,← Aa E];exact v
    obtain ⟨b1,V,rfl,W,c1⟩:=(h1.below H NLN).cells k I;obtain ⟨b2,X,rfl,Y,c2⟩:=(h2.below H NLN).cells k N;have o:=Ab (show f[k]≠B[k]→decide (f=B)=false from fun e=>zK (fun e'=>e ((Aa C).1 e' k I)));have p:=Ab (show f[k]=B[k]→∀ j,(h:j < f.length)→j < k+1→f[j]=B[j]'(Aa r ▸ h) from fun e j z Z=>by
     by_cases O:j=k
     ·subst O;exact e
     ·exact Aa u j z (by omega))
    have J:=Ab v;clear u;generalize f[k]=x at c1 o p;generalize B[k]=y at c2 o p;by_cases l:x=y
    ·have P:(x != y)=false:=by rw[l];simp
     have Q:=Ab (Aa p l);clear l o p;go_wp2_with fail
     go_region
     go_wp2_with fail
     go_roundw
     case rel=>exact ⟨k+1,Aa J,by go_num,MU (Aa t),Aa Q⟩
     case measure=>have:=Aa J;simp[intOf];omega
    ·have P:(x != y)=true:=zw.2 l;have q:=Ab (Aa o l);clear l o p;go_wp2_with fail
     go_region
     go_wp2_with fail
     go_ret
     exact ⟨Ah (Aa q).symm,MU (Aa t)⟩
   ·have e:k=n:=by omega
    subst e;have q:=Ab (show decide (f=B)=true from zR ((Aa C).2 (fun j z=>Aa u j z (by have:=Aa A;omega))));go_wp2
    go_ret
    exact ⟨Ah (Aa q).symm,Aa t⟩
 ·have L:((n:Int) !=(m:Int))=true:=zw.2 (by omega);have q:=Ab (show decide (f=B)=false from zK (fun e=>g (by rw[← h1.len,← h2.len,e])));clear g;go_enter Tryz.func54,Tryz.ntmps54
  go_wp2
  go_ret
  exact ⟨Ah (Aa q).symm,0,rfl⟩
theorem Uw (a b:Option Addr)(n c m d:Nat)(f B:List Int)(w:World)(h1:IP w a n c f)(h2:IP w b m d B):
  Calls Tryz.prog 54 #[.slice a n c,.slice b m d] w fun e w'=>e= .returned (.bool (decide (f=B)))∧Below w.heap.size w w':=
 (YV a b n c m d f B w h1 h2).mono fun e w' h=>⟨h.1,by obtain ⟨m,rfl⟩:=h.2;exact Lw w m⟩
def see (s:List UInt8) (t:Ae):Bool:=(decide (t.kind=4) || decide (t.kind=5)) && decide (t.text=AB s)
def AM (s:List UInt8):List Ae→Bool
 | []=>false
 |t ::_=>see s t
theorem Rl {a b:List UInt8}(h:AB a=AB b):a=b:=by
 rw[← Dg a,← Dg b,h]
theorem Ag {s s':List UInt8}{t:Ae}(h:see s t=true)(a:s≠s'):see s' t=false:=by
 rw[see,zE,zF] at h;rw[see,h.2];have:decide (AB s=AB s')=false:=zK (fun e=>a (Rl e));rw[this,Bool.and_false]
theorem GU {s:List UInt8}{t:Ae}(h:see s t=true):t.kind=4∨t.kind=5:=by
 rw[see,zE,Bool.or_eq_true,zF,zF] at h;exact h.1
theorem Mu {s:List UInt8}{t:Ae}(h:see s t=true):t.text=AB s:=by
 rw[see,zE,zF] at h;exact h.2
def Dq:List UInt8:= [108,101,116]
def Bf:List UInt8:= [119,104,101,110]
def AK:List UInt8:= [101,108,115,101]
def FE:List UInt8:= [100,101,110,121]
def BA:List UInt8:= [103,114,97,110,116]
def DO:List UInt8:= [105,102]
def BE:List UInt8:= [116,104,101,110]
def DT:List UInt8:= [110,111,116]
def Rm:List UInt8:= [97,110,100]
def kOr:List UInt8:= [111,114]
def kIn:List UInt8:= [105,110]
def Aan:List UInt8:= [119,105,116,104,105,110]
def Cb:List UInt8:= [115,105,122,101]
def BS:List UInt8:= [116,114,117,101]
def Bl:List UInt8:= [102,97,108,115,101]
def Br:List UInt8:= [61,62]
def QW:List UInt8:= [61]
def AG:List UInt8:= [59]
def Bd:List UInt8:= [45]
def AH:List UInt8:= [40]
def AS:List UInt8:= [41]
def Ch:List UInt8:= [123]
def Bp:List UInt8:= [125]
def Dy:List UInt8:= [44]
def BR:Nat→List (List UInt8 × Int)
 | 1=> [(kOr,26)]
 | 2=> [(Rm,25)]
 | 4=> [([61,61],19),([33,61],20),([60],21),([60,61],22),(kIn,23),(Aan,24)]
 | 5=> [([43],11),(Bd,12),([124],16),([92],18)]
 | 6=> [([42],13),([47],14),([37],15),([38],17)]
 |_=> []
def BZ (k:Nat) (t:Ae):Option Int:=((BR k).find? (fun p=>see p.1 t)).map Prod.snd
def PQ (k:Nat):List Ae→Option Int
 | []=>none
 |t ::_=>BZ k t
theorem Eu {k:Nat}{t:Ae}{op:Int}(h:BZ k t=some op):∃ s,(s,op)∈BR k∧see s t=true:=by
 rw[BZ,Option.map_eq_some_iff] at h;obtain ⟨⟨s,a⟩,h1,h2⟩:=h;have h3:=List.mem_of_find?_eq_some h1;have h4:=List.find?_some h1;exact ⟨s,by rw[← h2];exact h3,h4⟩
inductive Pt where
 |int (i:Nat) (n:Int)
 |text (i:Nat) (s:ByteArray)
 |bool (i:Nat) (b:Bool)
 |set (i:Nat) (ss:List ByteArray)
 |name (i:Nat) (s:ByteArray)
 |un (i:Nat) (op:Int) (k:Pt)
 |bin (i:Nat) (op:Int) (l r:Pt)
 |ite (i:Nat) (c t e:Pt)
def FU (t:Ae):Prop:=t.kind=2∧t.text≠AB []
instance (t:Ae):Decidable (FU t):=inferInstanceAs (Decidable (_∧_))
def GO:List Ae→List ByteArray→List ByteArray × Bool × List Ae
 | [],a=>(a,false, [])
 | [t],a=>if FU t then (a ++ [t.text],true, []) else (a,false, [t])
 |t ::c ::q,a=>if FU t then (if see Dy c then GO q (a ++ [t.text]) else (a ++ [t.text],true,c ::q)) else (a,false,t ::c ::q)
def Ga (ts:List Ae):List ByteArray × Bool × List Ae:=if AM Bp ts then ([],true,ts) else GO ts []
inductive PR where
 |ok (e:Pt) (r:List Ae)
 |bad (r:List Ae)
def PR.rest:PR→List Ae
 | .ok _ r=>r
 | .bad r=>r
inductive NT where
 |expr
 |chain (k:Nat)
 |more (k:Nat) (e:Pt)
 |opd (k:Nat)
 |neg
 |cmp
 |una
 |prim
 |encl
 |beh (s:List UInt8)
inductive D:NT→List Ae→PR→Prop
 |beh_no {s:List UInt8} {ts:List Ae} (h:AM s ts=false):D (.beh s) ts (.bad ts)
 |beh {s:List UInt8} {t:Ae} {r:List Ae} {x:PR} (h:see s t=true) (d:D .expr r x):D (.beh s) (t ::r) x
 |expr_no {ts:List Ae} {x:PR} (h:AM DO ts=false) (d:D (.chain 1) ts x):D .expr ts x
 |expr_if1 {t:Ae} {r q:List Ae} (h:see DO t=true) (d1:D (.beh DO) (t ::r) (.bad q)):D .expr (t ::r) (.bad q)
 |expr_if2 {t:Ae} {r q p:List Ae} {a:Pt} (h:see DO t=true) (d1:D (.beh DO) (t ::r) (.ok a q)) (d2:D (.beh BE) q (.bad p)):D .expr (t ::r) (.bad p)
 |expr_if3 {t:Ae} {r q p o:List Ae} {a b:Pt} (h:see DO t=true) (d1:D (.beh DO) (t ::r) (.ok a q)) (d2:D (.beh BE) q (.ok b p)) (d3:D (.beh AK) p (.bad o)):D .expr (t ::r) (.bad o)
 |expr_if {t:Ae} {r q p o:List Ae} {a b c:Pt} (h:see DO t=true) (d1:D (.beh DO) (t ::r) (.ok a q)) (d2:D (.beh BE) q (.ok b p)) (d3:D (.beh AK) p (.ok c o)):D .expr (t ::r) (.ok (.ite t.at_ a b c) o)
 |chain_bad {k:Nat} {ts r:List Ae} (d:D (.opd k) ts (.bad r)):D (.chain k) ts (.bad r)
 |chain {k:Nat} {ts r:List Ae} {e:Pt} {x:PR} (d:D (.opd k) ts (.ok e r)) (d2:D (.more k e) r x):D (.chain k) ts x
 |more_no {k:Nat} {e:Pt} {ts:List Ae} (h:PQ k ts=none):D (.more k e) ts (.ok e ts)
 |more_bad {k:Nat} {e:Pt} {t:Ae} {r q:List Ae} {op:Int} (h:BZ k t=some op) (d:D (.opd k) r (.bad q)):D (.more k e) (t ::r) (.bad q)
 |more {k:Nat} {e f:Pt} {t:Ae} {r q:List Ae} {op:Int} {x:PR} (h:BZ k t=some op) (d:D (.opd k) r (.ok f q)) (d2:D (.more k (.bin t.at_ op e f)) q x):D (.more k e) (t ::r) x
 |opd1 {ts:List Ae} {x:PR} (d:D (.chain 2) ts x):D (.opd 1) ts x
 |opd2 {ts:List Ae} {x:PR} (d:D .neg ts x):D (.opd 2) ts x
 |opd4 {ts:List Ae} {x:PR} (d:D (.chain 5) ts x):D (.opd 4) ts x
 |opd5 {ts:List Ae} {x:PR} (d:D (.chain 6) ts x):D (.opd 5) ts x
 |opd6 {ts:List Ae} {x:PR} (d:D .una ts x):D (.opd 6) ts x
 |neg_no {ts:List Ae} {x:PR} (h:AM DT ts=false) (d:D .cmp ts x):D .neg ts x
 |neg_bad {t:Ae} {r q:List Ae} (h:see DT t=true) (d:D .neg r (.bad q)):D .neg (t ::r) (.bad q)
 |neg {t:Ae} {r q:List Ae} {e:Pt} (h:see DT t=true) (d:D .neg r (.ok e q)):D .neg (t ::r) (.ok (.un t.at_ 9 e) q)
 |cmp_bad {ts r:List Ae} (d:D (.opd 4) ts (.bad r)):D .cmp ts (.bad r)
 |cmp_one {ts r:List Ae} {e:Pt} (d:D (.opd 4) ts (.ok e r)) (h:PQ 4 r=none):D .cmp ts (.ok e r)
 |cmp_two_bad {ts r q:List Ae} {e:Pt} {t:Ae} {op:Int} (d:D (.opd 4) ts (.ok e (t ::r))) (h:BZ 4 t=some op) (d2:D (.opd 4) r (.bad q)):D .cmp ts (.bad q)
 |cmp_two {ts r q:List Ae} {e f:Pt} {t:Ae} {op:Int} (d:D (.opd 4) ts (.ok e (t ::r))) (h:BZ 4 t=some op) (d2:D (.opd 4) r (.ok f q)):D .cmp ts (.ok (.bin t.at_ op e f) q)
 |una_no {ts:List Ae} {x:PR} (h:AM Bd ts=false) (d:D .prim ts x):D .una ts x
 |una_bad {t:Ae} {r q:List Ae} (h:see Bd t=true) (d:D .una r (.bad q)):D .una (t ::r) (.bad q)
 |una {t:Ae} {r q:List Ae} {e:Pt} (h:see Bd t=true) (d:D .una r (.ok e q)):D .una (t ::r) (.ok (.un t.at_ 8 e) q)
 |num {t:Ae} {r:List Ae} (h:t.kind=1):D .prim (t ::r) (.ok (.int t.at_ t.num) r)
 |text {t:Ae} {r:List Ae} (h:t.kind=2):D .prim (t ::r) (.ok (.text t.at_ t.text) r)
 |name {t:Ae} {r:List Ae} (h:t.kind=3):D .prim (t ::r) (.ok (.name t.at_ t.text) r)
 |tru {t:Ae} {r:List Ae} (h:see BS t=true):D .prim (t ::r) (.ok (.bool t.at_ true) r)
 |fls {t:Ae} {r:List Ae} (h:see Bl t=true):D .prim (t ::r) (.ok (.bool t.at_ false) r)
 |size_bad {t:Ae} {r q:List Ae} (h:see Cb t=true) (d:D .encl r (.bad q)):D .prim (t ::r) (.bad q)
 |size {t:Ae} {r q:List Ae} {e:Pt} (h:see Cb t=true) (d:D .encl r (.ok e q)):D .prim (t ::r) (.ok (.un t.at_ 10 e) q)
 |par {t:Ae} {r:List Ae} {x:PR} (h:see AH t=true) (d:D .encl (t ::r) x):D .prim (t ::r) x
 |set_bad {t:Ae} {r q:List Ae} {ss:List ByteArray} (h:see Ch t=true) (hs:Ga r=(ss,false,q)):D .prim (t ::r) (.bad q)
 |set_end {t:Ae} {r q:List Ae} {ss:List ByteArray} (h:see Ch t=true) (hs:Ga r=(ss,true,q)) (hq:AM Bp q=false):D .prim (t ::r) (.bad q)
 |set {t u:Ae} {r q:List Ae} {ss:List ByteArray} (h:see Ch t=true) (hs:Ga r=(ss,true,u ::q)) (hq:see Bp u=true):D .prim (t ::r) (.ok (.set t.at_ ss) q)
 |prim_nil:D .prim [] (.bad [])
 |prim_no {t:Ae} {r:List Ae} (h1:t.kind≠1) (h2:t.kind≠2) (h3:t.kind≠3) (h4:see BS t=false) (h5:see Bl t=false) (h6:see Cb t=false) (h7:see AH t=false) (h8:see Ch t=false):D .prim (t ::r) (.bad (t ::r))
 |encl_bad {ts r:List Ae} (d:D (.beh AH) ts (.bad r)):D .encl ts (.bad r)
 |encl_end {ts r:List Ae} {e:Pt} (d:D (.beh AH) ts (.ok e r)) (h:AM AS r=false):D .encl ts (.bad r)
 |encl {ts r:List Ae} {e:Pt} {t:Ae} (d:D (.beh AH) ts (.ok e (t ::r))) (h:see AS t=true):D .encl ts (.ok e r)
theorem Vy:∀ (ts:List Ae) (a:List ByteArray),∃ c,ts=c ++(GO ts a).2.2
 | [],a=>⟨[],by simp[GO]⟩
 | [t],a=>by
  rw[GO];split
  ·exact ⟨[t],rfl⟩
  ·exact ⟨[],rfl⟩
 |t ::c ::q,a=>by
  rw[GO];split
  ·split
   ·obtain ⟨d,b⟩:=Vy q (a ++ [t.text]);exact ⟨t ::c ::d,by rw[List.cons_append,List.cons_append,← b]⟩
   ·exact ⟨[t],rfl⟩
  ·exact ⟨[],rfl⟩
theorem Jz (ts:List Ae):∃ c,ts=c ++(Ga ts).2.2:=by
 rw[Ga];split
 ·exact ⟨[],rfl⟩
 ·exact Vy ts []
def NT.slow:NT→Bool
 | .more _ _=>true
 |_=>false
theorem D.suf {nt:NT}{ts:List Ae}{x:PR}(h:D nt ts x):∃ c,ts=c ++x.rest∧(∀ e r,x= .ok e r→nt.slow=false→c≠ []):=by
 induction h with
 |beh_no=>exact ⟨[],rfl,fun e r h=>by cases h⟩
 |@beh s t r x h d a=>obtain ⟨c,hc,_⟩:=a;exact ⟨t ::c,by rw[List.cons_append,← hc],fun _ _ _ _=>by simp⟩
 |expr_no h d a=>obtain ⟨c,hc,h2⟩:=a;exact ⟨c,hc,fun e r h3 _=>h2 e r h3 rfl⟩
 |expr_if1 h d a=>obtain ⟨c,hc,_⟩:=a;exact ⟨c,hc,fun _ _ h=>by cases h⟩
 |expr_if2 h d1 d2 g i=>obtain ⟨c,hc,_⟩:=g;obtain ⟨d,j,_⟩:=i;exact ⟨c ++d,by rw[zC,← j];exact hc,fun _ _ h=>by cases h⟩
 |expr_if3 h d1 d2 d3 g i l=>obtain ⟨c,hc,_⟩:=g;obtain ⟨d,j,_⟩:=i;obtain ⟨e,he,_⟩:=l;dsimp only[PR.rest] at *;exact ⟨c ++(d ++e),by rw[zC,zC,← he,← j];exact hc,fun _ _ h=>by cases h⟩
 |expr_if h d1 d2 d3 g i l=>obtain ⟨c,hc,m⟩:=g;obtain ⟨d,j,_⟩:=i;obtain ⟨e,he,_⟩:=l;dsimp only[PR.rest] at *;exact ⟨c ++(d ++e),by rw[zC,zC,← he,← j];exact hc,fun _ _ _ _ h=>m _ _ rfl rfl (List.append_eq_nil_iff.1 h).1⟩
 |chain_bad d a=>obtain ⟨c,hc,_⟩:=a;exact ⟨c,hc,fun _ _ h=>by cases h⟩
 |chain d d2 g i=>obtain ⟨c,hc,m⟩:=g;obtain ⟨d,j,_⟩:=i;exact ⟨c ++d,by rw[zC,← j];exact hc,fun _ _ _ _ h=>m _ _ rfl rfl (List.append_eq_nil_iff.1 h).1⟩
 |more_no=>exact ⟨[],rfl,fun _ _ _ h=>by cases h⟩
 |@more_bad k e t r q op h d a=>obtain ⟨c,hc,_⟩:=a;exact ⟨t ::c,by rw[List.cons_append,← hc],fun _ _ h=>by cases h⟩
 |@more k e f t r q op x h d d2 g i=>obtain ⟨c,hc,_⟩:=g;obtain ⟨d,j,_⟩:=i;exact ⟨t ::(c ++d),by rw[List.cons_append,zC,← j];exact congrArg _ hc,fun _ _ _ h=>by cases h⟩
 |opd1 d a=>obtain ⟨c,hc,h2⟩:=a;exact ⟨c,hc,fun e r h3 _=>h2 e r h3 rfl⟩
 |opd2 d a=>obtain ⟨c,hc,h2⟩:=a;exact ⟨c,hc,fun e r h3 _=>h2 e r h3 rfl⟩
 |opd4 d a=>obtain ⟨c,hc,h2⟩:=a;exact ⟨c,hc,fun e r h3 _=>h2 e r h3 rfl⟩
 |opd5 d a=>obtain ⟨c,hc,h2⟩:=a;exact ⟨c,hc,fun e r h3 _=>h2 e r h3 rfl⟩
 |opd6 d a=>obtain ⟨c,hc,h2⟩:=a;exact ⟨c,hc,fun e r h3 _=>h2 e r h3 rfl⟩
 |neg_no h d a=>obtain ⟨c,hc,h2⟩:=a;exact ⟨c,hc,fun e r h3 _=>h2 e r h3 rfl⟩
 |@neg_bad t r q h d a=>obtain ⟨c,hc,_⟩:=a;exact ⟨t ::c,by rw[List.cons_append,← hc],fun _ _ h=>by cases h⟩
 |@neg t r q e h d a=>obtain ⟨c,hc,_⟩:=a;exact ⟨t ::c,by rw[List.cons_append];exact congrArg _ hc,fun _ _ _ _=>by simp⟩
 |cmp_bad d a=>obtain ⟨c,hc,_⟩:=a;exact ⟨c,hc,fun _ _ h=>by cases h⟩
 |cmp_one d h a=>obtain ⟨c,hc,h2⟩:=a;exact ⟨c,hc,fun _ _ _ _=>h2 _ _ rfl rfl⟩
 |@cmp_two_bad ts r q e t op d h d2 g i=>obtain ⟨c,hc,_⟩:=g;obtain ⟨b,n,_⟩:=i;exact ⟨c ++t ::b,by rw[zC,List.cons_append,← n];exact hc,fun _ _ h=>by cases h⟩
 |@cmp_two ts r q e f t op d h d2 g i=>obtain ⟨c,hc,_⟩:=g;obtain ⟨b,n,_⟩:=i;exact ⟨c ++t ::b,by rw[zC,List.cons_append];exact hc.trans (by rw[show r=b ++_ from n];rfl),fun _ _ _ _ h=>by simp at h⟩
 |una_no h d a=>obtain ⟨c,hc,h2⟩:=a;exact ⟨c,hc,fun e r h3 _=>h2 e r h3 rfl⟩
 |@una_bad t r q h d a=>obtain ⟨c,hc,_⟩:=a;exact ⟨t ::c,by rw[List.cons_append,← hc],fun _ _ h=>by cases h⟩
 |@una t r q e h d a=>obtain ⟨c,hc,_⟩:=a;exact ⟨t ::c,by rw[List.cons_append];exact congrArg _ hc,fun _ _ _ _=>by simp⟩
 |@num t r h=>exact ⟨[t],rfl,fun _ _ _ _=>by simp⟩
 |@text t r h=>exact ⟨[t],rfl,fun _ _ _ _=>by simp⟩
 |@name t r h=>exact ⟨[t],rfl,fun _ _ _ _=>by simp⟩
 |@tru t r h=>exact ⟨[t],rfl,fun _ _ _ _=>by simp⟩
 |@fls t r h=>exact ⟨[t],rfl,fun _ _ _ _=>by simp⟩
 |@size_bad t r q h d a=>obtain ⟨c,hc,_⟩:=a;exact ⟨t ::c,by rw[List.cons_append,← hc],fun _ _ h=>by cases h⟩
 |@size t r q e h d a=>obtain ⟨c,hc,_⟩:=a;exact ⟨t ::c,by rw[List.cons_append];exact congrArg _ hc,fun _ _ _ _=>by simp⟩
 |par h d a=>obtain ⟨c,hc,h2⟩:=a;exact ⟨c,hc,fun e r h3 _=>h2 e r h3 rfl⟩
 |@set_bad t r q o h hs=>obtain ⟨c,hc⟩:=Jz r;rw[hs] at hc;exact ⟨t ::c,by rw[List.cons_append];exact congrArg _ hc,fun _ _ h=>by cases h⟩
 |@set_end t r q o h hs hq=>obtain ⟨c,hc⟩:=Jz r;rw[hs] at hc;exact ⟨t ::c,by rw[List.cons_append];exact congrArg _ hc,fun _ _ h=>by cases h⟩
 |@set t u r q o h hs hq=>obtain ⟨c,hc⟩:=Jz r;rw[hs] at hc;exact ⟨t ::(c ++ [u]),by rw[List.cons_append,zC];exact congrArg _ hc,fun _ _ _ _=>by simp⟩
 |prim_nil=>exact ⟨[],rfl,fun _ _ h=>by cases h⟩
 |prim_no=>exact ⟨[],rfl,fun _ _ h=>by cases h⟩
 |encl_bad d a=>obtain ⟨c,hc,_⟩:=a;exact ⟨c,hc,fun _ _ h=>by cases h⟩
 |encl_end d h a=>obtain ⟨c,hc,_⟩:=a;exact ⟨c,hc,fun _ _ h=>by cases h⟩
 |@encl ts r e t d h a=>obtain ⟨c,hc,_⟩:=a;exact ⟨c ++ [t],by rw[zC];exact hc,fun _ _ _ _=>by simp⟩
theorem D.len {nt:NT}{ts:List Ae}{x:PR}(h:D nt ts x):x.rest.length≤ts.length:=by
 obtain ⟨c,hc,_⟩:=h.suf;rw[hc,zB];omega
theorem D.less {nt:NT}{ts r:List Ae}{e:Pt}(h:D nt ts (.ok e r))(hs:nt.slow=false):r.length < ts.length:=by
 obtain ⟨c,hc,a⟩:=h.suf;have h1:=a e r rfl hs;have h2: 0 < c.length:=List.length_pos_iff.2 h1;rw[hc,zB,PR.rest];omega
def NT.rank:NT→Nat
 | .beh _=>0 | .encl=>1 | .prim=>2 | .una=>3
 | .opd k=>if k=6 then 4 else if k=5 then 6 else if k=4 then 8 else if k=2 then 11 else 13
 | .chain k=>if k=6 then 5 else if k=5 then 7 else if k=2 then 12 else 14
 | .cmp=>9 | .neg=>10 | .expr=>15 | .more .. =>16
def NT.good:NT→Prop
 | .opd k=>k=1∨k=2∨k=4∨k=5∨k=6
 | .chain k=>k=1∨k=2∨k=5∨k=6
 | .more k _=>k=1∨k=2∨k=5∨k=6
 |_=>True
theorem D.total:∀ (n:Nat) (nt:NT) (ts:List Ae),nt.good→ts.length * 17+nt.rank≤n→∃ x,D nt ts x:=by
 intro n
 induction n with
 |zero=>
  intro nt ts i hm;cases nt with
  |beh s=>cases ts with
   |nil=>exact ⟨_,.beh_no rfl⟩
   |cons t r=>simp at hm
  |opd k=>exfalso;revert hm;simp only[NT.rank];split <;> (try split) <;> (try split) <;> (try split) <;> omega
  |chain k=>exfalso;revert hm;simp only[NT.rank];split <;> (try split) <;> (try split) <;> omega
  |_=>simp[NT.rank] at hm
 |succ n g=>
  intro nt ts i hm;cases nt with
  |beh s=>
   cases ts with
   |nil=>exact ⟨_,.beh_no rfl⟩
   |cons t r=>
    cases h:see s t
    ·exact ⟨_,.beh_no h⟩
    ·obtain ⟨x,d⟩:=g .expr r trivial (by simp[NT.rank] at hm ⊢;omega);exact ⟨x,.beh h d⟩
  |expr=>
   cases h:AM DO ts
   ·obtain ⟨x,d⟩:=g (.chain 1) ts (.inl rfl) (by simp[NT.rank] at hm ⊢;omega);exact ⟨x,.expr_no h d⟩
   ·cases ts with
    |nil=>cases h
    |cons t r=>
     have l:see DO t=true:=h;obtain ⟨x,d⟩:=g (.beh DO) (t ::r) trivial (by simp[NT.rank] at hm ⊢;omega);cases x with
     |bad q=>exact ⟨_,.expr_if1 l d⟩
     |ok a q=>
      have j:=d.less rfl;obtain ⟨y,d2⟩:=g (.beh BE) q trivial (by simp[NT.rank] at hm j ⊢;omega);cases y with
      |bad p=>exact ⟨_,.expr_if2 l d d2⟩
      |ok b p=>
       have w:=d2.less rfl;obtain ⟨m,d3⟩:=g (.beh AK) p trivial (by simp[NT.rank] at hm j ⊢;omega);cases m with
       |bad o=>exact ⟨_,.expr_if3 l d d2 d3⟩
       |ok c o=>exact ⟨_,.expr_if l d d2 d3⟩
  |chain k=>
   have hk:(k=1∨k=2∨k=4∨k=5∨k=6):=by simp[NT.good] at i;omega
   have v:(NT.opd k).rank+1=(NT.chain k).rank:=by simp[NT.good] at i;rcases i with rfl | rfl | rfl | rfl <;> rfl
   obtain ⟨x,d⟩:=g (.opd k) ts hk (by omega);cases x with
   |bad q=>exact ⟨_,.chain_bad d⟩
   |ok e q=>
    have j:=d.less rfl;obtain ⟨y,d2⟩:=g (.more k e) q i (by simp only[NT.rank] at hm j ⊢;omega);exact ⟨y,.chain d d2⟩
  |more k e=>
   have hk:(k=1∨k=2∨k=4∨k=5∨k=6):=by simp[NT.good] at i;omega
   cases h:PQ k ts with
   |none=>exact ⟨_,.more_no h⟩
   |some op=>
    cases ts with
    |nil=>cases h
    |cons t r=>
     have v:(NT.opd k).rank≤13:=by simp only[NT.rank];split <;> (try split) <;> (try split) <;> (try split) <;> omega
     have z:(r.length+1) * 17+16≤n+1:=by simpa[NT.rank] using hm
     obtain ⟨x,d⟩:=g (.opd k) r hk (by omega);cases x with
     |bad q=>exact ⟨_,.more_bad h d⟩
     |ok f q=>
      have j:=d.less rfl;obtain ⟨y,d2⟩:=g (.more k (.bin t.at_ op e f)) q i (by simp only[NT.rank];omega);exact ⟨y,.more h d d2⟩
  |opd k=>
   simp only[NT.good] at i;rcases i with rfl | rfl | rfl | rfl | rfl
   ·obtain ⟨x,d⟩:=g (.chain 2) ts (.inr (.inl rfl)) (by simp[NT.rank] at hm ⊢;omega);exact ⟨x,.opd1 d⟩
   ·obtain ⟨x,d⟩:=g .neg ts trivial (by simp[NT.rank] at hm ⊢;omega);exact ⟨x,.opd2 d⟩
   ·obtain ⟨x,d⟩:=g (.chain 5) ts (.inr (.inr (.inl rfl))) (by simp[NT.rank] at hm ⊢;omega);exact ⟨x,.opd4 d⟩
   ·obtain ⟨x,d⟩:=g (.chain 6) ts (.inr (.inr (.inr rfl))) (by simp[NT.rank] at hm ⊢;omega);exact ⟨x,.opd5 d⟩
   ·obtain ⟨x,d⟩:=g .una ts trivial (by simp[NT.rank] at hm ⊢;omega);exact ⟨x,.opd6 d⟩
  |neg=>
   cases h:AM DT ts
   ·obtain ⟨x,d⟩:=g .cmp ts trivial (by simp[NT.rank] at hm ⊢;omega);exact ⟨x,.neg_no h d⟩
   ·cases ts with
    |nil=>cases h
    |cons t r=>
     obtain ⟨x,d⟩:=g .neg r trivial (by simp[NT.rank] at hm ⊢;omega);cases x with
     |bad q=>exact ⟨_,.neg_bad h d⟩
     |ok e q=>exact ⟨_,.neg h d⟩
  |cmp=>
   obtain ⟨x,d⟩:=g (.opd 4) ts (.inr (.inr (.inl rfl))) (by simp[NT.rank] at hm ⊢;omega);cases x with
   |bad q=>exact ⟨_,.cmp_bad d⟩
   |ok e q=>
    have j:=d.less rfl;cases h:PQ 4 q with
    |none=>exact ⟨_,.cmp_one d h⟩
    |some op=>
     cases q with
     |nil=>cases h
     |cons t r=>
      obtain ⟨y,d2⟩:=g (.opd 4) r (.inr (.inr (.inl rfl))) (by simp[NT.rank] at hm j ⊢;omega);cases y with
      |bad q=>exact ⟨_,.cmp_two_bad d h d2⟩
      |ok f q=>exact ⟨_,.cmp_two d h d2⟩
  |una=>
   cases h:AM Bd ts
   ·obtain ⟨x,d⟩:=g .prim ts trivial (by simp[NT.rank] at hm ⊢;omega);exact ⟨x,.una_no h d⟩
   ·cases ts with
    |nil=>cases h
    |cons t r=>
     obtain ⟨x,d⟩:=g .una r trivial (by simp[NT.rank] at hm ⊢;omega);cases x with
     |bad q=>exact ⟨_,.una_bad h d⟩
     |ok e q=>exact ⟨_,.una h d⟩
  |prim=>
   cases ts with
   |nil=>exact ⟨_,.prim_nil⟩
   |cons t r=>
    by_cases h1:t.kind=1
    ·exact ⟨_,.num h1⟩
    by_cases h2:t.kind=2
    ·exact ⟨_,.text h2⟩
    by_cases h3:t.kind=3
    ·exact ⟨_,.name h3⟩
    cases h4:see BS t
    case true=>exact ⟨_,.tru h4⟩
    cases h5:see Bl t
    case true=>exact ⟨_,.fls h5⟩
    cases h6:see Cb t
    case true=>
     obtain ⟨x,d⟩:=g .encl r trivial (by simp[NT.rank] at hm ⊢;omega);cases x with
     |bad q=>exact ⟨_,.size_bad h6 d⟩
     |ok e q=>exact ⟨_,.size h6 d⟩
    cases h7:see AH t
    case true=>
     obtain ⟨x,d⟩:=g .encl (t ::r) trivial (by simp[NT.rank] at hm ⊢;omega);exact ⟨x,.par h7 d⟩
    cases h8:see Ch t
    case true=>
     rcases hs:Ga r with ⟨A,b,q⟩
     cases b
     ·exact ⟨_,.set_bad h8 hs⟩
     ·cases hq:AM Bp q
      ·exact ⟨_,.set_end h8 hs hq⟩
      ·cases q with
       |nil=>cases hq
       |cons u q=>exact ⟨_,.set h8 hs hq⟩
    exact ⟨_,.prim_no h1 h2 h3 h4 h5 h6 h7 h8⟩
  |encl=>
   obtain ⟨x,d⟩:=g (.beh AH) ts trivial (by simp[NT.rank] at hm ⊢;omega);cases x with
   |bad q=>exact ⟨_,.encl_bad d⟩
   |ok e q=>
    cases h:AM AS q
    ·exact ⟨_,.encl_end d h⟩
    ·cases q with
     |nil=>cases h
     |cons t r=>exact ⟨_,.encl d h⟩
def N8:List UInt8:= [78,85,77]
def Fe:List UInt8:= [84,69,88,84]
def Ew:List UInt8:= [78,65,77,69]
def tk (t:Ae):List UInt8:=if t.kind=1 then N8 else if t.kind=2 then Fe else if t.kind=3 then Ew else Aj t.text
def Km:List Ae→List UInt8
 | []=> []
 |t ::_=>tk t
def Cq:List (List UInt8):=Ff ++BQ ++CZ.map (fun c=> [c])
def BM (t:Ae):Prop:=t.kind=1∨t.kind=2∨t.kind=3∨((t.kind=4∨t.kind=5)∧Aj t.text∈Cq)
theorem JA {t:Ae}{s:List UInt8}(h:BM t)(hs:s∈Cq):see s t=decide (tk t=s):=by
 have b:N8≠s:=fun e=>by rw[← e] at hs;revert hs;decide
 have c:Fe≠s:=fun e=>by rw[← e] at hs;revert hs;decide
 have d:Ew≠s:=fun e=>by rw[← e] at hs;revert hs;decide
 rcases h with h | h | h | ⟨h,f⟩
 ·simp[see,tk,h,b]
 ·simp[see,tk,h,c]
 ·simp[see,tk,h,d]
 ·have e:decide (t.text=AB s)=decide (Aj t.text=s):=by
   by_cases a:Aj t.text=s
   ·rw[zR a,zR];rw[← a,Bn]
   ·rw[zK a,zK];intro e;exact a (by rw[e,Dg])
  rcases h with h | h <;> simp[see,tk,h,e]
theorem Rn {ts:List Ae}{s:List UInt8}(h:∀ t∈ts,BM t)(hs:s∈Cq):AM s ts=decide (Km ts=s):=by
 cases ts with
 |nil=>
  have:Km []≠s:=fun e=>by rw[← e] at hs;revert hs;decide
  rw[zK this];rfl
 |cons t r=>exact JA (h t (zQ ..)) hs
inductive Sy where
 |policy | decision | expr | orMore | and_ | andMore | not_ | compared | sum | sumMore | term | termMore | unary | primary | scopes | scopesMore
 |scope
 |t (s:List UInt8)
def A9 (k:Nat):List (List UInt8):=(BR k).map Prod.fst
def An (x:Sy) (t:List UInt8):Option (List Sy):=match x with
 | .policy=>if t=Dq then some [.t Dq,.t Ew,.t QW,.expr,.t AG,.policy] else if t=Bf then some [.t Bf,.expr,.t Br,.decision,.t AG,.policy] else some [.t AK,.decision,.t AG]
 | .decision=>if t=BA then some [.t BA,.expr] else some [.t FE]
 | .expr=>if t=DO then some [.t DO,.expr,.t BE,.expr,.t AK,.expr] else some [.and_,.orMore]
 | .orMore=>if t=kOr then some [.t kOr,.and_,.orMore] else some []
 | .and_=>some [.not_,.andMore]
 | .andMore=>if t=Rm then some [.t Rm,.not_,.andMore] else some []
 | .not_=>if t=DT then some [.t DT,.not_] else some [.sum,.compared]
 | .compared=>if t∈A9 4 then some [.t t,.sum] else some []
 | .sum=>some [.term,.sumMore]
 | .sumMore=>if t∈A9 5 then some [.t t,.term,.sumMore] else some []
 | .term=>some [.unary,.termMore]
 | .termMore=>if t∈A9 6 then some [.t t,.unary,.termMore] else some []
 | .unary=>if t=Bd then some [.t Bd,.unary] else some [.primary]
 | .primary=>if t=AH then some [.t AH,.expr,.t AS] else if t=Cb then some [.t Cb,.t AH,.expr,.t AS] else if t=Ch then some [.t Ch,.scopes] else if t=Fe∨t=Ew∨t=BS∨t=Bl then some [.t t] else some [.t N8]
 | .scopes=>if t=Bp then some [.t Bp] else some [.scope,.scopesMore]
 | .scopesMore=>if t=Dy then some [.t Dy,.scope,.scopesMore] else some [.t Bp]
 | .scope=>none
 | .t _=>none
inductive Mv:Nat→List Sy→List Ae→Option (List Ae)→Prop
 |fin:Mv 0 [] [] none
 |over {t:Ae} {r:List Ae} :Mv 0 [] (t ::r) (some (t ::r))
 |exp {n:Nat} {x:Sy} {m st:List Sy} {ts:List Ae} {res:Option (List Ae)} (h:An x (Km ts)=some m) (d:Mv n (m ++st) ts res):Mv (n+1) (x ::st) ts res
 |scope {n:Nat} {st:List Sy} {t:Ae} {r:List Ae} {res:Option (List Ae)} (h:FU t) (d:Mv n st r res):Mv (n+1) (.scope ::st) (t ::r) res
 |scope_nil {st:List Sy} :Mv 1 (.scope ::st) [] (some [])
 |scope_no {st:List Sy} {t:Ae} {r:List Ae} (h: ¬ FU t):Mv 1 (.scope ::st) (t ::r) (some (t ::r))
 |term {n:Nat} {s:List UInt8} {st:List Sy} {t:Ae} {r:List Ae} {res:Option (List Ae)} (h:tk t=s) (d:Mv n st r res):Mv (n+1) (.t s ::st) (t ::r) res
 |term_nil {s:List UInt8} {st:List Sy} :Mv 1 (.t s ::st) [] (some [])
 |term_no {s:List UInt8} {st:List Sy} {t:Ae} {r:List Ae} (h:tk t≠s):Mv 1 (.t s ::st) (t ::r) (some (t ::r))
def Ru (st:List Sy) (ts:List Ae) (res:Option (List Ae)):Prop:=∃ n,Mv n st ts res
theorem Ru.exp {x:Sy}{m st:List Sy}{ts:List Ae}{a:Option (List Ae)}(h:An x (Km ts)=some m)(d:Ru (m ++st) ts a):Ru (x ::st) ts a:=by
 obtain ⟨n,d⟩:=d;exact ⟨n+1,.exp h d⟩
theorem Ru.scope {st:List Sy}{t:Ae}{r:List Ae}{a:Option (List Ae)}(h:FU t)(d:Ru st r a):Ru (.scope ::st) (t ::r) a:=by
 obtain ⟨n,d⟩:=d;exact ⟨n+1,.scope h d⟩
theorem Ru.term {s:List UInt8}{st:List Sy}{t:Ae}{r:List Ae}{a:Option (List Ae)}(h:tk t=s)(d:Ru st r a):Ru (.t s ::st) (t ::r) a:=by
 obtain ⟨n,d⟩:=d;exact ⟨n+1,.term h d⟩
theorem Ru.term_no {s:List UInt8}{st:List Sy}{ts:List Ae}(h:Km ts≠s):Ru (.t s ::st) ts (some ts):=by
 cases ts with
 |nil=>exact ⟨1,.term_nil⟩
 |cons t r=>exact ⟨1,.term_no h⟩
def PR.aft (x:PR) (st:List Sy) (res:Option (List Ae)):Prop:=match x with
 | .ok _ r=>Ru st r res
 | .bad r=>res=some r
def NT.sym:NT→List Sy
 | .expr=> [.expr]
 | .chain k=>if k=1 then [.and_,.orMore] else if k=2 then [.not_,.andMore] else if k=5 then [.term,.sumMore] else [.unary,.termMore]
 | .more k _=>if k=1 then [.orMore] else if k=2 then [.andMore] else if k=5 then [.sumMore] else [.termMore]
 | .opd k=>if k=1 then [.and_] else if k=2 then [.not_] else if k=4 then [.sum] else if k=5 then [.term] else [.unary]
 | .neg=> [.not_]
 | .cmp=> [.sum,.compared]
 | .una=> [.unary]
 | .prim=> [.primary]
 | .encl=> [.t AH,.expr,.t AS]
 | .beh s=> [.t s,.expr]
def NT.fair:NT→Prop
 | .beh s=>s∈Cq
 |n=>n.good
theorem JB {k:Nat}{s:List UInt8}(h:s∈A9 k):s∈Cq:=by
 have a1:∀ s∈A9 1,s∈Cq:=by decide
 have a2:∀ s∈A9 2,s∈Cq:=by decide
 have a4:∀ s∈A9 4,s∈Cq:=by decide
 have a5:∀ s∈A9 5,s∈Cq:=by decide
 have a6:∀ s∈A9 6,s∈Cq:=by decide
 match k,h with
 | 0,h | 3,h=>cases h
 | 1,h=>exact a1 s h
 | 2,h=>exact a2 s h
 | 4,h=>exact a4 s h
 | 5,h=>exact a5 s h
 | 6,h=>exact a6 s h
 |k+7,h=>cases h
theorem OQ {k:Nat}{ts:List Ae}(b:∀ t∈ts,BM t)(h:PQ k ts=none):Km ts ∉ A9 k:=by
 intro hm;cases ts with
 |nil=>exact absurd (JB hm) (by decide)
 |cons t r=>
  obtain ⟨p,hp,a⟩:=zb.1 hm;rw[PQ,BZ,Option.map_eq_none_iff,List.find?_eq_none] at h;refine h p hp ?_;rw[JA (b t (zQ ..)) (by rw[a];exact JB hm),zF,a];rfl
theorem Il {k:Nat}{t:Ae}{op:Int}(a:BM t)(h:BZ k t=some op):tk t∈A9 k:=by
 obtain ⟨s,h1,h2⟩:=Eu h;have h3:s∈A9 k:=zb.2 ⟨_,h1,rfl⟩;rw[JA a (JB h3),zF] at h2;rw[h2];exact h3
theorem AT {s:List UInt8}{t:Ae}(a:BM t)(hs:s∈Cq)(h:see s t=true):tk t=s:=by
 rw[JA a hs,zF] at h;exact h
theorem OR {s:List UInt8}{t:Ae}(a:BM t)(hs:s∈Cq)(h:see s t=false):tk t≠s:=by
 rw[JA a hs,yH] at h;exact h
theorem DA {s:List UInt8}{ts:List Ae}(a:∀ t∈ts,BM t)(hs:s∈Cq)(h:AM s ts=false):Km ts≠s:=by
 rw[Rn a hs,yH] at h;exact h
theorem Vz:∀ (ts:List Ae) (a:List ByteArray),(∀ t∈ts,BM t)→∀ st b,((GO ts a).2.1=false→b=some (GO ts a).2.2)→((GO ts a).2.1=true→Ru (.t Bp ::st) (GO ts a).2.2 b)→Ru (.scope :: .scopesMore ::st) ts b
 | [],a,ho,st,b,h1,h2=>by
  have e:b=some []:=h1 rfl;rw[e];exact ⟨1,.scope_nil⟩
 | [t],a,ho,st,b,h1,h2=>by
  rw[GO] at h1 h2;by_cases hc:FU t
  ·rw[if_pos hc] at h2;refine .scope hc (.exp (m:= [.t Bp]) rfl (h2 rfl))
  ·rw[if_neg hc] at h1;have e:b=some [t]:=h1 rfl;rw[e];exact ⟨1,.scope_no hc⟩
 |t ::c ::q,a,ho,st,b,h1,h2=>by
  rw[GO] at h1 h2;by_cases hc:FU t
  ·rw[if_pos hc] at h1 h2;have f:=ho c (by simp);cases hk:see Dy c
   ·rw[hk,if_neg (by decide)] at h2;have d:=OR f (by decide) hk;exact .scope hc (.exp (m:= [.t Bp]) (if_neg d) (h2 rfl))
   ·rw[hk,if_pos rfl] at h1 h2;have d:=AT f (by decide) hk;exact .scope hc (.exp (m:= [.t Dy,.scope,.scopesMore]) (if_pos d) (.term d (Vz q _ (fun u hu=>ho u (by simp[hu])) st b h1 h2)))
  ·rw[if_neg hc] at h1;have e:b=some (t ::c ::q):=h1 rfl;rw[e];exact ⟨1,.scope_no hc⟩
theorem PS (ts:List Ae)(b:∀ t∈ts,BM t)(st:List Sy)(a:Option (List Ae))(h1:(Ga ts).2.1=false→a=some (Ga ts).2.2)(h2:(Ga ts).2.1=true→Ru (.t Bp ::st) (Ga ts).2.2 a):Ru (.scopes ::st) ts a:=by
 rw[Ga] at h1 h2;cases h:AM Bp ts
 ·rw[h,if_neg (by decide)] at h1 h2;exact .exp (m:= [.scope,.scopesMore]) (if_neg (DA b (by decide) h)) (Vz ts [] b st a h1 h2)
 ·rw[h,if_pos rfl] at h2;rw[Rn b (by decide),zF] at h;exact .exp (m:= [.t Bp]) (if_pos h) (h2 rfl)
theorem BC {nt:NT}{ts:List Ae}{x:PR}(d:D nt ts x)(a:∀ t∈ts,BM t):∀ t∈x.rest,BM t:=by
 obtain ⟨c,hc,_⟩:=d.suf;intro t ht;exact a t (by rw[hc];exact zV _ ht)
theorem Ru.prim_t {s:List UInt8}{st:List Sy}{t:Ae}{r:List Ae}{a:Option (List Ae)}(h:tk t=s)(he:An .primary s=some [.t s])(d:Ru st r a):Ru (.primary ::st) (t ::r) a:=
 .exp (m:= [.t s]) (by show An .primary (tk t)=_;rw[h];exact he) (.term h d)
theorem D.run {nt:NT}{ts:List Ae}{x:PR}(d:D nt ts x):nt.fair→(∀ t∈ts,BM t)→∀ st i,x.aft st i→Ru (nt.sym ++st) ts i:=by
 induction d with
 |@beh_no s ts h=>
  intro hf g st i j;have e:i=some ts:=j;rw[e];exact .term_no (DA g hf h)
 |@beh s t r x h d l=>
  intro hf g st i j;exact .term (AT (g t (by simp)) hf h) (l trivial (fun u hu=>g u (by simp[hu])) st i j)
 |@expr_no ts x h d l=>
  intro hf g st i j;exact .exp (m:= [.and_,.orMore]) (if_neg (DA g (by decide) h)) (l (.inl rfl) g st i j)
 |@expr_if1 t r q h d l=>
  intro hf g st i j;have:=AT (g t (by simp)) (by decide) h;exact .exp (m:= [.t DO,.expr,.t BE,.expr,.t AK,.expr]) (if_pos this) (l (show DO∈Cq by decide) g ([Sy.t BE,Sy.expr,Sy.t AK,Sy.expr] ++st) i j)
 |@expr_if2 t r q p a h d d2 n y=>
  intro hf g st i j;have e1:=AT (g t (by simp)) (by decide) h;have w:=BC d g;have h2:Ru ([.t BE,.expr,.t AK,.expr] ++st) q i:=y (show BE∈Cq by decide) w ([Sy.t AK,Sy.expr] ++st) i j;exact .exp (m:= [.t DO,.expr,.t BE,.expr,.t AK,.expr]) (if_pos e1) (n (show DO∈Cq by decide) g ([Sy.t BE,Sy.expr,Sy.t AK,Sy.expr] ++st) i h2)
 |@expr_if3 t r q p F a b h d d2 d3 n y A=>
  intro hf g st i j;have e1:=AT (g t (by simp)) (by decide) h;have w:=BC d g;have h3:Ru ([.t AK,.expr] ++st) p i:=A (show AK∈Cq by decide) (BC d2 w) st i j;have h2:Ru ([.t BE,.expr,.t AK,.expr] ++st) q i:=y (show BE∈Cq by decide) w ([Sy.t AK,Sy.expr] ++st) i h3;exact .exp (m:= [.t DO,.expr,.t BE,.expr,.t AK,.expr]) (if_pos e1) (n (show DO∈Cq by decide) g ([Sy.t BE,Sy.expr,Sy.t AK,Sy.expr] ++st) i h2)
 |@expr_if t r q p F a b c h d d2 d3 n y A=>
  intro hf g st i j;have e1:=AT (g t (by simp)) (by decide) h;have w:=BC d g;have h3:Ru ([.t AK,.expr] ++st) p i:=A (show AK∈Cq by decide) (BC d2 w) st i j;have h2:Ru ([.t BE,.expr,.t AK,.expr] ++st) q i:=y (show BE∈Cq by decide) w ([Sy.t AK,Sy.expr] ++st) i h3;exact .exp (m:= [.t DO,.expr,.t BE,.expr,.t AK,.expr]) (if_pos e1) (n (show DO∈Cq by decide) g ([Sy.t BE,Sy.expr,Sy.t AK,Sy.expr] ++st) i h2)
 |@chain_bad k ts r d l=>
  intro hf g st i j;rcases hf with rfl | rfl | rfl | rfl
  ·exact l (.inl rfl) g (.orMore ::st) i j
  ·exact l (.inr (.inl rfl)) g (.andMore ::st) i j
  ·exact l (.inr (.inr (.inr (.inl rfl)))) g (.sumMore ::st) i j
  ·exact l (.inr (.inr (.inr (.inr rfl)))) g (.termMore ::st) i j
 |@chain k ts r e x d d2 n y=>
  intro hf g st i j;have h2:=y hf (BC d g) st i j;rcases hf with rfl | rfl | rfl | rfl
  ·exact n (.inl rfl) g (.orMore ::st) i h2
  ·exact n (.inr (.inl rfl)) g (.andMore ::st) i h2
  ·exact n (.inr (.inr (.inr (.inl rfl)))) g (.sumMore ::st) i h2
  ·exact n (.inr (.inr (.inr (.inr rfl)))) g (.termMore ::st) i h2
 |@more_no k e ts h=>
  intro hf g st i j;have o:=OQ g h;rcases hf with rfl | rfl | rfl | rfl
  ·exact .exp (m:= []) (if_neg (fun e=>o (by rw[e];decide))) j
  ·exact .exp (m:= []) (if_neg (fun e=>o (by rw[e];decide))) j
  ·exact .exp (m:= []) (if_neg o) j
  ·exact .exp (m:= []) (if_neg o) j
 |@more_bad k e t r q op h d l=>
  intro hf g st i j;have o:=Il (g t (by simp)) h;have v:∀ u∈r,BM u:=fun u hu=>g u (by simp[hu]);rcases hf with rfl | rfl | rfl | rfl
  ·have e1:tk t=kOr:=zJ.1 o;exact .exp (m:= [.t kOr,.and_,.orMore]) (if_pos e1) (.term e1 (l (.inl rfl) v (.orMore ::st) i j))
  ·have e1:tk t=Rm:=zJ.1 o;exact .exp (m:= [.t Rm,.not_,.andMore]) (if_pos e1) (.term e1 (l (.inr (.inl rfl)) v (.andMore ::st) i j))
  ·exact .exp (m:= [.t (tk t),.term,.sumMore]) (if_pos o) (.term rfl (l (.inr (.inr (.inr (.inl rfl)))) v (.sumMore ::st) i j))
  ·exact .exp (m:= [.t (tk t),.unary,.termMore]) (if_pos o) (.term rfl (l (.inr (.inr (.inr (.inr rfl)))) v (.termMore ::st) i j))
 |@more k e f t r q op x h d d2 n y=>
  intro hf g st i j;have o:=Il (g t (by simp)) h;have v:∀ u∈r,BM u:=fun u hu=>g u (by simp[hu]);have h2:=y hf (BC d v) st i j;rcases hf with rfl | rfl | rfl | rfl
  ·have e1:tk t=kOr:=zJ.1 o;exact .exp (m:= [.t kOr,.and_,.orMore]) (if_pos e1) (.term e1 (n (.inl rfl) v (.orMore ::st) i h2))
  ·have e1:tk t=Rm:=zJ.1 o;exact .exp (m:= [.t Rm,.not_,.andMore]) (if_pos e1) (.term e1 (n (.inr (.inl rfl)) v (.andMore ::st) i h2))
  ·exact .exp (m:= [.t (tk t),.term,.sumMore]) (if_pos o) (.term rfl (n (.inr (.inr (.inr (.inl rfl)))) v (.sumMore ::st) i h2))
  ·exact .exp (m:= [.t (tk t),.unary,.termMore]) (if_pos o) (.term rfl (n (.inr (.inr (.inr (.inr rfl)))) v (.termMore ::st) i h2))
 |opd1 d l=>intro hf g st i j;exact .exp (m:= [.not_,.andMore]) rfl (l (.inr (.inl rfl)) g st i j)
 |opd2 d l=>intro hf g st i j;exact l trivial g st i j
 |opd4 d l=>intro hf g st i j;exact .exp (m:= [.term,.sumMore]) rfl (l (.inr (.inr (.inl rfl))) g st i j)
 |opd5 d l=>intro hf g st i j;exact .exp (m:= [.unary,.termMore]) rfl (l (.inr (.inr (.inr rfl))) g st i j)
 |opd6 d l=>intro hf g st i j;exact l trivial g st i j
 |@neg_no ts x h d l=>
  intro hf g st i j;exact .exp (m:= [.sum,.compared]) (if_neg (DA g (by decide) h)) (l trivial g st i j)
 |@neg_bad t r q h d l=>
  intro hf g st i j;have e1:=AT (g t (by simp)) (by decide) h;exact .exp (m:= [.t DT,.not_]) (if_pos e1) (.term e1 (l trivial (fun u hu=>g u (by simp[hu])) st i j))
 |@neg t r q e h d l=>
  intro hf g st i j;have e1:=AT (g t (by simp)) (by decide) h;exact .exp (m:= [.t DT,.not_]) (if_pos e1) (.term e1 (l trivial (fun u hu=>g u (by simp[hu])) st i j))
 |cmp_bad d l=>intro hf g st i j;exact l (.inr (.inr (.inl rfl))) g (.compared ::st) i j
 |cmp_one d h l=>
  intro hf g st i j;exact l (.inr (.inr (.inl rfl))) g (.compared ::st) i (.exp (m:= []) (if_neg (OQ (BC d g) h)) j)
 |@cmp_two_bad ts r q e t op d h d2 n y=>
  intro hf g st i j;have w:∀ u∈t ::r,BM u:=BC d g;have o:=Il (w t (by simp)) h;exact n (.inr (.inr (.inl rfl))) g (.compared ::st) i (.exp (m:= [.t (tk t),.sum]) (if_pos o) (.term rfl (y (.inr (.inr (.inl rfl))) (fun u hu=>w u (by simp[hu])) st i j)))
 |@cmp_two ts r q e f t op d h d2 n y=>
  intro hf g st i j;have w:∀ u∈t ::r,BM u:=BC d g;have o:=Il (w t (by simp)) h;exact n (.inr (.inr (.inl rfl))) g (.compared ::st) i (.exp (m:= [.t (tk t),.sum]) (if_pos o) (.term rfl (y (.inr (.inr (.inl rfl))) (fun u hu=>w u (by simp[hu])) st i j)))
 |@una_no ts x h d l=>
  intro hf g st i j;exact .exp (m:= [.primary]) (if_neg (DA g (by decide) h)) (l trivial g st i j)
 |@una_bad t r q h d l=>
  intro hf g st i j;have e1:=AT (g t (by simp)) (by decide) h;exact .exp (m:= [.t Bd,.unary]) (if_pos e1) (.term e1 (l trivial (fun u hu=>g u (by simp[hu])) st i j))
 |@una t r q e h d l=>
  intro hf g st i j;have e1:=AT (g t (by simp)) (by decide) h;exact .exp (m:= [.t Bd,.unary]) (if_pos e1) (.term e1 (l trivial (fun u hu=>g u (by simp[hu])) st i j))
 |@num t r h=>intro hf g st i j;exact .prim_t (s:=N8) (by rw[tk,if_pos h]) rfl j
 |@text t r h=>intro hf g st i j;exact .prim_t (s:=Fe) (by rw[tk,h];rfl) rfl j
 |@name t r h=>intro hf g st i j;exact .prim_t (s:=Ew) (by rw[tk,h];rfl) rfl j
 |@tru t r h=>intro hf g st i j;exact .prim_t (AT (g t (by simp)) (by decide) h) rfl j
 |@fls t r h=>intro hf g st i j;exact .prim_t (AT (g t (by simp)) (by decide) h) rfl j
 |@size_bad t r q h d l=>
  intro hf g st i j;have e1:=AT (g t (by simp)) (by decide) h;exact .exp (m:= [.t Cb,.t AH,.expr,.t AS]) (by show An .primary (tk t)=_;rw[e1];rfl) (.term e1 (l trivial (fun u hu=>g u (by simp[hu])) st i j))
 |@size t r q e h d l=>
  intro hf g st i j;have e1:=AT (g t (by simp)) (by decide) h;exact .exp (m:= [.t Cb,.t AH,.expr,.t AS]) (by show An .primary (tk t)=_;rw[e1];rfl) (.term e1 (l trivial (fun u hu=>g u (by simp[hu])) st i j))
 |@par t r x h d l=>
  intro hf g st i j;have e1:=AT (g t (by simp)) (by decide) h;exact .exp (m:= [.t AH,.expr,.t AS]) (by show An .primary (tk t)=_;rw[e1];rfl) (l trivial g st i j)
 |@set_bad t r q C h hs=>
  intro hf g st i j;have e1:=AT (g t (by simp)) (by decide) h;have e:i=some q:=j;exact .exp (m:= [.t Ch,.scopes]) (by show An .primary (tk t)=_;rw[e1];rfl) (.term e1 (PS r (fun u hu=>g u (by simp[hu])) st i (fun _=>by rw[hs];exact e) (fun h=>by rw[hs] at h;cases h)))
 |@set_end t r q C h hs hq=>
  intro hf g st i j;have e1:=AT (g t (by simp)) (by decide) h;have e:i=some q:=j;have v:∀ u∈r,BM u:=fun u hu=>g u (by simp[hu]);have H:∀ u∈q,BM u:=fun u hu=>by
   obtain ⟨c,hc⟩:=Jz r;rw[hs] at hc;exact v u (by rw[hc];exact zV _ hu)
  exact .exp (m:= [.t Ch,.scopes]) (by show An .primary (tk t)=_;rw[e1];rfl) (.term e1 (PS r v st i (fun h=>by rw[hs] at h;cases h) (fun _=>by rw[hs,e];exact .term_no (DA H (by decide) hq))))
 |@set t u r q C h hs hq=>
  intro hf g st i j;have e1:=AT (g t (by simp)) (by decide) h;have v:∀ u∈r,BM u:=fun u hu=>g u (by simp[hu]);have I:BM u:=by
   obtain ⟨c,hc⟩:=Jz r;rw[hs] at hc;exact v u (by rw[hc];simp)
  exact .exp (m:= [.t Ch,.scopes]) (by show An .primary (tk t)=_;rw[e1];rfl) (.term e1 (PS r v st i (fun h=>by rw[hs] at h;cases h) (fun _=>by rw[hs];exact .term (AT I (by decide) hq) j)))
 |prim_nil=>
  intro hf g st i j;have e:i=some []:=j;rw[e];exact .exp (m:= [.t N8]) rfl (.term_no (by decide))
 |@prim_no t r h1 h2 h3 h4 h5 h6 h7 h8=>
  intro hf g st i j;have e:i=some (t ::r):=j;rw[e];have z:=g t (by simp);have O:t.kind=4∨t.kind=5:=by rcases z with h | h | h | h <;> first | contradiction | exact h.1
  have E:tk t=Aj t.text∧Aj t.text∈Cq:=by
   rcases z with h | h | h | h
   ·contradiction
   ·contradiction
   ·contradiction
   ·exact ⟨by rw[tk,if_neg h1,if_neg h2,if_neg h3],h.2⟩
  have B:∀ s,s ∉ Cq→tk t≠s:=fun s hs e=>hs (by rw[← e,E.1];exact E.2);have J:=OR z (by decide) h4;have K:=OR z (by decide) h5;have L:=OR z (by decide) h6;have M:=OR z (by decide) h7;have N:=OR z (by decide) h8;refine .exp (m:= [.t N8]) ?_ (.term_no (show tk t≠_ from B _ (by decide)));show An .primary (tk t)=_;rw[An,if_neg M,if_neg L,if_neg N,if_neg (by
   rintro (h | h | h | h)
   ·exact B _ (by decide) h
   ·exact B _ (by decide) h
   ·exact J h
   ·exact K h)]
 |encl_bad d l=>intro hf g st i j;exact l (show AH∈Cq by decide) g (.t AS ::st) i j
 |encl_end d h l=>
  intro hf g st i j;refine l (show AH∈Cq by decide) g (.t AS ::st) i ?_;have e:i=_:=j;rw[e];exact .term_no (DA (BC d g) (by decide) h)
 |@encl ts r e t d h l=>
  intro hf g st i j;have w:∀ u∈t ::r,BM u:=BC d g;exact l (show AH∈Cq by decide) g (.t AS ::st) i (.term (AT (w t (by simp)) (by decide) h) j)
def scT (t:Ae):Prop:=t.kind=2∨see Dy t=true
def IL:List Ae→List ByteArray
 | []=> []
 |t ::r=>if t.kind=2 then t.text ::IL r else IL r
theorem VA:∀ (ts:List Ae) (a b:List ByteArray) (q:List Ae),GO ts a=(b,true,q)→∃ c,ts=c ++q∧(∀ x∈c,scT x)∧b=a ++IL c
 | [],a,b,q,h=>by simp[GO] at h
 | [t],a,b,q,h=>by
  rw[GO] at h;by_cases hc:FU t
  ·rw[if_pos hc] at h;simp only[Prod.mk.injEq,true_and] at h;exact ⟨[t],by rw[← h.2];rfl,fun x hx=>by rw[zJ.1 hx];exact .inl hc.1,by rw[← h.1,IL,if_pos hc.1];rfl⟩
  ·rw[if_neg hc] at h;simp at h
 |t ::d ::r,a,b,q,h=>by
  rw[GO] at h;by_cases hc:FU t
  ·rw[if_pos hc] at h;cases hk:see Dy d
   ·rw[hk,if_neg (by decide)] at h;simp only[Prod.mk.injEq,true_and] at h;exact ⟨[t],by rw[← h.2];rfl,fun x hx=>by rw[zJ.1 hx];exact .inl hc.1,by rw[← h.1,IL,if_pos hc.1];rfl⟩
   ·rw[hk,if_pos rfl] at h;obtain ⟨c,h1,h2,h3⟩:=VA r _ b q h;have f:d.kind≠2:=by rcases GU hk with e | e <;> omega
    refine ⟨t ::d ::c,by rw[h1];rfl,fun x hx=>?_,by rw[h3,IL,if_pos hc.1,IL,if_neg f,zC];rfl⟩;rcases zG.1 hx with rfl | hx
    ·exact .inl hc.1
    ·rcases zG.1 hx with rfl | hx
     ·exact .inr hk
     ·exact h2 x hx
  ·rw[if_neg hc] at h;simp at h
theorem Aao {ts q:List Ae}{a:List ByteArray}(h:Ga ts=(a,true,q)):∃ c,ts=c ++q∧(∀ x∈c,scT x)∧a=IL c:=by
 rw[Ga] at h;split at h
 ·simp only[Prod.mk.injEq,true_and] at h;exact ⟨[],by rw[← h.2];rfl,(fun x hx=>by cases hx),by rw[← h.1];rfl⟩
 ·obtain ⟨c,h1,h2,h3⟩:=VA ts [] a q h;exact ⟨c,h1,h2,by simpa using h3⟩
inductive G:Nat→List Ae→Pt→Prop
 |up {k:Nat} {c:List Ae} {p:Pt} (hk:k < 8) (g:G (k+1) c p):G k c p
 |ite {t u v:Ae} {a b d:List Ae} {pa pb pd:Pt} (ht:see DO t=true) (hu:see BE u=true) (hv:see AK v=true) (ga:G 0 a pa) (gb:G 0 b pb) (gd:G 0 d pd):G 0 (t ::(a ++u ::(b ++v ::d))) (.ite t.at_ pa pb pd)
 |bin {k:Nat} {l r:List Ae} {t:Ae} {op:Int} {pl pr:Pt} (hk:k=1∨k=2∨k=5∨k=6) (gl:G k l pl) (ht:BZ k t=some op) (gr:G (k+1) r pr):G k (l ++t ::r) (.bin t.at_ op pl pr)
 |cmp {l r:List Ae} {t:Ae} {op:Int} {pl pr:Pt} (gl:G 5 l pl) (ht:BZ 4 t=some op) (gr:G 5 r pr):G 4 (l ++t ::r) (.bin t.at_ op pl pr)
 |not {t:Ae} {r:List Ae} {p:Pt} (ht:see DT t=true) (g:G 3 r p):G 3 (t ::r) (.un t.at_ 9 p)
 |neg {t:Ae} {r:List Ae} {p:Pt} (ht:see Bd t=true) (g:G 7 r p):G 7 (t ::r) (.un t.at_ 8 p)
 |par {t u:Ae} {r:List Ae} {p:Pt} (ht:see AH t=true) (g:G 0 r p) (hu:see AS u=true):G 8 (t ::(r ++ [u])) p
 |size {t u v:Ae} {r:List Ae} {p:Pt} (ht:see Cb t=true) (hu:see AH u=true) (g:G 0 r p) (hv:see AS v=true):G 8 (t ::u ::(r ++ [v])) (.un t.at_ 10 p)
 |set {t u:Ae} {c:List Ae} (ht:see Ch t=true) (hc:∀ x∈c,scT x) (hu:see Bp u=true):G 8 (t ::(c ++ [u])) (.set t.at_ (IL c))
 |num {t:Ae} (h:t.kind=1):G 8 [t] (.int t.at_ t.num)
 |text {t:Ae} (h:t.kind=2):G 8 [t] (.text t.at_ t.text)
 |name {t:Ae} (h:t.kind=3):G 8 [t] (.name t.at_ t.text)
 |tru {t:Ae} (h:see BS t=true):G 8 [t] (.bool t.at_ true)
 |fls {t:Ae} (h:see Bl t=true):G 8 [t] (.bool t.at_ false)
theorem G.lift {c:List Ae}{p:Pt} :∀ (n k:Nat),k+n≤8→G (k+n) c p→G k c p
 | 0,k,_,h=>h
 |n+1,k,hk,h=> .up (by omega) (G.lift n (k+1) (by omega) (by rw[Nat.add_right_comm];exact h))
theorem G.le8 {k:Nat}{c:List Ae}{p:Pt}(h:G k c p):k≤8:=by
 cases h <;> omega
theorem G.low {k j:Nat}{c:List Ae}{p:Pt}(h:G k c p)(a:j≤k):G j c p:=by
 have h8:=h.le8;obtain ⟨n,rfl⟩:∃ n,k=j+n:=⟨k - j,by omega⟩
 exact G.lift n j h8 h
def Tr:NT→List Ae→Pt→List Ae→Prop
 | .more k e0,ts,e,q=>∀ c0,G k c0 e0→∃ c,ts=c ++q∧G k (c0 ++c) e
 | .beh s,ts,e,q=>∃ t c,ts=t ::(c ++q)∧see s t=true∧G 0 c e
 | .encl,ts,e,q=>∃ t c u,ts=t ::(c ++u ::q)∧see AH t=true∧see AS u=true∧G 0 c e
 | .chain k,ts,e,q=>∃ c,ts=c ++q∧G k c e
 | .opd k,ts,e,q=>∃ c,ts=c ++q∧G (k+1) c e
 | .expr,ts,e,q=>∃ c,ts=c ++q∧G 0 c e
 | .neg,ts,e,q=>∃ c,ts=c ++q∧G 3 c e
 | .cmp,ts,e,q=>∃ c,ts=c ++q∧G 4 c e
 | .una,ts,e,q=>∃ c,ts=c ++q∧G 7 c e
 | .prim,ts,e,q=>∃ c,ts=c ++q∧G 8 c e
theorem D.tree {nt:NT}{ts:List Ae}{x:PR}(d:D nt ts x):nt.good→∀ e q,x= .ok e q→Tr nt ts e q:=by
 induction d with
 |beh_no | expr_if1 | expr_if2 | expr_if3 | chain_bad | more_bad | neg_bad | cmp_bad | cmp_two_bad | una_bad | size_bad | set_bad | set_end | prim_nil | prim_no | encl_bad | encl_end=>intro _ e q h;cases h
 |@beh s t r x h d i=>
  intro _ e q hx;obtain ⟨c,hc,g⟩:=i trivial e q hx;exact ⟨t,c,by rw[hc],h,g⟩
 |expr_no h d i=>
  intro _ e q hx;obtain ⟨c,hc,g⟩:=i (.inl rfl) e q hx;exact ⟨c,hc,g.low (by omega)⟩
 |@expr_if t r q p K a b c h d1 d2 d3 j l B=>
  intro _ e q hx;cases hx;obtain ⟨o,c1,h1,m,g1⟩:=j trivial _ _ rfl;obtain ⟨C,c2,h2,w,g2⟩:=l trivial _ _ rfl;obtain ⟨E,c3,h3,F,g3⟩:=B trivial _ _ rfl;injection h1 with h0 h1;subst h0;exact ⟨t ::(c1 ++C ::(c2 ++E ::c3)),by rw[h1,h2,h3];simp,.ite m w F g1 g2 g3⟩
 |chain d1 d2 j l=>
  intro n e q hx;obtain ⟨c,hc,g⟩:=j (by simp only[NT.good] at n ⊢;omega) _ _ rfl;have L:=g.le8;obtain ⟨y,z,v⟩:=l n e q hx c (g.low (by omega));exact ⟨c ++y,by rw[zC,← z];exact hc,v⟩
 |@more_no k H ts h=>
  intro n e q hx;cases hx;exact fun A g=>⟨[],rfl,by rw[zp];exact g⟩
 |@more k H f t r q op x h d1 d2 j l=>
  intro n e I hx A J;obtain ⟨c,hc,g⟩:=j (by simp only[NT.good] at n ⊢;omega) _ _ rfl;obtain ⟨y,z,v⟩:=l n e I hx (A ++t ::c) (.bin n J h g);exact ⟨t ::(c ++y),by rw[List.cons_append,zC,← z,← hc],by rw[zC] at v;exact v⟩
 |opd1 d i=>intro _ e q hx;exact i (.inr (.inl rfl)) e q hx
 |opd2 d i=>intro _ e q hx;exact i trivial e q hx
 |opd4 d i=>intro _ e q hx;exact i (.inr (.inr (.inl rfl))) e q hx
 |opd5 d i=>intro _ e q hx;exact i (.inr (.inr (.inr rfl))) e q hx
 |opd6 d i=>intro _ e q hx;exact i trivial e q hx
 |neg_no h d i=>intro _ e q hx;obtain ⟨c,hc,g⟩:=i trivial e q hx;exact ⟨c,hc,g.low (by omega)⟩
 |@neg t r q e h d i=>intro _ e q hx;cases hx;obtain ⟨c,hc,g⟩:=i trivial _ _ rfl;exact ⟨t ::c,by rw[hc];rfl,.not h g⟩
 |cmp_one d h i=>intro _ e q hx;cases hx;obtain ⟨c,hc,g⟩:=i (.inr (.inr (.inl rfl))) _ _ rfl;exact ⟨c,hc,g.low (by omega)⟩
 |@cmp_two ts r q e f t op d h d2 j l=>
  intro _ e q hx;cases hx;obtain ⟨c,hc,g⟩:=j (.inr (.inr (.inl rfl))) _ _ rfl;obtain ⟨y,z,v⟩:=l (.inr (.inr (.inl rfl))) _ _ rfl;exact ⟨c ++t ::y,by rw[zC,List.cons_append,← z];exact hc,.cmp g h v⟩
 |una_no h d i=>intro _ e q hx;obtain ⟨c,hc,g⟩:=i trivial e q hx;exact ⟨c,hc,g.low (by omega)⟩
 |@una t r q e h d i=>intro _ e q hx;cases hx;obtain ⟨c,hc,g⟩:=i trivial _ _ rfl;exact ⟨t ::c,by rw[hc];rfl,.neg h g⟩
 |@num t r h=>intro _ e q hx;cases hx;exact ⟨[t],rfl,.num h⟩
 |@text t r h=>intro _ e q hx;cases hx;exact ⟨[t],rfl,.text h⟩
 |@name t r h=>intro _ e q hx;cases hx;exact ⟨[t],rfl,.name h⟩
 |@tru t r h=>intro _ e q hx;cases hx;exact ⟨[t],rfl,.tru h⟩
 |@fls t r h=>intro _ e q hx;cases hx;exact ⟨[t],rfl,.fls h⟩
 |@size t r q e h d i=>
  intro _ e q hx;cases hx;obtain ⟨o,c,u,hc,m,w,g⟩:=i trivial _ _ rfl;exact ⟨t ::o ::(c ++ [u]),by rw[hc];simp,.size h m g w⟩
 |@par t r x h d i=>
  intro _ e q hx;obtain ⟨o,c,u,hc,m,w,g⟩:=i trivial e q hx;exact ⟨o ::(c ++ [u]),by rw[hc];simp,.par m g w⟩
 |@set t u r q M h hs hq=>
  intro _ e q hx;cases hx;obtain ⟨c,hc,h1,h2⟩:=Aao hs;exact ⟨t ::(c ++ [u]),by rw[hc];simp,by rw[h2];exact .set h h1 hq⟩
 |@encl ts r e t d h i=>
  intro _ e q hx;cases hx;obtain ⟨o,c,hc,m,g⟩:=i trivial _ _ rfl;exact ⟨o,c,t,hc,m,h,g⟩
def EM (t:Ae):Bool:=(!decide (t.kind=4) && !decide (t.kind=5)) || see AS t || see Bp t || see BS t || see Bl t
def PT (t:Ae):Bool:=see AH t || see Ch t
def Ro (t:Ae):Bool:=see AS t || see Bp t
structure LS where
 pe:Bool
 d:Int
 i:Int
 acc:Int
def dL (d:Int) (t:Ae):Int:=if Ro t then (if PT t then d+1 else d) - 1 else if PT t then d+1 else d
def CL (of:List (List UInt8)) (s:LS) (t:Ae):LS:=
 ⟨EM t,dL s.d t,s.i+1,if dL s.d t > 0∨s.pe=false then s.acc else if of.any (fun x=>see x t) then s.i else s.acc⟩
theorem Yd {of:List (List UInt8)}{t:Ae}{s:List UInt8}(h:see s t=true)(a:s ∉ of):of.any (fun x=>see x t)=false:=by
 rw[List.any_eq_false];intro x hx hs;have:=Ag h (s':=x) (fun e=>a (by rw[e];exact hx));rw[this] at hs;cases hs
theorem CH {s:List UInt8}{t:Ae}(h:see s t=true)(hs:s ∉ [AH,Ch,AS,Bp])(d:Int):dL d t=d:=by
 have e1:=Ag h (s':=AH) (fun e=>hs (by rw[e];decide));have e2:=Ag h (s':=Ch) (fun e=>hs (by rw[e];decide));have e3:=Ag h (s':=AS) (fun e=>hs (by rw[e];decide));have e4:=Ag h (s':=Bp) (fun e=>hs (by rw[e];decide));simp[dL,PT,Ro,e1,e2,e3,e4]
theorem Mw {s:List UInt8}{t:Ae}(h:see s t=true)(hs:s ∉ [AS,Bp,BS,Bl]):EM t=false:=by
 have e1:=Ag h (s':=AS) (fun e=>hs (by rw[e];decide));have e2:=Ag h (s':=Bp) (fun e=>hs (by rw[e];decide));have e3:=Ag h (s':=BS) (fun e=>hs (by rw[e];decide));have e4:=Ag h (s':=Bl) (fun e=>hs (by rw[e];decide));have hk:=GU h;rw[EM,e1,e2,e3,e4];rcases hk with hk | hk <;> simp[hk]
theorem AC {s:List UInt8}{t:Ae}(h4:t.kind≠4)(h5:t.kind≠5):see s t=false:=by
 simp[see,h4,h5]
theorem PU {t:Ae}(h4:t.kind≠4)(h5:t.kind≠5)(d:Int):dL d t=d:=by
 simp[dL,PT,Ro,AC h4 h5]
theorem Rp {t:Ae}(h4:t.kind≠4)(h5:t.kind≠5):EM t=true:=by
 simp[EM,h4,h5]
theorem Mx {k:Nat}{s:List UInt8}{op:Int}(h:(s,op)∈BR k):s ∉ [AH,Ch,AS,Bp,BS,Bl,DO,BE,AK,DT,AG,Br]:=by
 match k,h with
 | 0,h | 3,h=>cases h
 | 1,h=>revert h;simp only[BR,zG,zf,Prod.mk.injEq,or_false];rintro ⟨rfl,rfl⟩;decide
 | 2,h=>revert h;simp only[BR,zG,zf,Prod.mk.injEq,or_false];rintro ⟨rfl,rfl⟩;decide
 | 4,h=>revert h;simp only[BR,zG,zf,Prod.mk.injEq,or_false];rintro (⟨rfl,rfl⟩ | ⟨rfl,rfl⟩ | ⟨rfl,rfl⟩ | ⟨rfl,rfl⟩ | ⟨rfl,rfl⟩ | ⟨rfl,rfl⟩) <;> decide
 | 5,h=>revert h;simp only[BR,zG,zf,Prod.mk.injEq,or_false];rintro (⟨rfl,rfl⟩ | ⟨rfl,rfl⟩ | ⟨rfl,rfl⟩ | ⟨rfl,rfl⟩) <;> decide
 | 6,h=>revert h;simp only[BR,zG,zf,Prod.mk.injEq,or_false];rintro (⟨rfl,rfl⟩ | ⟨rfl,rfl⟩ | ⟨rfl,rfl⟩ | ⟨rfl,rfl⟩) <;> decide
 |k+7,h=>cases h
theorem Dr {k:Nat}{t:Ae}{op:Int}(h:BZ k t=some op):(∀ d,dL d t=d)∧EM t=false∧(∀ s∈ [AH,Ch,AS,Bp,BS,Bl,DO,BE,AK,DT,AG,Br],see s t=false):=by
 obtain ⟨s,h1,h2⟩:=Eu h;have a:=Mx h1;refine ⟨fun d=>CH h2 (fun e=>a ?_) d,Mw h2 (fun e=>a ?_),fun x hx=>Ag h2 (fun e=>a (by rw[e];exact hx))⟩
 ·simp only[zG,zf,or_false] at e ⊢;grind
 ·simp only[zG,zf,or_false] at e ⊢;grind
theorem PV (of:List (List UInt8)):∀ (c:List Ae),(∀ x∈c,scT x)→∀ (s:LS),0 < s.d→∃ pe,c.foldl (CL of) s=⟨pe,s.d,s.i+c.length,s.acc⟩
 | [],_,s,_=>⟨s.pe,by simp⟩
 |t ::c,h,s,hd=>by
  have a:dL s.d t=s.d:=by
   rcases h t (zQ ..) with e | e
   ·exact PU (by omega) (by omega) _
   ·exact CH e (by decide) _
  have e1:CL of s t=⟨EM t,s.d,s.i+1,s.acc⟩:=by rw[CL,a,if_pos (.inl hd)]
  obtain ⟨pe,he⟩:=PV of c (fun x hx=>h x (zS _ hx)) ⟨EM t,s.d,s.i+1,s.acc⟩ hd;refine ⟨pe, ?_⟩;rw[List.foldl_cons,e1,he];simp only[List.length_cons,LS.mk.injEq,true_and,and_true];omega
theorem FF {t:Ae}(h:see AH t=true∨see Ch t=true)(d:Int):dL d t=d+1:=by
 rcases h with h | h
 ·simp[dL,PT,Ro,h,Ag h (s':=AS) (by decide),Ag h (s':=Bp) (by decide)]
 ·simp[dL,PT,Ro,h,Ag h (s':=AS) (by decide),Ag h (s':=Bp) (by decide)]
theorem Ey {t:Ae}(h:see AS t=true∨see Bp t=true)(d:Int):dL d t=d - 1:=by
 rcases h with h | h
 ·simp[dL,PT,Ro,h,Ag h (s':=AH) (by decide),Ag h (s':=Ch) (by decide)]
 ·simp[dL,PT,Ro,h,Ag h (s':=AH) (by decide),Ag h (s':=Ch) (by decide)]
theorem EY {t:Ae}(h:see AS t=true∨see Bp t=true):EM t=true:=by
 rcases h with h | h <;> simp[EM,h]
theorem JC {t:Ae}(h:see BS t=true∨see Bl t=true):EM t=true:=by
 rcases h with h | h <;> simp[EM,h]
theorem AY (of:List (List UInt8)){s:LS}{t:Ae}(h: 0 < dL s.d t):CL of s t=⟨EM t,dL s.d t,s.i+1,s.acc⟩:=by
 rw[CL,if_pos (.inl h)]
theorem CF (of:List (List UInt8)){s:LS}{t:Ae}(h:s.pe=false):CL of s t=⟨EM t,dL s.d t,s.i+1,s.acc⟩:=by
 rw[CL,if_pos (.inr h)]
theorem My (of:List (List UInt8)){s:LS}{t:Ae}{x:List UInt8}(h:see x t=true)(hx:x ∉ of):CL of s t=⟨EM t,dL s.d t,s.i+1,s.acc⟩:=by
 rw[CL,Yd h hx];simp
theorem G.deep (of:List (List UInt8)){k:Nat}{c:List Ae}{p:Pt}(g:G k c p):∀ (s:LS),0 < s.d→c.foldl (CL of) s=⟨true,s.d,s.i+c.length,s.acc⟩:=by
 induction g with
 |up hk g f=>exact f
 |@ite t u v a b d B C E ht hu m F H I q w id=>
  intro s hs;have e1:=CH ht (by decide) s.d;have e2:=CH hu (by decide) s.d;have e3:=CH m (by decide) s.d;rw[List.foldl_cons,AY of (by rw[e1];exact hs),zo,q _ (by show 0 < dL s.d t;rw[e1];exact hs),List.foldl_cons,AY of (by show 0 < dL (dL s.d t) u;rw[e1,e2];exact hs),zo,w _ (by show 0 < dL (dL s.d t) u;rw[e1,e2];exact hs),List.foldl_cons,AY of (by show 0 < dL (dL (dL s.d t) u) v;rw[e1,e2,e3];exact hs),id _ (by show 0 < dL (dL (dL s.d t) u) v;rw[e1,e2,e3];exact hs)];simp only[e1,e2,e3,LS.mk.injEq,true_and,and_true,List.length_cons,zB];omega
 |@bin k l r t op x y hk z ht A n o=>
  intro s hs;have e1:=(Dr ht).1;rw[zo,n s hs,List.foldl_cons,AY of (by rw[e1];exact hs),o _ (by show 0 < dL _ t;rw[e1];exact hs)];simp only[e1,LS.mk.injEq,true_and,and_true,List.length_cons,zB];omega
 |@cmp l r t op x y z ht A n o=>
  intro s hs;have e1:=(Dr ht).1;rw[zo,n s hs,List.foldl_cons,AY of (by rw[e1];exact hs),o _ (by show 0 < dL _ t;rw[e1];exact hs)];simp only[e1,LS.mk.injEq,true_and,and_true,List.length_cons,zB];omega
 |@not t r p ht g f=>
  intro s hs;have e1:=CH ht (by decide) s.d;rw[List.foldl_cons,AY of (by rw[e1];exact hs),f _ (by show 0 < dL _ t;rw[e1];exact hs)];simp only[e1,LS.mk.injEq,true_and,and_true,List.length_cons];omega
 |@neg t r p ht g f=>
  intro s hs;have e1:=CH ht (by decide) s.d;rw[List.foldl_cons,AY of (by rw[e1];exact hs),f _ (by show 0 < dL _ t;rw[e1];exact hs)];simp only[e1,LS.mk.injEq,true_and,and_true,List.length_cons];omega
 |@par t u r p ht g hu f=>
  intro s hs;have e1:=FF (.inl ht) s.d;have e2:=Ey (.inl hu) (s.d+1);rw[List.foldl_cons,AY of (by rw[e1];omega),zo,f _ (by show 0 < dL _ t;rw[e1];omega),List.foldl_cons,zy,AY of (by show 0 < dL (dL _ t) u;rw[e1,e2];omega)];simp only[e1,e2,LS.mk.injEq,List.length_cons,zB,List.length_nil];exact ⟨EY (.inl hu),by omega,by omega,trivial⟩
 |@size t u v r p ht hu g m f=>
  intro s hs;have j:=CH ht (by decide) s.d;have e1:=FF (.inl hu) s.d;have e2:=Ey (.inl m) (s.d+1);rw[List.foldl_cons,AY of (by rw[j];omega),List.foldl_cons,AY of (by show 0 < dL (dL _ t) u;rw[j,e1];omega),zo,f _ (by show 0 < dL (dL _ t) u;rw[j,e1];omega),List.foldl_cons,zy,AY of (by show 0 < dL (dL (dL _ t) u) v;rw[j,e1,e2];omega)];simp only[j,e1,e2,LS.mk.injEq,List.length_cons,zB,List.length_nil];exact ⟨EY (.inl m),by omega,by omega,trivial⟩
 |@set t u c ht hc hu=>
  intro s hs;have e1:=FF (.inr ht) s.d;have e2:=Ey (.inr hu) (s.d+1);obtain ⟨pe,he⟩:=PV of c hc ⟨EM t,s.d+1,s.i+1,s.acc⟩ (by show 0 < s.d+1;omega);rw[List.foldl_cons,AY of (by rw[e1];omega),e1,zo,he,List.foldl_cons,zy,AY of (by show 0 < dL (s.d+1) u;rw[e2];omega)];simp only[e2,LS.mk.injEq,List.length_cons,zB,List.length_nil];exact ⟨EY (.inr hu),by omega,by omega,trivial⟩
 |@num t h | @text t h | @name t h=>
  intro s hs;have e1:=PU (t:=t) (by omega) (by omega) s.d;rw[List.foldl_cons,zy,AY of (by rw[e1];exact hs),e1,Rp (by omega) (by omega)];rfl
 |@tru t h=>
  intro s hs;have e1:=CH h (by decide) s.d;rw[List.foldl_cons,zy,AY of (by rw[e1];exact hs),e1,JC (.inl h)];rfl
 |@fls t h=>
  intro s hs;have e1:=CH h (by decide) s.d;rw[List.foldl_cons,zy,AY of (by rw[e1];exact hs),e1,JC (.inr h)];rfl
end Go.Proofs.YtffkofkjpckmpaaGreatDoor
