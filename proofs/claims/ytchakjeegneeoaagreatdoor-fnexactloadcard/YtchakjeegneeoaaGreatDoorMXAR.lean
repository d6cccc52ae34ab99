/-
  ZD, ZE, EDA, ZF. Own work.
-/
import Derived.Test.YtchakjeegneeoaaGreatDoorMXAQ
import Derived.Test.YtchakjeegneeoaaGreatDoorMXAJ
import Derived.Test.YtchakjeegneeoaaGreatDoorMXAS
import Derived.Test.YtchakjeegneeoaaGreatDoorMXAI
import Derived.Test.YtchakjeegneeoaaGreatDoorMXAT
namespace Go.Proofs.YtchakjeegneeoaaGreatDoor
set_option maxRecDepth 100000
set_option maxHeartbeats 1600000
open Go.RowKit
set_option linter.unusedVariables false
open Classical in
noncomputable def AE (s:ByteArray):List ByteArray→Int→Int
 | [],_=>-1
 |x ::r,k=>if x=s then k else AE s r (k+1)
theorem Dv (s:ByteArray):∀ (L:List ByteArray) (k:Int),0≤k→(0≤AE s L k↔s∈L)
 | [],k,h=>by simp[AE]
 |x ::r,k,h=>by
  rw[AE];by_cases e:x=s
  ·rw[if_pos e];simp[e,h]
  ·rw[if_neg e,Dv s r (k+1) (by omega)];simp[Ne.symm e]
theorem UN {s:ByteArray}{L:List ByteArray}{k:Nat}(h:k < L.length):AE s (L.drop k) k=if L[k]=s then (k:Int) else AE s (L.drop (k+1)) ((k+1 :Nat):Int):=by
 rw[zg h,AE];rfl
theorem Xo (x s:ByteArray):(x.toList== s.toList)=true↔x=s:=by
 rw[zN];constructor
 ·intro h;rw[za,za] at h;cases x;cases s;simp only[ByteArray.mk.injEq];exact Array.toList_inj.1 h
 ·rintro rfl;rfl
def XF (w:World) (a:Option Addr) (L:List ByteArray):Prop:=∀ j,(h:j < L.length)→∃ b off,a=some ⟨b,off,none⟩∧b < w.heap.size∧w.cell? ⟨b,off+j,none⟩=some (.string L[j])
theorem XF.below {w w':World}{B:Nat}{a:Option Addr}{L:List ByteArray}(h:XF w a L)(c:Below B w w')(hB:w.heap.size≤B):XF w' a L:=fun j f=>by
 obtain ⟨b,d,g,i,c0⟩:=h j f;exact ⟨b,d,g,zM i c.size,(c.cell (p:=⟨b,d+j,none⟩) (by show b < B;omega)).trans c0⟩
theorem AcF (w:World)(t:TypeId)(L:List ByteArray):XF (w.alloc (.cells (L.map Value.string).toArray t)) (some ⟨w.heap.size,0,none⟩) L:=fun j a=>by
 refine ⟨w.heap.size,0,rfl,by simp, ?_⟩;rw[zX,(Al.new w (L.map Value.string).toArray t).cell j];simp[a]
theorem FE (s:ByteArray)(w:World):
  Calls Tryz.prog 32 #[.string s] w fun r w'=>r= .returned (.int .i64 (AE s BU 0))∧Below w.heap.size w w':=by
 have j:=(Below.refl w.heap.size w).alloc NLN (.cells (BU.map Value.string).toArray 9);have l:=AcF w 9 BU;have m:=Ab (show BU.length=6 from rfl);have n:=Ab (show w.alloc (.cells (BU.map Value.string).toArray 9)=w.alloc (.cells #[.string ⟨#[99,108,105,101,110,116]⟩,.string ⟨#[117,115,101,114]⟩,.string ⟨#[108,101,118,101,108]⟩,.string ⟨#[110,111,119]⟩,.string ⟨#[97,115,107,101,100]⟩,.string ⟨#[97,103,114,101,101,100]⟩] 9) from rfl);go_enter Tryz.func32,Tryz.ntmps32
 go_wp2_with fail
 rw[← Aa n];clear n;generalize w.alloc (.cells (BU.map Value.string).toArray 9)=o at j l ⊢;go_loopw [7] (fun i wr=>∃ k:Nat,k≤6∧i= .int .i64 k∧Below w.heap.size w wr∧Below o.heap.size o wr∧Hid (AE s BU 0=AE s ((BU:List ByteArray).drop k) k)) (fun i _=>6 - (intOf i).toNat)
 case atStart=>exact ⟨0,by omega,rfl,j,BRN,Ab rfl⟩
 case round=>
  obtain ⟨k,hk,rfl,d,p,f⟩:=hrel;by_cases g:k < 6
  ·have y:(k:Int) < (6 :Int):=by omega
   have h1:k < (BU:List ByteArray).length:=by rw[Aa m];exact g
   obtain ⟨b1,t,v,z,c0⟩:=(l.below p NLN) k h1;obtain ⟨rfl,rfl⟩:b1=w.heap.size∧t=0:=by simpa[eq_comm] using v
   simp only[zX] at c0;have b:=Ab ((Aa f).trans (UN h1));have q:=Ab g;generalize (BU:List ByteArray)[k]=u at c0 b;clear g h1 f;by_cases a:u=s
   ·have x:(u.toList== s.toList)=true:=(Xo u s).2 a;have c:=Ab ((Aa b).trans (if_pos a));clear b a;go_wp2_with fail
    go_ret
    exact ⟨by rw[Aa c];rfl,d⟩
   ·have x:(u.toList== s.toList)=false:=by rw[z2];exact fun h=>a ((Xo u s).1 h)
    have c:=Ab ((Aa b).trans (if_neg a));clear b a;go_wp2_with fail
    go_roundw
    case rel=>exact ⟨k+1,Aa q,by go_num,d,p,c⟩
    case measure=>have:=Aa q;simp[intOf];omega
  ·have e:k=6:=by omega
   subst e;have c:=Ab (show AE s BU 0= -1 by rw[Aa f,Z5 (by rw[Aa m];omega)];rfl);go_wp2_with fail
   go_ret
   exact ⟨by rw[Aa c];rfl,d⟩
theorem JV (l:Nat)(a:Option Addr)(n c:Nat)(L:List ByteArray)(s:ByteArray)(w:World)(h0:w.cell? ⟨l,0,none⟩=some (.slice a n c))(F:l < w.heap.size)(q:L.length=n)(H:n≤1048576)(t:XF w a L):
  Calls Tryz.prog 33 #[.pointer (some ⟨l,0,none⟩),.string s] w fun r w'=>r= .returned (.int .i64 (AE s L 0))∧Below w.heap.size w w':=by
 have v:=Ab q;obtain ⟨b,j⟩:∃ b,b=w:=⟨_,rfl⟩
 have A:Below w.heap.size w b:=by rw[j];exact BRN
 have B:XF b a L:=by rw[j];exact t
 have x:=Ab j;clear j q t;go_enter Tryz.func33,Tryz.ntmps33
 go_wp2_with fail
 rw[← Aa x];clear x;go_loopw [12] (fun i wr=>∃ k:Nat,k≤n∧i= .int .i64 k∧Below w.heap.size w wr∧Below b.heap.size b wr∧Hid (AE s L 0=AE s ((L:List ByteArray).drop k) k)) (fun i _=>n - (intOf i).toNat)
 case atStart=>exact ⟨0,by omega,rfl,A,BRN,Ab rfl⟩
 case round=>
  obtain ⟨k,hk,rfl,m,y,o⟩:=hrel;by_cases p:k < n
  ·have I:(k:Int) < (n:Int):=by omega
   have h1:k < (L:List ByteArray).length:=by rw[Aa v];exact p
   obtain ⟨b1,J,C,K,c0⟩:=(B.below y NLN) k h1;subst C;have f:=Ab ((Aa o).trans (UN h1));have z:=Ab p;generalize (L:List ByteArray)[k]=u at c0 f;clear p h1 o;by_cases d:u=s
   ·have E:(u.toList== s.toList)=true:=(Xo u s).2 d;have g:=Ab ((Aa f).trans (if_pos d));clear f d;go_wp2_with fail
    go_ret
    exact ⟨by rw[Aa g];rfl,m⟩
   ·have E:(u.toList== s.toList)=false:=by rw[z2];exact fun h=>d ((Xo u s).1 h)
    have g:=Ab ((Aa f).trans (if_neg d));clear f d;go_wp2_with fail
    go_roundw
    case rel=>exact ⟨k+1,Aa z,by go_num,m,y,g⟩
    case measure=>have:=Aa z;simp[intOf];omega
  ·have e:k=n:=by omega
   subst e;have g:=Ab (show AE s L 0= -1 by rw[Aa o,Z5 (by rw[Aa v];omega)];rfl);go_wp2_with fail
   go_ret
   exact ⟨by rw[Aa g];rfl,m⟩
end Go.Proofs.YtchakjeegneeoaaGreatDoor
namespace Go.Proofs.YtchakjeegneeoaaGreatDoor
open Go.RowKit
set_option linter.unusedVariables false
set_option maxRecDepth 100000
set_option maxHeartbeats 3200000
abbrev Rc:=Except Int Int
def FA:List Rc→Except Int (List Int)
 | []=> .ok []
 | .error c ::_=> .error c
 | .ok t ::r=>(FA r).map (t :: ·)
theorem PQ {t:Int}{r:List Rc}{K:List Int}(h:FA (.ok t ::r)= .ok K):∃ a,FA r= .ok a∧K=t ::a:=by
 rw[FA] at h;cases b:FA r with
 |error c=>rw[b] at h;cases h
 |ok a=>rw[b] at h;cases h;exact ⟨a,rfl,rfl⟩
theorem Nx:∀ {os:List Rc} {K:List Int},FA os= .ok K→K.length=os.length
 | [],K,h=>by cases h;rfl
 | .error c ::_,K,h=>by cases h
 | .ok t ::r,K,h=>by
  obtain ⟨a,h1,rfl⟩:=PQ h;rw[List.length_cons,List.length_cons,Nx h1]
theorem PS (o:Rc):∀ (os:List Rc) (K:List Int),FA os= .ok K→FA (os ++ [o])=o.map (fun t=>K ++ [t])
 | [],K,h=>by cases h;cases o <;> rfl
 | .error c ::_,K,h=>by cases h
 | .ok t ::r,K,h=>by
  obtain ⟨a,h1,rfl⟩:=PQ h;rw[List.cons_append,FA,PS o r a h1];cases o <;> rfl
theorem Ny:∀ (os:List Rc) (k:Nat) {c:Int},FA (os.take k)= .error c→FA os= .error c
 | [],k,c,h=>by simpa using h
 | .error d ::_,0,c,h=>by cases h
 | .error d ::_,k+1,c,h=>by rw[List.take_succ_cons,FA] at h;rw[FA];exact h
 | .ok t ::r,0,c,h=>by cases h
 | .ok t ::r,k+1,c,h=>by
  rw[List.take_succ_cons,FA] at h;cases a:FA (r.take k) with
  |ok K=>rw[a] at h;cases h
  |error d=>
   rw[a] at h;cases h;rw[FA,Ny r k a];rfl
def NdC (o:Rc) (w:World) (r:Ending) (w':World):Prop:=(∃ ty code,r= .returned (.tuple #[.int .i64 ty,.int .i64 code])∧((code=0∧o= .ok ty)∨(code≠0∧o= .error code)))∧Below w.heap.size w w'
def ofC (c:Int):Option Int→Rc
 |some t=> .ok t
 |none=> .error c
def La (op:Int) (os:List Rc):Rc:=match FA os with
 | .error c=> .error c
 | .ok K=>ofC 9 (nz (Cr op K))
theorem JU (a:Option Addr)(n c:Nat)(N:List Nd)(R:Nat)(w:World)(J:GQ w a n c N)(i:Nat)(x:Nd)(hx:N[i]? =some x)(k:G8 x.op)(S:(DB x.op).1.length≤x.kids.length)(os:List Rc)(T:os.length=x.kids.length)
  (V:∀ j,(h:j < x.kids.length)→(h2:j < os.length)→∀ W,Below w.heap.size w W→Calls Tryz.prog 82 #[.slice a n c,.int .i64 x.kids[j],.pointer (some ⟨R,0,none⟩)] W (NdC os[j] W)):
  Calls Tryz.prog 82 #[.slice a n c,.int .i64 i,.pointer (some ⟨R,0,none⟩)] w (NdC (La x.op os) w):=by
 obtain ⟨ak,al,ao,ap,aq⟩:=info_parts Jk;have aN:=J.small;have ar:=J.len;have hi:i < N.length:=(ze.1 hx).1;have U:N[i]=x:=(ze.1 hx).2;have aO:(i:Int) < (n:Int):=by omega
 obtain ⟨b,aP,rfl,aQ,an,nn,p,s,d,z,c0,c1,c2,c3,c4,au,A⟩:=J.cells i hi;rw[U] at c0 c1 c2 A;have X:=Ab A.len;have aR:=A.small;have L:=Ab T;have av:=Ab V;have aw:=Ab S;have ax:=Ab (fun K h=>(show La x.op os=ofC 9 (nz (Cr x.op K)) by rw[La,(show FA os= .ok K from h)]));have ay:=Ab (show ∀ c,FA os= .error c→La x.op os= .error c from fun c h=>by rw[La,h]);have aS:(x.op== 5)=false:=zB.2 (by unfold G8 at k;omega);have aT:(x.op== 6)=false:=zB.2 (by unfold G8 at k;omega);have aU:(x.op== 7)=false:=zB.2 (by unfold G8 at k;omega);have az:=Ab k;clear au;clear ar hx U hi S T V k;have Y:=Al.new w #[.int .i64 x.op,.int .i64 x.num,.string x.text,.slice an nn p,.slice s d z] 68;have f:=(Below.refl w.heap.size w).alloc NLN (.cells #[.int .i64 x.op,.int .i64 x.num,.string x.text,.slice an nn p,.slice s d z] 68);have Z:w.heap.size < (w.alloc (.cells #[.int .i64 x.op,.int .i64 x.num,.string x.text,.slice an nn p,.slice s d z] 68)).heap.size:=by simp
 go_enter Tryz.func82,Tryz.ntmps82
 go_wp2_with fail
 generalize w.alloc (.cells #[.int .i64 x.op,.int .i64 x.num,.string x.text,.slice an nn p,.slice s d z] 68)=B at Y f Z ⊢;go_loopw [11,71] (fun v i wr=>∃ (j:Nat) (K:List Int),j≤d∧i= .int .i64 j∧wr.ownsRow B.heap.size 3 1 v K.length (Ar K)∧Hid (FA (os.take j)= .ok K)∧Below B.heap.size B wr) (fun _ i _=>d - (intOf i).toNat)
 case atStart=>exact ⟨0, [],by omega,rfl,World.ownsRow_nil _ _ _ _,Ab rfl,BRN⟩
 case round=>
  obtain ⟨j,K,aV,rfl,C,M,l⟩:=hrel;have aa:=f.trans (l.mono f.size);have ab:=l.size;have aW:K.length≤d:=by have:=Nx (Aa M);rw[zb] at this;omega
  by_cases O:j < d
  ·have aX:(j:Int) < (d:Int):=by omega
   have E:j < x.kids.length:=by rw[Aa X];exact O
   have P:j < os.length:=by rw[Aa L];exact E
   obtain ⟨aY,ok,rfl,aZ,aA⟩:=(A.below aa NLN).cells j E;have m:=Ab (Aa av j E P _ aa);have o:=Ab (show FA (os.take (j+1))=os[j].map (fun t=>K ++ [t]) by rw[zf P];exact PS _ _ _ (Aa M));have F:=Ab (show ∀ c,os[j]= .error c→La x.op os= .error c from fun c e=>Aa ay c (Ny os (j+1) (by rw[Aa o,e];rfl)));have ac:=Ab O;generalize x.kids[j]=y at aA m;generalize os[j]=a0 at m o F;obtain ⟨aB,aC,rfl,_⟩:=Ad C;clear E P O;go_wp2_with fail
   refine (Aa m).mono ?_;rintro r w2 ⟨⟨ty,code,rfl,aD⟩,ad⟩;have H:=l.trans (ad.mono ab);have ae:=Au C ad NLN;rcases aD with ⟨rfl,rfl⟩ | ⟨hc,rfl⟩
   ·have aE:=Ab (show FA (os.take (j+1))= .ok (K ++ [ty]) from Aa o);have a1:=H.size;clear o F m;dsimp only;go_wp2_with (at_builtin;refine wpList_append_own _ rfl _ _ 24 rfl B.heap.size 3 ak (.int .i64 0) 1 8 Tryz.underlying24 al ao ap aq rfl (by decide) _ _ _ rfl (World.ownsRow.alloc ae _) ⟨w2.heap.size,0,none⟩ 1 1 [.int .i64 ty] rfl rfl ?d1 ?d2 ?d3 ?d4 ?d5 ?_)
    case d1=>exact Bj _ _ _ _ (by simp)
    case d2=>intro u af;simp at af;subst af;rfl
    case d3=>unfold maxLen;omega
    case d4=>omega
    case d5=>simp;omega
    intro v' a2 aF ag _;have aG:=(H.alloc H.size (.cells #[.int .i64 ty] 3)).grown ag (by simp;omega) (fun q hq=>(ae.lt q hq).1);clear ag;go_wp2_with fail
    go_roundw
    case rel=>exact ⟨j+1,K ++ [ty],Aa ac,by go_num,Ez aF,aE,aG⟩
    case measure=>have:=Aa ac;simp[intOf];omega
   ·have ec:(code != 0)=true:=zS.2 hc;have g:=Ab (Aa F code rfl);have aH:=Ab hc;clear hc o F m;dsimp only;go_wp2_with fail
    exact bodyPost_ret (v:= .tuple #[.int .i64 0,.int .i64 code]) (by simp[results,Tryz.results82,go_sem]) rfl ⟨⟨_,_,rfl,.inr ⟨Aa aH,Aa g⟩⟩,f.trans (H.mono f.size)⟩
  ·have e:j=d:=by omega
   subst e;have ah:=Ab (show FA os= .ok K by rw[← Aa M,zq (by rw[Aa L,Aa X];exact NLN)]);have g:=Ab (Aa ax K (Aa ah));have aI:=Nx (Aa ah);have aJ:=Ab (show (DB x.op).1.length≤K.length by have:=Aa aw;have:=Aa L;omega);obtain ⟨aB,aC,rfl,_⟩:=Ad C;have aK:=EJ C (by omega);have aL:=Y.below l Z;have a3:wr.cell? ⟨w.heap.size,0,none⟩=some (.int .i64 x.op):=aL.cell 0;clear aI;go_wp2_with fail
   refine (Vg x.op (Aa az) _ _ _ K _ aK (Aa aJ)).mono ?_;rintro r a4 ⟨rfl,aM⟩;have ai:=l.trans (aM.mono ab);dsimp only;by_cases ht:Cr x.op K=0
   ·have Q:(Cr x.op K== 0)=true:=zN.2 ht;have I:=Ab (show La x.op os= .error 9 by rw[Aa g,nz,if_pos ht];rfl);clear ht g;generalize Cr x.op K=aj at Q;go_wp2_with fail
    exact bodyPost_ret (v:= .tuple #[.int .i64 0,.int .i64 9]) (by simp[results,Tryz.results82,go_sem]) rfl ⟨⟨_,_,rfl,.inr ⟨by decide,Aa I⟩⟩,f.trans (ai.mono f.size)⟩
   ·have Q:(Cr x.op K== 0)=false:=zB.2 ht;have I:=Ab (show La x.op os= .ok (Cr x.op K) by rw[Aa g,nz,if_neg ht];rfl);clear ht g;generalize Cr x.op K=aj at Q I;go_wp2_with fail
    exact bodyPost_ret (v:= .tuple #[.int .i64 aj,.int .i64 0]) (by simp[results,Tryz.results82,go_sem]) rfl ⟨⟨_,_,rfl,.inl ⟨rfl,Aa I⟩⟩,f.trans (ai.mono f.size)⟩
theorem SX {x:Nd}(h:G8 x.op)(hk:(x.kids.length:Int)=Dn x.op):(DB x.op).1.length≤x.kids.length:=by
 unfold G8 at h;generalize x.op=op at *;generalize x.kids.length=m at *;by_cases h1: 1≤op∧op≤7
 ·have:op=1∨op=2∨op=3∨op=4:=by omega
  rcases this with rfl | rfl | rfl | rfl <;> simp[DB]
 by_cases h2: 8≤op∧op≤10
 ·rw[Dn,if_neg h1,if_pos h2] at hk;have:op=8∨op=9∨op=10:=by omega
  rcases this with rfl | rfl | rfl <;> simp[DB] <;> omega
 by_cases h3: 11≤op∧op≤26
 ·rw[Dn,if_neg h1,if_neg h2,if_pos h3] at hk;have:op=11∨op=12∨op=13∨op=14∨op=15∨op=16∨op=17∨op=18∨op=19∨op=20∨op=21∨op=22∨op=23∨op=24∨op=25∨op=26:=by omega
  rcases this with rfl | rfl | rfl | rfl | rfl | rfl | rfl | rfl | rfl | rfl | rfl | rfl | rfl | rfl | rfl | rfl <;> simp[DB] <;> omega
 ·have h4:op=27:=by omega
  rw[Dn,if_neg h1,if_neg h2,if_neg h3,if_pos h4] at hk;subst h4;simp[DB];omega
end Go.Proofs.YtchakjeegneeoaaGreatDoor
