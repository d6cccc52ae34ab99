/-
  EDI, EDJ, TP, TQ, TH, TR, TT, TU, TX, TY, FRC, LDG. Own work.
-/
import Derived.Test.YtchakjeegneeoaaGreatDoorMXAI
import Derived.Test.YtchakjeegneeoaaGreatDoorMXAS
import Derived.Test.YtchakjeegneeoaaGreatDoorMXAH
import Derived.Test.YtchakjeegneeoaaGreatDoorMXAW
import Derived.Test.YtchakjeegneeoaaGreatDoorMXAD
import Derived.Test.YtchakjeegneeoaaGreatDoorMXAT
import Derived.Deep.Onto
import Derived.Test.YtchakjeegneeoaaGreatDoorMXAE
import Derived.Test.YtchakjeegneeoaaGreatDoorShelf
import Derived.Lib.IndexLaws
import Derived.Lib.ParseIntB
import Derived.Lib.AtoiErrMem
import Derived.WalkMore
import Derived.SevenTiedAt
import Derived.WalkKit
import Derived.ProofKit
import Derived.OpenShut
import Derived.OpenVars
import Derived.ShutString
import Derived.LaidMore
import Derived.LaidHandle
import Derived.Stop.LaidErr
import Derived.Stop.Joined
import Derived.ChangeOld
import Derived.Below
import Derived.WalkSmall
namespace Go.Proofs.YtchakjeegneeoaaGreatDoor
set_option maxRecDepth 100000
open Go.RowKit
set_option linter.unusedVariables false
theorem CC {P:Program}{w:World}{b:Array Oper}{rest:List Oper}{o:Oper}{a:Act}{Q:Exit→Act→World→Prop}(d:o.guard=none)(s x:Operand)(t:TypeId)
  (f:o.op= .call { callee:= .builtin .append,args:=#[s,x],argTypes:=#[t,t] })
  (j:Nat)(e:TypeId)(i:TypeInfo)(size c:Nat)(ht:P.underlying t=some (.slice e))(hi:P.info? e=some i)
  (v:Value)(n:Nat)(k:List Value)(hs:a.eval s=v)(l:w.ownsRow j e size v n k)(hx:a.eval x= .slice none 0 c)
  (h:wpList P b Q rest (a.put o.dst v) w):wpList P b Q (o ::rest) a w:=by
 refine wpList_plain d fun K m=>?_;have p:(Builtin.append_ #[t,t] o.type #[v,.slice none 0 c]).run P w= .ok v w:=by
  rcases l.2 with ⟨rfl,rfl⟩ | ⟨g,cap,r,rfl,_,_,q,_⟩
  ·simp[Builtin.append_,run_underlying ht,sizeOf,typeInfo,hi,Builtin.lenOf,Builtin.firstCells]
  ·simp[Builtin.append_,run_underlying ht,sizeOf,typeInfo,hi,Builtin.lenOf,Builtin.firstCells,q,storeCells]
 unfold Oper.wp;simp[execOp,f,resolve,invoke,builtin,hs,hx,p,Result.andThen];exact m _ _ h
theorem Jc {l:Array Oper}{rest:List Oper}{o:Oper}{d:Act}{Q:Exit→Act→World→Prop}{w:World}(m:o.guard=none)(s x:Operand)(p:o.op= .call { callee:= .builtin .append,args:=#[s,x],argTypes:=#[56,56] })(b:Nat)(v:Value)(k:Nat)(f:List Value)(hs:d.eval s=v)(g:w.ownsRow b 9 1 v k f)(a:Option Addr)(n c:Nat)(j:List ByteArray)(hx:d.eval x= .slice a n c)(h:Bg w a n c j)(hk:k+n≤1048576)(r:b≤w.heap.size)
  (t:∀ v' w',w'.ownsRow b 9 1 v' (k+n) (f ++j.map Value.string)→Below b w w'→wpList Tryz.prog l Q rest (d.put o.dst v') w'):wpList Tryz.prog l Q (o ::rest) d w:=by
 obtain ⟨i,hi,y,z,A⟩:=info_parts M8;cases a with
 |none=>
  have h0:n=0:=by
   rcases Nat.eq_zero_or_pos n with q | q
   ·exact q
   ·obtain ⟨I,J,B,_⟩:=h.cells 0 q;cases B
  subst h0;obtain rfl:j= []:=zy h.len.symm;exact CC m s x 56 p b 9 i 1 c Tryz.underlying56 hi v k f hs g hx (t v w (by simpa using g) BRN)
 |some C=>
  refine wpList_append_own w m s x 56 p b 9 i (.string ByteArray.empty) 1 16 Tryz.underlying56 hi y z A rfl (by decide) v k f hs g C n c (j.map Value.string) hx ?_ (Bg.newsG h) ?_ ?_ ?_ r ?_
  ·rw[zV,h.len];omega
  ·intro u E;obtain ⟨s,_,rfl⟩:=zQ.1 E;rfl
  ·unfold maxLen;omega
  ·omega
  ·intro v' w' F H _;exact t v' w' F (BRN.grown H r (fun q hq=>(g.lt q hq).1))
theorem ZE (b a j:Nat):(⟨b,a,none⟩:Addr).add j=⟨b,a+j,none⟩:=by
 by_cases e:j=0 <;> simp[Addr.add,e]
theorem Jd {r:Array Oper}{rest:List Oper}{o:Oper}{f:Act}{Q:Exit→Act→World→Prop}{w:World}(t:o.guard=none)(s x:Operand)(y:o.op= .call { callee:= .builtin .append,args:=#[s,x],argTypes:=#[24,24] })(b:Nat)(v:Value)(k:Nat)(g:List Value)(hs:f.eval s=v)(l:w.ownsRow b 3 1 v k g)(a:Option Addr)(n c:Nat)(d:List Int)(hx:f.eval x= .slice a n c)(h:BT w a n c d)(hk:k+n≤1048576)(z:b≤w.heap.size)
  (A:∀ v' w',w'.ownsRow b 3 1 v' (k+n) (g ++Ar d)→Below b w w'→wpList Tryz.prog r Q rest (f.put o.dst v') w'):wpList Tryz.prog r Q (o ::rest) f w:=by
 obtain ⟨i,hi,E,F,H⟩:=info_parts Jk;have B:=h.len;cases a with
 |none=>
  have h0:n=0:=by
   rcases Nat.eq_zero_or_pos n with q | q
   ·exact q
   ·obtain ⟨I,J,p,_⟩:=h.cells 0 (by omega);cases p
  subst h0;obtain rfl:d= []:=zy B;exact CC t s x 24 y b 3 i 1 c Tryz.underlying24 hi v k g hs l hx (A v w (by simpa[Ar] using l) BRN)
 |some K=>
  refine wpList_append_own w t s x 24 y b 3 i (.int .i64 0) 1 8 Tryz.underlying24 hi E F H rfl (by decide) v k g hs l K n c (Ar d) hx ?_ ?_ ?_ ?_ ?_ z ?_
  ·simp[Ar,B]
  ·intro j u m;have C:j < d.length:=by
    have:=(ze.1 m).1;simpa[Ar] using this
   obtain ⟨I,J,p,_,L⟩:=h.cells j C;cases p;rw[ZE,L,← m];simp[Ar,C]
  ·intro u m;obtain ⟨s,_,rfl⟩:=zQ.1 m;rfl
  ·unfold maxLen;omega
  ·omega
  ·intro v' w' M N _;exact A v' w' M (BRN.grown N z (fun q hq=>(l.lt q hq).1))
theorem ZF:(Tryz.prog.info? 60).map (fun i=>(i.zero,i.size,i.bytes))=some (some (.agg #[.int .i64 0,.string ByteArray.empty,.int .i64 0,.int .i64 0]),4,40):=by kernel_rfl
theorem Jz {t:Array Oper}{rest:List Oper}{o:Oper}{f:Act}{Q:Exit→Act→World→Prop}{w:World}(y:o.guard=none)(s x:Operand)(z:o.op= .call { callee:= .builtin .append,args:=#[s,x],argTypes:=#[23,23] })(d:Nat)(v:Value)(k:Nat)(g:List Value)(hs:f.eval s=v)(l:w.ownsRow d 60 4 v k g)(a:Option Addr)(n c:Nat)(L:List St)(hx:f.eval x= .slice a n c)(h:KN w a n c L)(hk:k+n≤65536)(A:d≤w.heap.size)
  (B:∀ v' w',w'.ownsRow d 60 4 v' (k+n) (g ++Cy L)→Below d w w'→wpList Tryz.prog t Q rest (f.put o.dst v') w'):wpList Tryz.prog t Q (o ::rest) f w:=by
 obtain ⟨i,hi,E,F,H⟩:=info_parts ZF;have C:=h.len;cases a with
 |none=>
  have h0:n=0:=by
   rcases Nat.eq_zero_or_pos n with q | q
   ·exact q
   ·obtain ⟨I,m,p,_⟩:=h.cells 0 (by omega);cases p
  subst h0;obtain rfl:L= []:=zy C;exact CC y s x 23 z d 60 i 4 c Tryz.underlying23 hi v k g hs l hx (B v w (by simpa[Cy] using l) BRN)
 |some J=>
  refine wpList_append_own w y s x 23 z d 60 i (.agg #[.int .i64 0,.string ByteArray.empty,.int .i64 0,.int .i64 0]) 4 40 Tryz.underlying23 hi E F H rfl (by decide) v k g hs l J n c (Cy L) hx ?_ ?_ ?_ ?_ ?_ A ?_
  ·rw[Ig,C]
  ·intro j u b;have O:j < L.length * 4:=by
    have:=(ze.1 b).1
    rwa[Ig] at this
   have hq:j / 4 < L.length:=by omega
   have e:j=(j / 4) * 4+j % 4:=by omega
   have K:j % 4 < 4:=by omega
   obtain ⟨I,m,p,_,c0,c1,c2,c3⟩:=h.cells (j / 4) hq;cases p;have hs:=JX L (j / 4) hq (j % 4) K;rw[← e,b] at hs;rw[ZE,show m+j=m+j / 4 * 4+j % 4 by omega];have:j % 4=0∨j % 4=1∨j % 4=2∨j % 4=3:=by omega
   rcases this with r | r | r | r <;> rw[r] at hs ⊢
   ·rw[zZ,c0,hs];rfl
   ·rw[c1,hs];rfl
   ·rw[c2,hs];rfl
   ·rw[c3,hs];rfl
  ·intro u b;obtain ⟨s,_,b⟩:=List.mem_flatMap.1 b;simp at b;rcases b with rfl | rfl | rfl | rfl <;> rfl
  ·unfold maxLen;omega
  ·omega
  ·intro v' w' M N _;exact B v' w' M (BRN.grown N A (fun q hq=>(l.lt q hq).1))
set_option maxHeartbeats 3200000
def NdK (x:Nd) (w:World) (r:Ending) (w':World):Prop:=(∃ u cu k ck,r= .returned (.agg #[.int .i64 x.op,.int .i64 x.num,.string x.text,.slice u x.names.length cu,.slice k x.kids.length ck])∧w'.ownsRow w.heap.size 9 1 (.slice u x.names.length cu) x.names.length (x.names.map Value.string)∧w'.ownsRow w.heap.size 3 1 (.slice k x.kids.length ck) x.kids.length (Ar x.kids))∧Below w.heap.size w w'
theorem IQ {w:World}{B a:Nat}{e:TypeId}{size n:Nat}{v:Value}{b:List Value}(h:w.ownsRow B e size v n b)(hB:a≤B):w.ownsRow a e size v n b:=by
 refine ⟨h.1, ?_⟩;rcases h.2 with q | ⟨g,cap,c,h1,h2,h3⟩
 ·exact .inl q
 ·exact .inr ⟨g,cap,c,h1,zD hB h2,h3⟩
theorem Vl (op c:Int)(d:ByteArray)(ns:List ByteArray)(ks:List Int)(an:Option Addr)(nn l:Nat)(j:Option Addr)(a g:Nat)(w:World)(V:Bg w an nn l ns)(I:BT w j a g ks)(hs:nn≤1048576):
  Calls Tryz.prog 31 #[.agg #[.int .i64 op,.int .i64 c,.string d,.slice an nn l,.slice j a g]] w fun r w'=>(∃ u b k g,r= .returned (.agg #[.int .i64 op,.int .i64 c,.string d,.slice u nn b,.slice k a g])∧w'.ownsRow w.heap.size 9 1 (.slice u nn b) nn (ns.map Value.string)∧w'.ownsRow w.heap.size 3 1 (.slice k a g) a (Ar ks))∧Below w.heap.size w w':=by
 have aA:=I.small;have J:=((Al.new w #[.int .i64 op,.int .i64 c,.string d,.slice an nn l,.slice j a g] 68).alloc (.cells #[.int .i64 0,.int .i64 0,.string ⟨#[]⟩,.slice none 0 0,.slice none 0 0] 68)).alloc (.cells #[.int .i64 op,.int .i64 c,.string d,.slice none 0 0,.slice none 0 0] 68);have y:=(Al.new (w.alloc (.cells #[.int .i64 op,.int .i64 c,.string d,.slice an nn l,.slice j a g] 68)) #[.int .i64 0,.int .i64 0,.string ⟨#[]⟩,.slice none 0 0,.slice none 0 0] 68).alloc (.cells #[.int .i64 op,.int .i64 c,.string d,.slice none 0 0,.slice none 0 0] 68);have z:=Al.new ((w.alloc (.cells #[.int .i64 op,.int .i64 c,.string d,.slice an nn l,.slice j a g] 68)).alloc (.cells #[.int .i64 0,.int .i64 0,.string ⟨#[]⟩,.slice none 0 0,.slice none 0 0] 68)) #[.int .i64 op,.int .i64 c,.string d,.slice none 0 0,.slice none 0 0] 68;have A:=(((Below.refl w.heap.size w).alloc NLN (.cells #[.int .i64 op,.int .i64 c,.string d,.slice an nn l,.slice j a g] 68)).alloc (by simp) (.cells #[.int .i64 0,.int .i64 0,.string ⟨#[]⟩,.slice none 0 0,.slice none 0 0] 68)).alloc (by simp;omega) (.cells #[.int .i64 op,.int .i64 c,.string d,.slice none 0 0,.slice none 0 0] 68);simp only[World.size_alloc] at y z;have aj:∃ K,K=((w.alloc (.cells #[.int .i64 op,.int .i64 c,.string d,.slice an nn l,.slice j a g] 68)).alloc (.cells #[.int .i64 0,.int .i64 0,.string ⟨#[]⟩,.slice none 0 0,.slice none 0 0] 68)).alloc (.cells #[.int .i64 op,.int .i64 c,.string d,.slice none 0 0,.slice none 0 0] 68):=⟨_,rfl⟩
 have L:=V.below A NLN;have ak:=Ab I;clear V I;go_enter Tryz.func31,Tryz.ntmps31
 go_wp2_with (at_builtin;refine Jc rfl _ _ rfl _ _ 0 [] rfl (World.ownsRow_nil _ (w.heap.size+1+1+1) _ _) an nn l ns rfl L (by omega) (by simp) ?_)
 intro aB o B m;obtain ⟨K,M⟩:=aj;have aC:K.heap.size=w.heap.size+1+1+1:=by rw[M];simp
 rw[← M] at J y z A L m;clear M;have W:=J.below m (by omega);have X:=y.below m (by omega);have N:=z.below m (by omega);have Y:=A.trans (m.mono (by omega));clear J y z A L;obtain ⟨f,b,rfl,_⟩:=Ad B;obtain ⟨m0,Z,aa,ab,ac⟩:=E9 N;have ad:=fun k=>N.frozen k;have aD:w.heap.size+1+1+1≤o.heap.size:=by have:=m.size;omega
 have C:=N.set 3 (.slice f nn b);have E:=W.setFar (p:=⟨w.heap.size+1+1,3,none⟩) (by show w.heap.size≠w.heap.size+1+1;omega) (.slice f nn b);have O:=X.setFar (p:=⟨w.heap.size+1+1,3,none⟩) (by show w.heap.size+1≠w.heap.size+1+1;omega) (.slice f nn b);have t:=Y.setCell (p:=⟨w.heap.size+1+1,3,none⟩) (by show w.heap.size≤w.heap.size+1+1;omega) (.slice f nn b);have P:=AA B ⟨w.heap.size+1+1,3,none⟩ (.slice f nn b) (fun q hq=>by have:=(B.lt q hq).1;show q≠w.heap.size+1+1;omega);have ae:=(Aa ak).below t NLN;have al:(o.setCell ⟨w.heap.size+1+1,3,none⟩ (.slice f nn b)).cell? ⟨w.heap.size,4,none⟩=some (.slice j a g):=E.cell 4;have ao:(o.setCell ⟨w.heap.size+1+1,3,none⟩ (.slice f nn b)).cell? ⟨w.heap.size+1+1,4,none⟩=some (.slice none 0 0):=C.cell 4;clear W X Y B m;have ap:∃ F,F=o.setCell ⟨w.heap.size+1+1,3,none⟩ (.slice f nn b):=⟨_,rfl⟩
 go_wp2_with (at_builtin;refine Jd rfl _ _ rfl _ _ 0 [] rfl (World.ownsRow_nil _ o.heap.size _ _) j a g ks rfl ae (by omega) (by simp) ?_)
 intro aE aF x n;obtain ⟨F,Q⟩:=ap;have aq:F.heap.size=o.heap.size:=by rw[Q];simp
 rw[← Q] at E O C t P n;clear Q al ao m0 Z aa ab ac ad ae;rw[← aq] at n x;have ar:=E.after n NLN;have af:=O.after n NLN;have R:=C.after n NLN;have ag:=t.trans (n.mono t.size);have S:=Au P n NLN;obtain ⟨h,i,rfl,_⟩:=Ad x;clear E O C t P;obtain ⟨m0,Z,aa,ab,ac⟩:=E9 R;have ad:=fun k=>R.frozen k;have aG:=R.set 4 (.slice h a i);have H:=af.setFar (p:=⟨w.heap.size+1+1,4,none⟩) (by show w.heap.size+1≠w.heap.size+1+1;omega) (.slice h a i);have au:=ag.setCell (p:=⟨w.heap.size+1+1,4,none⟩) (by show w.heap.size≤w.heap.size+1+1;omega) (.slice h a i);have T:=AA S ⟨w.heap.size+1+1,4,none⟩ (.slice h a i) (fun q hq=>by have:=(S.lt q hq).1;show q≠w.heap.size+1+1;omega);have U:=AA x ⟨w.heap.size+1+1,4,none⟩ (.slice h a i) (fun q hq=>by have:=(x.lt q hq).1;show q≠w.heap.size+1+1;omega);clear ar af ag S x;have aH:=H;obtain ⟨aI,aJ,aK,aL,aM⟩:=E9 H;have aN:=fun k=>H.frozen k;have av:=((((H.set 0 (.int .i64 op)).set 1 (.int .i64 c)).set 2 (.string d)).set 3 (.slice f nn b)).set 4 (.slice h a i);have aw:=((((au.setCell (p:=⟨w.heap.size+1,0,none⟩) (zJ _) (.int .i64 op)).setCell (p:=⟨w.heap.size+1,1,none⟩) (zJ _) (.int .i64 c)).setCell (p:=⟨w.heap.size+1,2,none⟩) (zJ _) (.string d)).setCell (p:=⟨w.heap.size+1,3,none⟩) (zJ _) (.slice f nn b)).setCell (p:=⟨w.heap.size+1,4,none⟩) (zJ _) (.slice h a i);have hp:∀ q,(Value.slice f nn b).ownBlock=some q→q≠w.heap.size+1:=fun q hq=>by have:=(T.lt q hq).1;omega
 have s:∀ q,(Value.slice h a i).ownBlock=some q→q≠w.heap.size+1:=fun q hq=>by have:=(U.lt q hq).1;omega
 have ah:=AA (AA (AA (AA (AA T ⟨w.heap.size+1,0,none⟩ (.int .i64 op) hp) ⟨w.heap.size+1,1,none⟩ (.int .i64 c) hp) ⟨w.heap.size+1,2,none⟩ (.string d) hp) ⟨w.heap.size+1,3,none⟩ (.slice f nn b) hp) ⟨w.heap.size+1,4,none⟩ (.slice h a i) hp;have ai:=AA (AA (AA (AA (AA U ⟨w.heap.size+1,0,none⟩ (.int .i64 op) s) ⟨w.heap.size+1,1,none⟩ (.int .i64 c) s) ⟨w.heap.size+1,2,none⟩ (.string d) s) ⟨w.heap.size+1,3,none⟩ (.slice f nn b) s) ⟨w.heap.size+1,4,none⟩ (.slice h a i) s;have ax:=Ab (IQ ah (show w.heap.size≤w.heap.size+1+1+1 by omega));have ay:=Ab (IQ ai (show w.heap.size≤F.heap.size by omega));clear ah ai T U hp s;go_wp2_with fail
 obtain ⟨az,e1,e2,e3,e4⟩:=E9 av;refine bodyPost_ret (v:= .agg #[.int .i64 op,.int .i64 c,.string d,.slice f nn b,.slice h a i]) (by simp[results,Tryz.results31,go_sem,az,e1,e2,e3,e4]) rfl ⟨⟨f,b,h,i, ?_, ?_, ?_⟩,aw⟩
 ·rfl
 ·exact Aa ax
 ·exact Aa ay
theorem Vm (x:Nd)(an:Option Addr)(nn a:Nat)(b:Option Addr)(c d:Nat)(w:World)(f:Bg w an nn a x.names)(g:BT w b c d x.kids)(hs:nn≤1048576):
  Calls Tryz.prog 31 #[.agg #[.int .i64 x.op,.int .i64 x.num,.string x.text,.slice an nn a,.slice b c d]] w (NdK x w):=by
 have h1:=f.len;have h2:=g.len;refine (Vl x.op x.num x.text x.names x.kids an nn a b c d w f g hs).mono ?_;subst h1;subst h2;exact fun r w' h=>h
set_option maxHeartbeats 6400000
theorem Acx {x:ByteArray}{q:Nat}(h:q < x.size):x[q]∈Ap x:=by
 have a:q < (Ap x).length:=by rw[Av];exact h
 exact zO (l:=Ap x) a
theorem OC {s:ByteArray}{j k:Nat}(h:k < s.size)(b:j≤k):Cc ((Ap s).drop j) (k - j)=(Sn s[k] || decide (s[k]=95)):=by
 have e:((Ap s).drop j)[k - j]? =some s[k]:=by
  have a:k < (Ap s).length:=by rw[Av];exact h
  rw[List.getElem?_drop,show j+(k - j)=k by omega,zH a];rfl
 rw[Cc,e]
theorem Ml {s:ByteArray}{j k:Nat}(h:s.size≤k):Cc ((Ap s).drop j) (k - j)=false:=by
 have e:((Ap s).drop j)[k - j]? =none:=by
  rw[yB];rw[zp,Av];omega
 rw[Cc,e]
theorem Aa9 {c:UInt8}(h:(c.toNat:Int)=95):c=95:=UInt8.toNat_inj.1 (by have:(95 :UInt8).toNat=95:=rfl;omega)
theorem Xk {c:UInt8}(h: ¬ (c.toNat:Int)=95): ¬ c=95:=fun e=>h (by rw[e];rfl)
theorem Xl {r:List UInt8}{n:Nat}(d:AR DJ r=n)(f:n=19):(r.take n < OA↔E6 (r.take n) < 9223372036854775807)∧(OA < r.take n↔9223372036854775807 < E6 (r.take n)):=by
 have h:=GY DJ r;have a:(r.take n).length=OA.length:=by
  rw[zb];show _=19;omega
 have b:(r.take n).all DJ=true:=by rw[← d];exact EP DJ r
 have c:OA.all DJ=true:=by decide
 have h1:=V9 _ _ a b c;have h2:=V9 _ _ a.symm c b;rw[Aa8] at h1 h2;exact ⟨h1,h2⟩
theorem Aba {x:ByteArray}{l:List UInt8}(hx:Ap x=l):Op.bytesLess x.toList [57,50,50,51,51,55,50,48,51,54,56,53,52,55,55,53,56,48,55]=true↔l < OA:=by
 have h0:Op.bytesLess x.toList [57,50,50,51,51,55,50,48,51,54,56,53,52,55,55,53,56,48,55]=sl x (AB OA):=by
  unfold sl;rw[za (AB OA)];rfl
 rw[h0,Na,← hx];exact Iff.rfl
theorem Abb {r:List UInt8}{n:Nat}(a:AR DJ r=n)(b:n=19){x:ByteArray}(hx:Ap x=r.take n)(h:Op.bytesLess x.toList [57,50,50,51,51,55,50,48,51,54,56,53,52,55,55,53,56,48,55]=true):E6 (r.take n)≤9223372036854775807:=by
 have:=(Xl a b).1.1 ((Aba hx).1 h);omega
theorem Abc {r:List UInt8}{n:Nat}{x:ByteArray}(hx:Ap x=r.take n)(h:(x.toList== [57,50,50,51,51,55,50,48,51,54,56,53,52,55,55,53,56,48,55])=true):E6 (r.take n)≤9223372036854775807:=by
 rw[zN,za] at h;have e:Ap x=OA:=h;rw[← hx,e,Aa8];omega
theorem YN {r:List UInt8}{n:Nat}(b:AR DJ r=n)(c:n=19){x:ByteArray}(hx:Ap x=r.take n)(h:Op.bytesLess x.toList [57,50,50,51,51,55,50,48,51,54,56,53,52,55,55,53,56,48,55]=false)
  (a:(x.toList== [57,50,50,51,51,55,50,48,51,54,56,53,52,55,55,53,56,48,55])=false): 9223372036854775807 < E6 (r.take n):=by
 refine (Xl b c).2.1 ?_;have h1: ¬ r.take n < OA:=fun k=>by rw[(Aba hx).2 k] at h;cases h
 rw[zB,za] at a;have h2:r.take n≠OA:=fun k=>a (hx.trans k);rcases List.le_iff_lt_or_eq.1 (List.not_lt.1 h1) with k | k
 ·exact k
 ·exact absurd k.symm h2
theorem YO {r:List UInt8}{n:Nat}(a:AR DJ r=n)(b:n≤18):E6 (r.take n)≤9223372036854775807:=by
 have:=GY DJ r;have c:=EB n (r.take n) (by rw[zb];omega) (by rw[← a];exact EP DJ r);have h1: 10 ^ n≤10 ^ 18:=Nat.pow_le_pow_right (n:=10) (by decide) b;have e1: 10 ^ 18=1000000000000000000:=rfl;have h2:(10 :Int) ^ n≤1000000000000000000:=by
  show ((10 :Nat):Int) ^ n≤_;rw[← Int.natCast_pow];omega
 omega
theorem YP {r:List UInt8}{n:Nat}(a:AR DJ r=n){x:ByteArray}(hx:Ap x=r.take n): 19 < n∨(n=19∧Op.bytesLess x.toList [57,50,50,51,51,55,50,48,51,54,56,53,52,55,55,53,56,48,55]=false∧(x.toList== [57,50,50,51,51,55,50,48,51,54,56,53,52,55,55,53,56,48,55])=false∧9223372036854775807 < E6 (r.take n))∨(n=19∧Op.bytesLess x.toList [57,50,50,51,51,55,50,48,51,54,56,53,52,55,55,53,56,48,55]=false∧(x.toList== [57,50,50,51,51,55,50,48,51,54,56,53,52,55,55,53,56,48,55])=true∧E6 (r.take n)≤9223372036854775807)∨(n=19∧Op.bytesLess x.toList [57,50,50,51,51,55,50,48,51,54,56,53,52,55,55,53,56,48,55]=true∧E6 (r.take n)≤9223372036854775807)∨(n < 19∧E6 (r.take n)≤9223372036854775807):=by
 rcases Nat.lt_trichotomy n 19 with h | h | h
 ·exact .inr (.inr (.inr (.inr ⟨h,YO a (by omega)⟩)))
 ·cases h1:Op.bytesLess x.toList [57,50,50,51,51,55,50,48,51,54,56,53,52,55,55,53,56,48,55]
  ·cases h2:(x.toList== [57,50,50,51,51,55,50,48,51,54,56,53,52,55,55,53,56,48,55])
   ·exact .inr (.inl ⟨h,rfl,rfl,YN a h hx h1 h2⟩)
   ·exact .inr (.inr (.inl ⟨h,rfl,rfl,Abc hx h2⟩))
  ·exact .inr (.inr (.inr (.inl ⟨h,rfl,Abb a h hx h1⟩)))
 ·exact .inl h
theorem YM (s:ByteArray)(j:Nat)(w:World)(hs:s.size≤1048576)(K:j < s.size)(L:JG (s[j].toNat:Int)=false)(hd:dgI (s[j].toNat:Int)=true):
  Calls Tryz.prog 43 #[.string s,.int .i64 j] w fun e w'=>G7 j (DZ ((Ap s).drop j)) e∧Below w.heap.size w w':=by
 have ap:(j:Int) < (s.size:Int):=by omega
 obtain ⟨aq,ar⟩:=Xj (p:=DJ) (s:=s) (Nat.le_of_lt K);have au:=Ab (EH DJ s j);obtain ⟨W,Y,m,z,A,av⟩:=I9 w j;have Z:=Ab L;have aa:=Ab hd;clear L hd;go_enter Tryz.func43,Tryz.ntmps43
 go_wp2_with (first | (go_at_call 66;refine (AW _ _).mono ?_;rintro e w' ⟨rfl,d⟩;rw[Aa Z,d];clear d) | (go_at_call 69;refine (BQ _ _).mono ?_;rintro e w' ⟨rfl,d⟩;rw[Aa aa,d];clear d))
 clear Y;go_loop [10] (fun i=>∃ k:Nat,j≤k∧k≤s.size∧i= .int .i64 k∧Eb DJ s j=Eb DJ s k) (fun i=>s.size - (intOf i).toNat)
 case atStart=>exact ⟨j,NLN,Nat.le_of_lt K,rfl,rfl⟩
 case round=>
  obtain ⟨k,ab,hk,rfl,he⟩:=hrel;have M:=Ab he;clear he;have n:∀ (hq:Eb DJ s k=k),Eb DJ s j=k:=fun hq=>by rw[Aa M,hq]
  obtain ⟨c0,c1,c2,c3,N⟩:=AX z;obtain ⟨O,d1,d2,d3,P⟩:=AX m;by_cases B:k < s.size
  case' neg=>
   have g:=Ab (show AR DJ ((Ap s).drop j)=k - j by have:=n (GJ (by omega));have:=EH DJ s j;omega);have l:=Ab (show Cc ((Ap s).drop j) (k - j)=false from Ml (by omega));have ac: ¬ ((k:Int) < (s.size:Int)):=by omega
   clear n
  case' pos=>
   have ac:(k:Int) < (s.size:Int):=by omega
   cases f:DJ s[k]
   case true=>
    have ad:=Ab (Fu B f);have o:=Ab (show dgI (s[k].toNat:Int)=true from f);clear f;go_wp2_with (go_at_call 69;refine (BQ _ _).mono ?_;rintro e w' ⟨rfl,d⟩;rw[Aa o,d];clear d)
    go_round
    case rel=>exact ⟨k+1,by omega,by omega,by go_num,by rw[Aa M,Aa ad]⟩
    case measure=>simp[intOf];omega
   have g:=Ab (show AR DJ ((Ap s).drop j)=k - j by have:=n (Ft B f);have:=EH DJ s j;omega);have o:=Ab (show dgI (s[k].toNat:Int)=false from f);have r:=OC B ab;clear f n;cases t:JG (s[k].toNat:Int)
   case' true=>have l:=Ab (show Cc ((Ap s).drop j) (k - j)=true by rw[r];simp[Sn,t])
   case' false=>
    by_cases C:(s[k].toNat:Int)=95
    case' pos=>have l:=Ab (show Cc ((Ap s).drop j) (k - j)=true by rw[r];simp[Sn,Aa9 C])
    case' neg=>
     have l:=Ab (show Cc ((Ap s).drop j) (k - j)=false by rw[r];simp[Sn,t,Xk C]);have aw:=zB.2 C
   all_goals
    have Q:=Ab t;clear t r
  all_goals
   have ax:(s.extract j k).size=k - j:=by rw[ByteArray.size_extract];omega
   have u:=Ab (BR s j k);rcases YP (Aa g) (Aa u) with h | ⟨h,R,ae,h2⟩ | ⟨h,R,ae,h2⟩ | ⟨h,R,h2⟩ | ⟨h,h2⟩
  all_goals
   first
   |have af:(19 :Int) < (k:Int) - (j:Int):=by omega
   |have af: ¬ ((19 :Int) < (k:Int) - (j:Int)):=by omega
    have E:=Ab h2;clear h2
    first
    |have ag:(((k - j:Nat):Int)== 19)=true:=by rw[h];rfl
    |have ag:(((k - j:Nat):Int)== 19)=false:=zB.2 (by omega)
   first
   |have ah:=Ab (show ∀ p,(19 < k - j→p)→(Cc ((Ap s).drop j) (k - j)=true→p)→(9223372036854775807 < E6 (((Ap s).drop j).take (k - j))→p)→p from fun p a b c=>by first | exact a h | exact b (Aa l) | exact c (Aa E))
    go_wp2_with (first | (go_at_call 69;refine (BQ _ _).mono ?_;rintro e w' ⟨rfl,d⟩;(first | rw[Aa o,d] | rw[show dgI 95=false from by decide,d]);clear d) | (go_at_call 66;refine (AW _ _).mono ?_;rintro e w' ⟨rfl,d⟩;(first | rw[Aa Q,d] | rw[show JG 95=false from by decide,d]);clear d))
    have F:=Ao (b:=w.heap.size) (A.setCell (p:=⟨w.heap.size+1,0,none⟩) (by show w.heap.size≤w.heap.size+1;omega) (.int .i64 1)) NLN (.int .i64 1) (.int .i64 0) (.string ⟨#[]⟩) (.int .i64 j);obtain ⟨g0,g1,g2,g3,_⟩:=AX (AD (m.setFar (p:=⟨w.heap.size+1,0,none⟩) (by show w.heap.size≠w.heap.size+1;omega) (.int .i64 1)) (.int .i64 1) (.int .i64 0) (.string ⟨#[]⟩) (.int .i64 j));simp only[CH] at g0 g1 g2 g3;refine bodyPost_ret (Aw Tryz.results43 rfl g0 g1 g2 g3) rfl ⟨?_,F⟩;rw[DZ,if_pos (by rw[Aa g];exact Aa ah _ .inl (fun h=> .inr (.inl h)) (fun h=> .inr (.inr h)))];exact ⟨_,_,_,_,rfl⟩
   |go_wp2_with (first | (go_at_call 69;refine (BQ _ _).mono ?_;rintro e w' ⟨rfl,d⟩;(first | rw[Aa o,d] | rw[show dgI 95=false from by decide,d]);clear d) | (go_at_call 66;refine (AW _ _).mono ?_;rintro e w' ⟨rfl,d⟩;(first | rw[Aa Q,d] | rw[show JG 95=false from by decide,d]);clear d))
    generalize s.extract j k=x at *;have H:=Ab (show (Ap x).all DJ=true by rw[Aa u,← Aa g];exact EP DJ _);have ai:=Ab (show E6 (Ap x)≤9223372036854775807 by rw[Aa u];exact Aa E);go_loopw [12] (fun i wr=>∃ (q:Nat) (v:Int),q≤k - j∧i= .int .i64 q∧v=E6 ((Ap x).take q)∧Al wr w.heap.size #[.int .i64 0,.int .i64 0,.string ⟨#[]⟩,.int .i64 0] 51∧Al wr (w.heap.size+1) #[.int .i64 1,.int .i64 v,.string ⟨#[]⟩,.int .i64 j] 51∧Below w.heap.size w wr) (fun i _=>(k - j) - (intOf i).toNat)
    case atStart=>exact ⟨0,0,zF _,rfl,rfl,m.setFar (p:=⟨w.heap.size+1,0,none⟩) (by show w.heap.size≠w.heap.size+1;omega) (.int .i64 1),z.set 0 (.int .i64 1),A.setCell (p:=⟨w.heap.size+1,0,none⟩) (by show w.heap.size≤w.heap.size+1;omega) (.int .i64 1)⟩
    case round=>
     obtain ⟨q,v,hq,rfl,y,I,S,T⟩:=hrel;clear c0 c1 c2 c3 N O d1 d2 d3 P m z A;obtain ⟨c0,c1,c2,c3,N⟩:=AX S;obtain ⟨O,d1,d2,d3,P⟩:=AX I;by_cases ay:q < k - j
     ·have U:q < x.size:=by omega
      have aj:(q:Int) < ((k - j:Nat):Int):=by omega
      have V:DJ x[q]=true:=z6.1 (Aa H) _ (Acx U);obtain ⟨b1,b2⟩:=(Sd _).1 V;have X:v * 10+((x[q].toNat:Int) - 48)=E6 ((Ap x).take (q+1)):=by rw[Ap,I7 x q U,Ux,← Ap,← y]
      have ak:=Mk (q+1) (Ap x) (Aa H);have al:=(Mk q (Ap x) (Aa H)).1;have ao:=Aa ai;have az: 0≤v:=by omega
      have aA:v * 10+((x[q].toNat:Int) - 48)≤9223372036854775807:=by omega
      have J:=Ab X;clear X ak al ao y V;go_wp2
      go_region
      go_wp2
      go_roundw
      case rel=>exact ⟨q+1,v * 10+((x[q].toNat:Int) - 48),by omega,by go_num,Aa J,⟨(I.setFar (p:=⟨w.heap.size+1,1,none⟩) (by show w.heap.size≠w.heap.size+1;omega) (.int .i64 (v * 10+((x[q].toNat:Int) - 48)))).out⟩,⟨(S.set 1 (.int .i64 (v * 10+((x[q].toNat:Int) - 48)))).out⟩,(T.setCell (p:=⟨w.heap.size+1,1,none⟩) (by show w.heap.size≤w.heap.size+1;omega) (.int .i64 (v * 10+((x[q].toNat:Int) - 48)))).drew⟩
      case measure=>simp[intOf];omega
     ·have aj: ¬ ((q:Int) < ((k - j:Nat):Int)):=by omega
      have J:=Ab (show v=E6 (((Ap s).drop j).take (k - j)) by rw[y,← Aa u,zq (by rw[Av];omega)]);clear y;go_wp2_with fail
      have F:=Ao (b:=w.heap.size) T NLN (.int .i64 1) (.int .i64 v) (.string ⟨#[]⟩) (.int .i64 j);obtain ⟨g0,g1,g2,g3,_⟩:=AX (AD I (.int .i64 1) (.int .i64 v) (.string ⟨#[]⟩) (.int .i64 j));simp only[CH] at g0 g1 g2 g3;refine bodyPost_ret (Aw Tryz.results43 rfl g0 g1 g2 g3) rfl ⟨?_,F⟩;rw[DZ,Aa g,if_neg (by rintro (h | h | h);omega;rw[Aa l] at h;cases h;have:=Aa E;omega),← Aa J];simp only[G7];rw[show j+(k - j)=k by omega];rfl
theorem Abd {s:ByteArray}{j k:Nat}(h:s.size≤k)(a:j+1≤k):((Ap s).drop (j+1))[k - (j+1)]? ≠some 34:=by
 rw[yB (by rw[zp,Av];omega)];simp
theorem Acy {s:ByteArray}{j k:Nat}(h:k < s.size)(b:j+1≤k):((Ap s).drop (j+1))[k - (j+1)]? =some s[k]:=by
 have a:k < (Ap s).length:=by rw[Av];exact h
 rw[List.getElem?_drop,show j+1+(k - (j+1))=k by omega,zH a];rfl
theorem V7 (s:ByteArray)(j:Nat)(w:World)(hs:s.size≤1048576)(v:j < s.size)(hq:(s[j].toNat:Int)=34):
  Calls Tryz.prog 43 #[.string s,.int .i64 j] w fun e w'=>G7 j (Co ((Ap s).drop (j+1))) e∧Below w.heap.size w w':=by
 have F:(j:Int) < (s.size:Int):=by omega
 obtain ⟨W,x,f,y,l,H⟩:=I9 w j;go_enter Tryz.func43,Tryz.ntmps43
 go_wp2_with (first | (go_at_call 66;refine (AW _ _).mono ?_;rintro e w' ⟨rfl,a⟩;rw[show JG 34=false from by decide,a];clear a) | (go_at_call 69;refine (BQ _ _).mono ?_;rintro e w' ⟨rfl,a⟩;rw[show dgI 34=false from by decide,a];clear a))
 clear x;obtain ⟨c0,c1,c2,c3,I⟩:=AX y;obtain ⟨J,d1,d2,d3,K⟩:=AX f;go_loop [13] (fun i=>∃ k:Nat,j+1≤k∧k≤s.size∧i= .int .i64 k∧Eb KO s (j+1)=Eb KO s k) (fun i=>s.size - (intOf i).toNat)
 case atStart=>exact ⟨j+1,NLN,v,by go_num,rfl⟩
 case round=>
  obtain ⟨k,r,hk,rfl,he⟩:=hrel;have t:=Ab he;clear he;have n:∀ (hq:Eb KO s k=k),Eb KO s (j+1)=k:=fun hq=>by rw[Aa t,hq]
  by_cases o:k < s.size
  ·have z:(k:Int) < (s.size:Int):=by omega
   cases d:KO s[k]
   ·have g:=Ab (show AR KO ((Ap s).drop (j+1))=k - (j+1) by have:=n (Ft o d);have:=EH KO s (j+1);omega);have q:=Ab (show US (s[k].toNat:Int)=false from d);have m:=Ab (Acy o r);clear d n;by_cases u:(s[k].toNat:Int)=34
    ·have A:=Ab (show s[k]=34 from UInt8.toNat_inj.1 (by have:(34 :UInt8).toNat=34:=rfl;omega));by_cases B: 32 < k - (j+1)
     ·have C:(32 :Int) < (k:Int) - (j:Int) - 1:=by omega
      go_wp2_with (go_at_call 70;refine (CF _ _).mono ?_;rintro e w' ⟨rfl,a⟩;rw[show US 34=false from by decide,a];clear a)
      have c:=Ao (b:=w.heap.size) (l.setCell (p:=⟨w.heap.size+1,0,none⟩) (by show w.heap.size≤w.heap.size+1;omega) (.int .i64 2)) NLN (.int .i64 2) (.int .i64 0) (.string ⟨#[]⟩) (.int .i64 j);obtain ⟨g0,g1,g2,g3,_⟩:=AX (AD (f.setFar (p:=⟨w.heap.size+1,0,none⟩) (by show w.heap.size≠w.heap.size+1;omega) (.int .i64 2)) (.int .i64 2) (.int .i64 0) (.string ⟨#[]⟩) (.int .i64 j));simp only[CH] at g0 g1 g2 g3;refine bodyPost_ret (Aw Tryz.results43 rfl g0 g1 g2 g3) rfl ⟨?_,c⟩;rw[Co,if_pos (.inl (by rw[Aa g];exact B))];exact ⟨_,_,_,_,rfl⟩
     ·have C: ¬ ((32 :Int) < (k:Int) - (j:Int) - 1):=by omega
      go_wp2_with (go_at_call 70;refine (CF _ _).mono ?_;rintro e w' ⟨rfl,a⟩;rw[show US 34=false from by decide,a];clear a)
      have c:=Ao (b:=w.heap.size) ((l.setCell (p:=⟨w.heap.size+1,0,none⟩) (by show w.heap.size≤w.heap.size+1;omega) (.int .i64 2)).setCell (p:=⟨w.heap.size+1,2,none⟩) (by show w.heap.size≤w.heap.size+1;omega) (.string (s.extract (j+1) k))) NLN (.int .i64 2) (.int .i64 0) (.string (s.extract (j+1) k)) (.int .i64 j);obtain ⟨g0,g1,g2,g3,_⟩:=AX (AD ((f.setFar (p:=⟨w.heap.size+1,0,none⟩) (by show w.heap.size≠w.heap.size+1;omega) (.int .i64 2)).setFar (p:=⟨w.heap.size+1,2,none⟩) (by show w.heap.size≠w.heap.size+1;omega) (.string (s.extract (j+1) k))) (.int .i64 2) (.int .i64 0) (.string (s.extract (j+1) k)) (.int .i64 j));simp only[CH] at g0 g1 g2 g3;refine bodyPost_ret (Aw Tryz.results43 rfl g0 g1 g2 g3) rfl ⟨?_,c⟩;rw[Co,Aa g,Aa m,if_neg (by rintro (h | h);omega;exact h (by rw[Aa A])),Sa];simp only[G7];rw[show ((j+(k - (j+1)+2):Nat):Int)=(k:Int)+1 by omega];rfl
    ·have L:=zB.2 u;go_wp2_with (go_at_call 70;refine (CF _ _).mono ?_;rintro e w' ⟨rfl,a⟩;rw[Aa q,a];clear a)
     have c:=Ao (b:=w.heap.size) (l.setCell (p:=⟨w.heap.size+1,0,none⟩) (by show w.heap.size≤w.heap.size+1;omega) (.int .i64 2)) NLN (.int .i64 2) (.int .i64 0) (.string ⟨#[]⟩) (.int .i64 j);obtain ⟨g0,g1,g2,g3,_⟩:=AX (AD (f.setFar (p:=⟨w.heap.size+1,0,none⟩) (by show w.heap.size≠w.heap.size+1;omega) (.int .i64 2)) (.int .i64 2) (.int .i64 0) (.string ⟨#[]⟩) (.int .i64 j));simp only[CH] at g0 g1 g2 g3;refine bodyPost_ret (Aw Tryz.results43 rfl g0 g1 g2 g3) rfl ⟨?_,c⟩;rw[Co,if_pos (.inr (by rw[Aa g,Aa m];exact fun e=>u (by rw[Option.some.inj e];rfl)))];exact ⟨_,_,_,_,rfl⟩
   ·have E:=Ab (Fu o d);have q:=Ab (show US (s[k].toNat:Int)=true from d);clear d;go_wp2_with (go_at_call 70;refine (CF _ _).mono ?_;rintro e w' ⟨rfl,a⟩;rw[Aa q,a];clear a)
    go_round
    case rel=>exact ⟨k+1,by omega,by omega,by go_num,by rw[Aa t,Aa E]⟩
    case measure=>simp[intOf];omega
  ·have g:=Ab (show AR KO ((Ap s).drop (j+1))=k - (j+1) by have:=n (GJ (by omega));have:=EH KO s (j+1);omega);have m:=Ab (Abd (s:=s) (j:=j) (k:=k) (by omega) r);have z: ¬ ((k:Int) < (s.size:Int)):=by omega
   have M:(s.size:Int)≤(k:Int):=by omega
   go_wp2_with fail
   have c:=Ao (b:=w.heap.size) (l.setCell (p:=⟨w.heap.size+1,0,none⟩) (by show w.heap.size≤w.heap.size+1;omega) (.int .i64 2)) NLN (.int .i64 2) (.int .i64 0) (.string ⟨#[]⟩) (.int .i64 j);obtain ⟨g0,g1,g2,g3,_⟩:=AX (AD (f.setFar (p:=⟨w.heap.size+1,0,none⟩) (by show w.heap.size≠w.heap.size+1;omega) (.int .i64 2)) (.int .i64 2) (.int .i64 0) (.string ⟨#[]⟩) (.int .i64 j));simp only[CH] at g0 g1 g2 g3;refine bodyPost_ret (Aw Tryz.results43 rfl g0 g1 g2 g3) rfl ⟨?_,c⟩;rw[Co,if_pos (.inr (by rw[Aa g];exact Aa m))];exact ⟨_,_,_,_,rfl⟩
theorem YL (s:ByteArray)(j:Nat)(w:World)(hs:s.size≤1048576)(a:j < s.size):
  Calls Tryz.prog 43 #[.string s,.int .i64 j] w fun e w'=>G7 j (Ek ((Ap s).drop j)) e∧Below w.heap.size w w':=by
 have hd:=BC s j a;cases h1:JG (s[j].toNat:Int)
 ·cases h2:dgI (s[j].toNat:Int)
  ·by_cases h3:(s[j].toNat:Int)=34
   ·have e3:s[j]=34:=UInt8.toNat_inj.1 (by have:(34 :UInt8).toNat=34:=rfl;omega);have e:Ek ((Ap s).drop j)=Co ((Ap s).drop (j+1)):=by
     rw[hd,Ek,if_neg (by rw[Sn,h1];decide),if_neg (by rw[DJ,h2];decide),if_pos e3]
    rw[e];exact V7 s j w hs a h3
   ·have e3: ¬ s[j]=34:=fun e=>h3 (by rw[e];rfl);have e:Ek ((Ap s).drop j)=Bl s[j] ((Ap s).drop j):=by
     rw[hd,Ek,if_neg (by rw[Sn,h1];decide),if_neg (by rw[DJ,h2];decide),if_neg e3]
    rw[e];exact V6 s j w hs a h1 h2 h3
  ·have e:Ek ((Ap s).drop j)=DZ ((Ap s).drop j):=by
    rw[hd,Ek,if_neg (by rw[Sn,h1];decide),if_pos (by rw[DJ,h2])]
   rw[e];exact YM s j w hs a h1 h2
 ·have e:Ek ((Ap s).drop j)=BN ((Ap s).drop j):=by
   rw[hd,Ek,if_pos (by rw[Sn,h1])]
  rw[e];exact V8 s j w hs a h1
theorem Qw {c:UInt8}{r:List UInt8}{k:Int}(h:Ek (c ::r)= .bad k):k=2∨k=3:=by
 rw[Ek] at h;split at h
 ·rw[BN] at h;split at h <;> first | (cases h;exact .inr rfl) | cases h
 ·split at h
  ·rw[DZ] at h;split at h <;> first | (cases h;exact .inr rfl) | cases h
  ·split at h
   ·rw[Co] at h;split at h <;> first | (cases h;exact .inr rfl) | cases h
   ·rw[Bl] at h;split at h
    ·cases h
    ·split at h <;> first | (cases h;exact .inl rfl) | cases h
theorem Uu (l:List UInt8):(AB l).size=l.length:=by simp[AB,ByteArray.size]
theorem Kx:Sb []:=fun _ h=>nomatch h
theorem Uv {T:List Af}{x:Af}(h:Sb T)(hx:x.text.size≤maxLen):Sb (T ++ [x]):=fun y hy=>by
 rcases zK.1 hy with k | k
 ·exact h y k
 ·rw[zL.1 k];exact hx
theorem Mj {w w':World}{lo n:Nat}{v:Value}{a:List Value}(h:w.ownsRow lo 51 4 v n a)(c:Below w.heap.size w w'):w'.ownsRow lo 51 4 v n a:=by
 refine ⟨h.1, ?_⟩;rcases h.2 with h2 | ⟨g,cap,d,f,h3,b,h4⟩
 ·exact .inl h2
 ·refine .inr ⟨g,cap,d,f,h3, ?_,h4⟩;rw[← b];exact c.block g (yC.1 b).1
theorem JH {w:World}{lo n:Nat}{v:Value}{a:List Value}(h:w.ownsRow lo 51 4 v n a):∃ x c,v= .slice x n c:=by
 rcases h.2 with ⟨h2,h0⟩ | ⟨g,cap,d,b,_⟩
 ·subst h0;exact ⟨_,_,h2⟩
 ·exact ⟨_,_,b⟩
theorem Lo {w:World}{b:Nat}{x:Af}{t:TypeId}(R:Al w b #[.int .i64 x.kind,.int .i64 x.num,.string x.text,.int .i64 (x.at_:Int)] t):∀ j u,(Ln x)[j]? =some u→w.cell? ((⟨b,0,none⟩:Addr).add j)=some u:=fun j u h=>by
 have a:(⟨b,0,none⟩:Addr).add j=⟨b,j,none⟩:=by by_cases e:j=0 <;> simp[Addr.add,e]
 rw[a,R.cell j,← h];simp[Ln]
theorem Rn (x:Af):∀ u∈Ln x,u.oneCell'=true:=fun u h=>by
 simp only[Ln,zE,List.not_mem_nil,or_false] at h;rcases h with rfl | rfl | rfl | rfl <;> rfl
def Aew (w:World) (R:Res) (e:Ending) (w':World):Prop:=
 ∃ x c,e= .returned (.tuple #[.slice x R.toks.length c,.agg #[.int .i64 R.code,.int .i64 (R.at_:Int)]])∧w'.ownsRow w.heap.size 51 4 (.slice x R.toks.length c) R.toks.length (GA R.toks)∧Sb R.toks∧Below w.heap.size w w'
theorem Aal:(Tryz.prog.info? 51).map (fun i=>(i.zero,i.size,i.bytes))=some (some (.agg #[.int .i64 0,.int .i64 0,.string ByteArray.empty,.int .i64 0]),4,40):=by kernel_rfl
theorem Sc {c:Func}{a u:Tmp}(h:c.results= #[.tmp u,.cell a 28]){tmps:Array Value}{w:World}{b:Nat}{d f:Value}(g:tmps.getD a undef= .pointer (some ⟨b,0,none⟩))
  (g0:w.cell? ⟨b,0,none⟩=some d)(g1:w.cell? ⟨b,1,none⟩=some f):
  (results c tmps).run Tryz.prog w= .ok (.tuple #[tmps.getD u undef,.agg #[d,f]]) w:=by
 rw[Z4] at g;simp[results,h,g,go_sem,g0,g1]
theorem Lv (t:ByteArray)(w:World):
  Calls Tryz.prog 23 #[.string t] w fun e w'=>Aew w (AI t) e w':=by
 by_cases h4: 4000 < t.size
 ·have aq:(4000 :Int) < (t.size:Int):=by omega
  go_enter Tryz.func23,Tryz.ntmps23
  go_wp2
  have R:=Al.new w #[.int .i64 1,.int .i64 0] 28;have g0:=R.cell 0;have g1:=R.cell 1;refine bodyPost_ret (Sc Tryz.results23 rfl g0 g1) rfl ?_;rw[AI,if_pos h4];exact ⟨none,0,rfl,World.ownsRow_nil _ _ _ _,Kx,(Below.refl w.heap.size w).alloc NLN _⟩
 ·have aq: ¬ ((4000 :Int) < (t.size:Int)):=by omega
  have ht:t.size≤1048576:=by omega
  have Z:=Ab (show AI t=BY t.size (t.size+1) (Ap t) [] by rw[AI,if_neg h4]);obtain ⟨i,hi,ar,au,av⟩:=info_parts Aal;have K:=Al.new w #[.int .i64 0,.int .i64 0] 28;have L:=(Below.refl w.heap.size w).alloc NLN (.cells #[.int .i64 0,.int .i64 0] 28);go_enter Tryz.func23,Tryz.ntmps23
  go_wp2_with fail
  refine (Mi t 0 _ (by unfold maxLen;omega) (by omega)).mono ?_;rintro e aM ⟨⟨k0,rfl,_,aw,aa,M⟩,z⟩;rw[z];have ab:=Ab (show BY t.size (t.size+1) ((Ap t).drop k0) []=AI t by rw[Aa Z];exact Ea _ _ (by rw[M,← aa,zs]) _);have ac:=Ab M;clear z aa M Z;go_wp2_with fail
  generalize w.alloc (.cells #[.int .i64 0,.int .i64 0] 28)=aN at K L ⊢;go_loopw [4,5] (fun v a wr=>∃ (k f:Nat) (T:List Af),a= .int .i64 k∧k≤t.size∧t.size - k < f∧T.length≤k∧Sb T∧BY t.size f ((Ap t).drop k) T=AI t∧FT false ((Ap t).drop k)=(Ap t).drop k∧wr.ownsRow (w.heap.size+1) 51 4 v T.length (GA T)∧Al wr w.heap.size #[.int .i64 0,.int .i64 0] 28∧Below w.heap.size w wr) (fun _ a _=>t.size - (intOf a).toNat)
  case atStart=>exact ⟨k0,t.size+1, [],rfl,aw,by omega,by simp,Kx,Aa ab,Aa ac,World.ownsRow_nil _ _ _ _,K,L⟩
  case round=>
   obtain ⟨k,f,T,rfl,hk,hf,aO,ad,ae,af,y,l,h⟩:=hrel;have F:=Ab ae;have N:=Ab af;have O:=Ab ad;clear ae af ad K L ab ac;by_cases ag:k < t.size
   ·have ax:(k:Int) < (t.size:Int):=by omega
    go_wp2_with fail
    refine (YL t k _ ht ag).mono ?_;rintro e w2 ⟨H,g⟩;have hd:=BC t k ag;have P:((Ap t).drop (k+1)).length+1=t.size - k:=by rw[zp,Av];omega
    cases r:Ek ((Ap t).drop k) with
    |bad c=>
     rw[r] at H;obtain ⟨I,m,n,x,rfl⟩:=H;have o:=l.after g NLN;have A:=h.trans (g.mono h.size);have ay:=zD h.size g.size;obtain ⟨s,rfl⟩:∃ s,f=s+1:=⟨f - 1,by omega⟩
     have ah:AI t=⟨[],c,k⟩:=by
      rw[← Aa F,hd,Qx (by rw[← hd];exact Aa N) (by rw[← hd];exact r)]
      congr 1
      rw[P];omega
     have hc:c=2∨c=3:=Qw (by rw[← hd];exact r);have ai:=Ab ah;clear ah hd P r y l h g;have Q:=o.cell 0;have S:=o.cell 1;have az:=fun j=>o.frozen j;simp only[zu,zi,zc] at Q S;have aP:=o.lt;rcases hc with rfl | rfl
     ·go_wp2_with fail
      have u:=((o.set 0 (.int .i64 2)).set 1 (.int .i64 k)).alloc (.cells #[.int .i64 I,.int .i64 m,.string x,.int .i64 k] 51);have C:=((A.setCell (p:=⟨w.heap.size,0,none⟩) NLN (.int .i64 2)).setCell (p:=⟨w.heap.size,1,none⟩) NLN (.int .i64 k)).alloc (by simp;omega) (.cells #[.int .i64 I,.int .i64 m,.string x,.int .i64 k] 51);have g0:_=some (Value.int .i64 2):=u.cell 0;have g1:_=some (Value.int .i64 k):=u.cell 1;refine bodyPost_ret (Sc Tryz.results23 rfl g0 g1) rfl ?_;rw[Aa ai];exact ⟨none,0,rfl,World.ownsRow_nil _ _ _ _,Kx,C⟩
     ·go_wp2_with fail
      have u:=((o.set 0 (.int .i64 3)).set 1 (.int .i64 k)).alloc (.cells #[.int .i64 I,.int .i64 m,.string x,.int .i64 k] 51);have C:=((A.setCell (p:=⟨w.heap.size,0,none⟩) NLN (.int .i64 3)).setCell (p:=⟨w.heap.size,1,none⟩) NLN (.int .i64 k)).alloc (by simp;omega) (.cells #[.int .i64 I,.int .i64 m,.string x,.int .i64 k] 51);have g0:_=some (Value.int .i64 3):=u.cell 0;have g1:_=some (Value.int .i64 k):=u.cell 1;refine bodyPost_ret (Sc Tryz.results23 rfl g0 g1) rfl ?_;rw[Aa ai];exact ⟨none,0,rfl,World.ownsRow_nil _ _ _ _,Kx,C⟩
    |tok d m b E=>
     rw[r] at H;cases H;obtain ⟨aQ,aA,aR⟩: 1≤E∧E≤((Ap t).drop k).length∧b.length≤E:=by have:=J0 ((Ap t).drop k);rw[r] at this;exact this
     rw[zp,Av] at aA;obtain ⟨s,rfl⟩:∃ s,f=s+1:=⟨f - 1,by omega⟩
     have aB:=Ab (show BY t.size s ((Ap t).drop (k+E)) (T ++ [⟨d,m,AB b,k⟩])=AI t by
      rw[← Aa F,hd,Qy (by rw[← hd];exact Aa N) (by rw[← hd];exact r),← hd,List.drop_drop,show t.size - (((Ap t).drop (k+1)).length+1)=k by omega])
     have aj:Sb (T ++ [⟨d,m,AB b,k⟩]):=Uv (Aa O) (by show (AB b).size≤_;rw[Uu];unfold maxLen;omega);have aC:=Ab aj;clear hd P r aj F N O;have o:=(l.after g NLN).alloc (.cells #[.int .i64 d,.int .i64 m,.string (AB b),.int .i64 k] 51) |>.alloc (.cells #[.int .i64 d,.int .i64 m,.string (AB b),.int .i64 k] 51)
     have A:=((h.trans (g.mono h.size)).alloc (zD h.size g.size) (.cells #[.int .i64 d,.int .i64 m,.string (AB b),.int .i64 k] 51)).alloc (by have:=zD h.size g.size;simp;omega) (.cells #[.int .i64 d,.int .i64 m,.string (AB b),.int .i64 k] 51);have J:=((Mj y g).alloc (.cells #[.int .i64 d,.int .i64 m,.string (AB b),.int .i64 k] 51)).alloc (.cells #[.int .i64 d,.int .i64 m,.string (AB b),.int .i64 k] 51);have U:=Al.new (w2.alloc (.cells #[.int .i64 d,.int .i64 m,.string (AB b),.int .i64 k] 51)) #[.int .i64 d,.int .i64 m,.string (AB b),.int .i64 k] 51;simp only[World.size_alloc] at U;have ay:=l.lt;have aS:=g.size;go_wp2_with (at_builtin;refine wpList_append_own _ rfl _ _ 46 rfl (w.heap.size+1) 51 i (.agg #[.int .i64 0,.int .i64 0,.string ByteArray.empty,.int .i64 0]) 4 40 Tryz.underlying46 hi ar au av rfl (by decide) _ _ _ rfl J ⟨w2.heap.size+1,0,none⟩ 1 1 (Ln ⟨d,m,AB b,k⟩) rfl rfl ?c1 ?c2 ?c3 ?c4 ?c5 ?_)
     case c1=>exact Lo (x:=⟨d,m,AB b,k⟩) U
     case c2=>exact Rn _
     case c3=>unfold maxLen;omega
     case c4=>omega
     case c5=>simp;omega
     intro v' V aD W _;have aE:Below w.heap.size w V:=A.grown W (by simp;omega) (fun q hq=>by have:=(J.lt q hq).1;omega);have aF:Al V w.heap.size #[.int .i64 0,.int .i64 0] 28:=o.below (B:=w.heap.size+1) (BRN.grown W (by simp;omega) (fun q hq=>(J.lt q hq).1)) (by omega);clear W y J U l o h A g;go_wp2_with fail
     have X:=Mi t (k+E) V (by unfold maxLen;omega) (by omega);rw[zd] at X;refine X.mono ?_;rintro e aT ⟨⟨ak,rfl,aU,aG,al,Y⟩,z⟩;rw[z];clear z X;have aH:=Ab (show BY t.size s ((Ap t).drop ak) (T ++ [⟨d,m,AB b,k⟩])=AI t by rw[← Aa aB];exact Ea _ _ (by rw[Y,al]) _);have aI:=Ab Y;clear al Y;go_wp2_with fail
     go_roundw
     case rel=>exact ⟨ak,s,T ++ [⟨d,m,AB b,k⟩],rfl,aG,by omega,by simp;omega,Aa aC,Aa aH,Aa aI,by rw[Lp,zA];exact aD,aF,aE⟩
     case measure=>simp[intOf];omega
   ·have e:(Ap t).drop k= []:=Z5 (by rw[Av];omega);have ao:AI t=⟨T,0,0⟩:=by rw[← Aa F,e,LI]
    have aJ:=Ab ao;have ax: ¬ ((k:Int) < (t.size:Int)):=by omega
    clear ao e;have Q:=l.cell 0;have S:=l.cell 1;have az:=fun j=>l.frozen j;simp only[zu,zi,zc] at Q S;obtain ⟨x,ap,aK⟩:=JH y;subst aK;go_wp2_with fail
    have u:=(l.set 0 (.int .i64 0)).set 1 (.int .i64 0);have C:=(h.setCell (p:=⟨w.heap.size,0,none⟩) NLN (.int .i64 0)).setCell (p:=⟨w.heap.size,1,none⟩) NLN (.int .i64 0);have g0:_=some (Value.int .i64 0):=u.cell 0;have g1:_=some (Value.int .i64 0):=u.cell 1;have aL:((wr.setCell ⟨w.heap.size,0,none⟩ (.int .i64 0)).setCell ⟨w.heap.size,1,none⟩ (.int .i64 0)).ownsRow w.heap.size 51 4 (.slice x T.length ap) T.length (GA T):=
     (Ow y (fun p hp=>by
      have h1:w.heap.size+1≤p.block:=by subst hp;exact (y.lt _ rfl).1
      rw[heap_setCell_other _ _ _ _ (by show p.block≠w.heap.size;omega),heap_setCell_other _ _ _ _ (by show p.block≠w.heap.size;omega)])).mono (by omega)
    refine bodyPost_ret (Sc Tryz.results23 rfl g0 g1) rfl ?_;rw[Aa aJ];exact ⟨x,ap,rfl,aL,Aa O,C⟩
end Go.Proofs.YtchakjeegneeoaaGreatDoor
namespace Go.Proofs.YtchakjeegneeoaaGreatDoor
set_option maxHeartbeats 1600000
open Go.RowKit
set_option linter.unusedVariables false
variable {aS aB aT : Addr}
def Sp (aS aB aT:Addr):Pm→Value
 | .bad c=> .tuple #[.agg #[.int .i64 0,.int .i64 0,.string ⟨#[]⟩,.int .i64 0],.int .i64 0,Ir aS aB aT c]
 | .tok k m s w=> .tuple #[.agg #[.int .i64 k,.int .i64 m,.string (AB s),.int .i64 0],.int .i64 (w:Int),.nilIface]
theorem CY {W:World}{b:Nat}{g i j k:Value}{t:TypeId}(h:Al W b #[g,i,j,k] t)(a c d f:Value):
  ((((W.setCell ⟨b,0,none⟩ a).setCell ⟨b,1,none⟩ c).setCell ⟨b,2,none⟩ d).setCell ⟨b,3,none⟩ f).drew.cell? ⟨b,0,none⟩=some a∧((((W.setCell ⟨b,0,none⟩ a).setCell ⟨b,1,none⟩ c).setCell ⟨b,2,none⟩ d).setCell ⟨b,3,none⟩ f).drew.cell? ⟨b,1,none⟩=some c∧
  ((((W.setCell ⟨b,0,none⟩ a).setCell ⟨b,1,none⟩ c).setCell ⟨b,2,none⟩ d).setCell ⟨b,3,none⟩ f).drew.cell? ⟨b,2,none⟩=some d∧((((W.setCell ⟨b,0,none⟩ a).setCell ⟨b,1,none⟩ c).setCell ⟨b,2,none⟩ d).setCell ⟨b,3,none⟩ f).drew.cell? ⟨b,3,none⟩=some f:=by
 have R:Al ((((W.setCell ⟨b,0,none⟩ a).setCell ⟨b,1,none⟩ c).setCell ⟨b,2,none⟩ d).setCell ⟨b,3,none⟩ f).drew b #[a,c,d,f] t:=⟨(AD h a c d f).out⟩
 obtain ⟨g0,g1,g2,g3,_⟩:=AX R;exact ⟨g0,g1,g2,g3⟩
theorem Fl (b c a:Addr):Sp b c a (.bad 3)= .tuple #[.agg #[.int .i64 0,.int .i64 0,.string ⟨#[]⟩,.int .i64 0],.int .i64 0,.iface 276 (.pointer (some a))]:=rfl
theorem Acz (b a c:Addr):Sp b a c (.bad 2)= .tuple #[.agg #[.int .i64 0,.int .i64 0,.string ⟨#[]⟩,.int .i64 0],.int .i64 0,.iface 276 (.pointer (some a))]:=rfl
theorem Se (r:ByteArray)(w:World)(hs:r.size≤1048576)(S:WO w aS aB aT):
  Calls Tryz.prog 110 #[.string r] w fun e w'=>e= .returned (Sp aS aB aT (BN (Ap r)))∧Below w.heap.size w w':=by
 have k:=GY Ew (Ap r);rw[Av] at k;have c:=Al.new w #[.int .i64 0,.int .i64 0,.string ⟨#[]⟩,.int .i64 0] 51;have d:=(Below.refl w.heap.size w).alloc NLN (.cells #[.int .i64 0,.int .i64 0,.string ⟨#[]⟩,.int .i64 0] 51);have l:=(S.below d NLN).gT;have o:=S.big;have p:w.heap.size≠6:=by omega
 have q: 6≠w.heap.size:=by omega
 go_enter Tryz.func110,Tryz.ntmps110
 go_wp2_with fail
 generalize w.alloc (.cells #[.int .i64 0,.int .i64 0,.string ⟨#[]⟩,.int .i64 0] 51)=W at c d l ⊢;refine (Ox r _ (by unfold maxLen;omega)).mono ?_;rintro e m ⟨rfl,a⟩;rw[a];clear a;obtain ⟨s,d1,d2,d3,t⟩:=AX c;by_cases i: 32 < AR Ew (Ap r)
 ·have n:(32 :Int) < (AR Ew (Ap r):Int):=by omega
  go_wp2_with fail
  go_region
  go_wp2_with fail
  have f:=Ao (b:=w.heap.size) d NLN (.int .i64 0) (.int .i64 0) (.string ⟨#[]⟩) (.int .i64 0);obtain ⟨g0,g1,g2,g3⟩:=CY c (.int .i64 0) (.int .i64 0) (.string ⟨#[]⟩) (.int .i64 0);refine bodyPost_ret (Aw Tryz.results110 rfl g0 g1 g2 g3) rfl ⟨?_,f.drew⟩;rw[BN,if_pos i,Fl];rfl
 ·have n: ¬ ((32 :Int) < (AR Ew (Ap r):Int)):=by omega
  have u:(AR Ew (Ap r):Int)≤(r.size:Int):=by omega
  have j:=Ab (show BN (Ap r)= .tok (if Gz ((Ap r).take (AR Ew (Ap r))) then 4 else 3) 0 ((Ap r).take (AR Ew (Ap r))) (AR Ew (Ap r)) by rw[BN,if_neg i]);have g:=Ab (show Ap (r.extract 0 (AR Ew (Ap r)))=(Ap r).take (AR Ew (Ap r)) by rw[BR,zs,Nat.sub_zero]);go_wp2_with fail
  generalize r.extract 0 (AR Ew (Ap r))=x at g ⊢;refine (OD x _).mono ?_;rintro e m ⟨rfl,a⟩;rw[a];clear a;cases a:Gz (Ap x)
  ·have h:=Ab a;clear a;go_wp2_with fail
   have f:=Ao (b:=w.heap.size) d NLN (.int .i64 3) (.int .i64 0) (.string x) (.int .i64 0);obtain ⟨g0,g1,g2,g3,_⟩:=AX (AD c (.int .i64 3) (.int .i64 0) (.string x) (.int .i64 0));simp only[CH] at g0 g1 g2 g3;refine bodyPost_ret (Aw Tryz.results110 rfl g0 g1 g2 g3) rfl ⟨?_,f⟩;rw[Aa j,← Aa g,Aa h];simp only[Sp,Bs];rfl
  ·have h:=Ab a;clear a;go_wp2_with fail
   have f:=Ao (b:=w.heap.size) d NLN (.int .i64 4) (.int .i64 0) (.string x) (.int .i64 0);obtain ⟨g0,g1,g2,g3,_⟩:=AX (AD c (.int .i64 4) (.int .i64 0) (.string x) (.int .i64 0));simp only[CH] at g0 g1 g2 g3;refine bodyPost_ret (Aw Tryz.results110 rfl g0 g1 g2 g3) rfl ⟨?_,f⟩;rw[Aa j,← Aa g,Aa h];simp only[Sp,Bs];rfl
end Go.Proofs.YtchakjeegneeoaaGreatDoor
namespace Go.Proofs.YtchakjeegneeoaaGreatDoor
set_option maxHeartbeats 3200000
open Go.RowKit
set_option linter.unusedVariables false
variable {aS aB aT : Addr}
theorem AdM {y:ByteArray}{n:Nat}(h:n < y.size):(Ap y)[n]? =some y[n]:=by
 have a:n < (Ap y).length:=by rw[Av];exact h
 rw[zH a];rfl
theorem OI (r:ByteArray)(w:World)(hs:r.size≤1048576)(h0: 0 < r.size)(S:WO w aS aB aT):
  Calls Tryz.prog 111 #[.string r] w fun e w'=>e= .returned (Sp aS aB aT (Co ((Ap r).drop 1)))∧Below w.heap.size w w':=by
 have d:=Al.new w #[.int .i64 0,.int .i64 0,.string ⟨#[]⟩,.int .i64 0] 51;have f:=(Below.refl w.heap.size w).alloc NLN (.cells #[.int .i64 0,.int .i64 0,.string ⟨#[]⟩,.int .i64 0] 51);have p:=(S.below f NLN).gT;have B:=S.big;have C:w.heap.size≠6:=by omega
 have E: 6≠w.heap.size:=by omega
 have F:(1 :Int)≤(r.size:Int):=by omega
 have j:=Ab (Uw r 1);have q:(r.extract 1 r.size).size=r.size - 1:=by rw[ByteArray.size_extract];omega
 go_enter Tryz.func111,Tryz.ntmps111
 go_wp2_with fail
 generalize w.alloc (.cells #[.int .i64 0,.int .i64 0,.string ⟨#[]⟩,.int .i64 0] 51)=W at d f p ⊢;generalize r.extract 1 r.size=y at j q ⊢;have l:=GY KO (Ap y);rw[Av] at l;refine (Aa7 y _ (by unfold maxLen;omega)).mono ?_;rintro e H ⟨rfl,m⟩;rw[m];clear m;obtain ⟨I,d1,d2,d3,J⟩:=AX d;have a:=Ab (show Co ((Ap r).drop 1)=if 32 < AR KO (Ap y)∨(Ap y)[AR KO (Ap y)]? ≠some 34 then .bad 3 else .tok 2 0 ((Ap y).take (AR KO (Ap y))) (AR KO (Ap y)+2) by rw[← Aa j];rfl);have i:=Ab (show Ap (y.extract 0 (AR KO (Ap y)))=(Ap y).take (AR KO (Ap y)) by rw[BR,zs,Nat.sub_zero]);generalize AR KO (Ap y)=n at l a i ⊢;by_cases s: 32 < n
 ·have t:(32 :Int) < (n:Int):=by omega
  have a:=Ab ((Aa a).trans (if_pos (.inl s)));go_wp2_with fail
  go_region
  go_wp2_with fail
  have c:=Ao (b:=w.heap.size) f NLN (.int .i64 0) (.int .i64 0) (.string ⟨#[]⟩) (.int .i64 0);obtain ⟨g0,g1,g2,g3⟩:=CY d (.int .i64 0) (.int .i64 0) (.string ⟨#[]⟩) (.int .i64 0);exact bodyPost_ret (Aw Tryz.results111 rfl g0 g1 g2 g3) rfl ⟨by rw[Aa a,Fl];rfl,c.drew⟩
 have t: ¬ ((32 :Int) < (n:Int)):=by omega
 by_cases K:n=y.size
 ·have e:(Ap y)[n]? ≠some 34:=by rw[yB (by rw[Av];omega)];simp
  have a:=Ab ((Aa a).trans (if_pos (.inr e)));clear e;have u:((n:Int)==((r.size - 1 :Nat):Int))=true:=zN.2 (by omega);have v:((n:Int)==(y.size:Int))=true:=zN.2 (by omega);go_wp2_with fail
  go_region
  go_wp2_with fail
  have c:=Ao (b:=w.heap.size) f NLN (.int .i64 0) (.int .i64 0) (.string ⟨#[]⟩) (.int .i64 0);obtain ⟨g0,g1,g2,g3⟩:=CY d (.int .i64 0) (.int .i64 0) (.string ⟨#[]⟩) (.int .i64 0);exact bodyPost_ret (Aw Tryz.results111 rfl g0 g1 g2 g3) rfl ⟨by rw[Aa a,Fl];rfl,c.drew⟩
 have z:n < y.size:=by omega
 have L:(n:Int) < (y.size:Int):=by omega
 have M:(n:Int) < ((r.size - 1 :Nat):Int):=by omega
 have u:((n:Int)==((r.size - 1 :Nat):Int))=false:=zB.2 (by omega);have v:((n:Int)==(y.size:Int))=false:=zB.2 (by omega);have g:=AdM z;by_cases h:(y[n].toNat:Int)=34
 ·have o:y[n]=34:=UInt8.toNat_inj.1 (by have:(34 :UInt8).toNat=34:=rfl;omega);have e: ¬ (32 < n∨(Ap y)[n]? ≠some 34):=by rw[g,o];simp;omega
  have a:=Ab ((Aa a).trans (if_neg e));clear e;clear g o;have A:((y[n].toNat:Int)== 34)=true:=zN.2 h;go_wp2_with fail
  generalize y.extract 0 n=x at i ⊢;have c:=Ao (b:=w.heap.size) f NLN (.int .i64 2) (.int .i64 0) (.string x) (.int .i64 0);obtain ⟨g0,g1,g2,g3,_⟩:=AX (AD d (.int .i64 2) (.int .i64 0) (.string x) (.int .i64 0));simp only[CH] at g0 g1 g2 g3;refine bodyPost_ret (Aw Tryz.results111 rfl g0 g1 g2 g3) rfl ⟨?_,c⟩;rw[Aa a,← Aa i];simp only[Sp,Bs];rw[zd];rfl
 ·have e:(Ap y)[n]? ≠some 34:=by rw[g];intro k;exact h (by rw[Option.some.inj k];rfl)
  have a:=Ab ((Aa a).trans (if_pos (.inr e)));clear g e;have A:=zB.2 h;have N:((y[n].toNat:Int) != 34)=true:=zS.2 h;go_wp2_with fail
  go_region
  go_wp2_with fail
  have c:=Ao (b:=w.heap.size) f NLN (.int .i64 0) (.int .i64 0) (.string ⟨#[]⟩) (.int .i64 0);obtain ⟨g0,g1,g2,g3⟩:=CY d (.int .i64 0) (.int .i64 0) (.string ⟨#[]⟩) (.int .i64 0);exact bodyPost_ret (Aw Tryz.results111 rfl g0 g1 g2 g3) rfl ⟨by rw[Aa a,Fl];rfl,c.drew⟩
theorem AcA {l:List UInt8}{c:UInt8}(h:Lib.indexByte l c < 0):l.contains c=false:=by
 have h1:Lib.indexByte l c= -1:=by have:=Lib.indexByte_ge l c;omega
 rw[← Bool.not_eq_true,Z2];intro a;obtain ⟨i,hi,e⟩:=Z1 a;exact Lib.indexByte_none h1 i (by rw[zH hi,e])
theorem AcB {l:List UInt8}{c:UInt8}(h: ¬ Lib.indexByte l c < 0):l.contains c=true:=by
 obtain ⟨o,b⟩:=yA (a:=Lib.indexByte l c) (by omega);have:=(Lib.indexByte_some b).1;rw[Z2];exact z5 this
theorem Ae2 (c:UInt8):(c.toNat:Int).toNat.toUInt8=c:=by simp
theorem OJ (w:World)(S:WO w aS aB aT):∃ W,w.alloc (.cells #[.int .i64 0,.int .i64 0,.string ⟨#[]⟩,.int .i64 0] 51)=W∧Al W w.heap.size #[.int .i64 0,.int .i64 0,.string ⟨#[]⟩,.int .i64 0] 51∧Below w.heap.size w W∧WO W aS aB aT:=by
 have a:=(Below.refl w.heap.size w).alloc NLN (.cells #[.int .i64 0,.int .i64 0,.string ⟨#[]⟩,.int .i64 0] 51);exact ⟨_,rfl,Al.new w _ _,a,S.below a NLN⟩
theorem Sf {x:ByteArray}{l y:List UInt8}(hx:Ap x=l.take 2)(h:(x.toList== y)=true)(hy:y∈Dp):Dp.contains (l.take 2)=true∧2≤l.length:=by
 rw[zN,za] at h;have e:l.take 2=y:=hx.symm.trans h;rw[e,Z2];refine ⟨hy, ?_⟩;have h2:∀ a∈Dp,a.length=2:=by decide
 have:=h2 _ hy;rw[← e,zb] at this;omega
theorem AcC {x:ByteArray}{l:List UInt8}(hx:Ap x=l.take 2)(h:∀ y∈Dp,(x.toList== y)=false):Dp.contains (l.take 2)=false:=by
 rw[← Bool.not_eq_true,Z2];intro a;have:=h _ a;rw[zB,za] at this;exact this hx
theorem Sg (r:ByteArray)(w:World)(hs:r.size≤1048576)(h0: 0 < r.size)(S:WO w aS aB aT):
  Calls Tryz.prog 112 #[.string r] w fun e w'=>e= .returned (Sp aS aB aT (Bl r[0] (Ap r)))∧Below w.heap.size w w':=by
 obtain ⟨W,o,f,g,p⟩:=OJ w S;have q:=p.gB;have s:=S.big;have t:w.heap.size≠5:=by omega
 have u: 5≠w.heap.size:=by omega
 have v:(1 :Int)≤(r.size:Int):=by omega
 have x: 0≤min (2 :Int) (r.size:Int):=by omega
 have z:min (2 :Int) (r.size:Int)≤(r.size:Int):=by omega
 have i:=Ab (show Ap (r.extract 0 (min 2 (r.size:Int)).toNat)=(Ap r).take 2 by
  rw[BR,zs,Nat.sub_zero];rcases Nat.lt_or_ge r.size 2 with h | h
  ·rw[show (min (2 :Int) (r.size:Int)).toNat=r.size by omega,zq (by rw[Av];exact NLN),zq (by rw[Av];omega)]
  ·rw[show (min (2 :Int) (r.size:Int)).toNat=2 by omega])
 have d:=Ab (show Ap (r.extract 0 2)=(Ap r).take 2 by rw[BR,zs]);have l:=Ab (show Ap (r.extract 0 1)= [r[0]] by
  have h:=BC r 0 h0;rw[zs] at h;rw[BR,zs,h];rfl)
 obtain ⟨A,d1,d2,d3,B⟩:=AX f;rcases zk ((r.extract 0 (min 2 (r.size:Int)).toNat).toList== [61,62]) with h0 | h0
 ·have a:=Ab (Sf (Aa i) h0 (by decide));have j:(2 :Int)≤(r.size:Int):=by have:=(Aa a).2;rw[Av] at this;omega
  go_enter Tryz.func112,Tryz.ntmps112
  go_wp2_with fail
  generalize r.extract 0 2=x2 at d ⊢;have c:=Ao (b:=w.heap.size) g NLN (.int .i64 5) (.int .i64 0) (.string x2) (.int .i64 0);obtain ⟨g0,g1,g2,g3,_⟩:=AX (AD f (.int .i64 5) (.int .i64 0) (.string x2) (.int .i64 0));simp only[CH] at g0 g1 g2 g3;refine bodyPost_ret (Aw Tryz.results112 rfl g0 g1 g2 g3) rfl ⟨?_,c⟩;rw[Bl,if_pos (Aa a).1,← Aa d];simp only[Sp,Bs];rfl
 rcases zk ((r.extract 0 (min 2 (r.size:Int)).toNat).toList== [61,61]) with h1 | h1
 ·have a:=Ab (Sf (Aa i) h1 (by decide));have j:(2 :Int)≤(r.size:Int):=by have:=(Aa a).2;rw[Av] at this;omega
  go_enter Tryz.func112,Tryz.ntmps112
  go_wp2_with fail
  generalize r.extract 0 2=x2 at d ⊢;have c:=Ao (b:=w.heap.size) g NLN (.int .i64 5) (.int .i64 0) (.string x2) (.int .i64 0);obtain ⟨g0,g1,g2,g3,_⟩:=AX (AD f (.int .i64 5) (.int .i64 0) (.string x2) (.int .i64 0));simp only[CH] at g0 g1 g2 g3;refine bodyPost_ret (Aw Tryz.results112 rfl g0 g1 g2 g3) rfl ⟨?_,c⟩;rw[Bl,if_pos (Aa a).1,← Aa d];simp only[Sp,Bs];rfl
 rcases zk ((r.extract 0 (min 2 (r.size:Int)).toNat).toList== [33,61]) with h2 | h2
 ·have a:=Ab (Sf (Aa i) h2 (by decide));have j:(2 :Int)≤(r.size:Int):=by have:=(Aa a).2;rw[Av] at this;omega
  go_enter Tryz.func112,Tryz.ntmps112
  go_wp2_with fail
  generalize r.extract 0 2=x2 at d ⊢;have c:=Ao (b:=w.heap.size) g NLN (.int .i64 5) (.int .i64 0) (.string x2) (.int .i64 0);obtain ⟨g0,g1,g2,g3,_⟩:=AX (AD f (.int .i64 5) (.int .i64 0) (.string x2) (.int .i64 0));simp only[CH] at g0 g1 g2 g3;refine bodyPost_ret (Aw Tryz.results112 rfl g0 g1 g2 g3) rfl ⟨?_,c⟩;rw[Bl,if_pos (Aa a).1,← Aa d];simp only[Sp,Bs];rfl
 rcases zk ((r.extract 0 (min 2 (r.size:Int)).toNat).toList== [60,61]) with h3 | h3
 ·have a:=Ab (Sf (Aa i) h3 (by decide));have j:(2 :Int)≤(r.size:Int):=by have:=(Aa a).2;rw[Av] at this;omega
  go_enter Tryz.func112,Tryz.ntmps112
  go_wp2_with fail
  generalize r.extract 0 2=x2 at d ⊢;have c:=Ao (b:=w.heap.size) g NLN (.int .i64 5) (.int .i64 0) (.string x2) (.int .i64 0);obtain ⟨g0,g1,g2,g3,_⟩:=AX (AD f (.int .i64 5) (.int .i64 0) (.string x2) (.int .i64 0));simp only[CH] at g0 g1 g2 g3;refine bodyPost_ret (Aw Tryz.results112 rfl g0 g1 g2 g3) rfl ⟨?_,c⟩;rw[Bl,if_pos (Aa a).1,← Aa d];simp only[Sp,Bs];rfl
 have m:=Ab (AcC (Aa i) (by
  intro y hy;simp only[Dp,zE,List.not_mem_nil,or_false] at hy;rcases hy with rfl | rfl | rfl | rfl <;> assumption))
 go_enter Tryz.func112,Tryz.ntmps112
 go_wp2_with fail
 clear o;refine (Tryz.strings_IndexByte _ _ _).mono ?_;rintro e C ⟨rfl,n⟩;rw[n,Ae2];clear n;rw[show (⟨#[60,43,45,42,47,37,124,38,92,40,41,123,125,44,59,61]⟩:ByteArray).data.toList=El from rfl];by_cases hi:Lib.indexByte El r[0] < 0
 ·have k:=Ab (AcA hi);go_wp2_with fail
  go_region
  go_wp2_with fail
  have c:=Ao (b:=w.heap.size) g NLN (.int .i64 0) (.int .i64 0) (.string ⟨#[]⟩) (.int .i64 0);obtain ⟨g0,g1,g2,g3⟩:=CY f (.int .i64 0) (.int .i64 0) (.string ⟨#[]⟩) (.int .i64 0);refine bodyPost_ret (Aw Tryz.results112 rfl g0 g1 g2 g3) rfl ⟨?_,c.drew⟩;rw[Bl,if_neg (by rw[Aa m];decide),if_neg (by rw[Aa k];decide),Acz];rfl
 ·have k:=Ab (AcB hi);go_wp2_with fail
  generalize r.extract 0 1=x1 at l ⊢;have c:=Ao (b:=w.heap.size) g NLN (.int .i64 5) (.int .i64 0) (.string x1) (.int .i64 0);obtain ⟨g0,g1,g2,g3,_⟩:=AX (AD f (.int .i64 5) (.int .i64 0) (.string x1) (.int .i64 0));simp only[CH] at g0 g1 g2 g3;refine bodyPost_ret (Aw Tryz.results112 rfl g0 g1 g2 g3) rfl ⟨?_,c⟩;rw[Bl,if_neg (by rw[Aa m];decide),if_pos (Aa k),← Aa l];simp only[Sp,Bs];rfl
end Go.Proofs.YtchakjeegneeoaaGreatDoor
namespace Go.Proofs.YtchakjeegneeoaaGreatDoor
set_option maxHeartbeats 3200000
open Go.RowKit
set_option linter.unusedVariables false
variable {aS aB aT : Addr}
theorem KC (M:Nat)(a: 10000000000000000000≤M):∀ (d:List UInt8) (acc:Nat),d.all DJ=true→(acc+1) * 10 ^ d.length≤10000000000000000000→∃ u,Lib.parseUintM M acc d= .ok u∧(u:Int)=(acc:Int) * 10 ^ d.length+E6 d
 | [],acc,_,_=>⟨acc,rfl,by simp[E6]⟩
 |c ::r,acc,h,hb=>by
  rw[List.all_cons,zI] at h;obtain ⟨h1,h2⟩:=(Sd c).1 h.1;have hp: 1≤10 ^ r.length:=Nat.one_le_pow _ _ (by decide);rw[List.length_cons,Nat.pow_succ] at hb;have b:(acc+1) * 10≤10000000000000000000:=by
   refine zD ?_ hb;rw[Nat.mul_comm (10 ^ r.length) 10,← Nat.mul_assoc];exact Nat.le_mul_of_pos_right _ (by omega)
  obtain ⟨u,e1,e2⟩:=KC M a r (acc * 10+(c.toNat - 48)) h.2 (by
   refine zD ?_ hb;rw[Nat.mul_comm (10 ^ r.length) 10,← Nat.mul_assoc];exact Nat.mul_le_mul_right _ (by omega))
  refine ⟨u, ?_, ?_⟩
  ·rw[Lib.parseUintM,if_pos (by omega),if_neg (by omega),if_neg (by omega)];exact e1
  ·rw[e2,Oy,List.length_cons,Int.pow_succ,← Int.add_assoc]
   congr 1
   rw[zd,Int.natCast_mul,Int.natCast_sub (by omega),Int.add_mul,Int.mul_comm (10 ^ r.length) 10,← Int.mul_assoc];rfl
theorem QA {d:List UInt8}(h0:d≠ [])(b:d.length≤19)(h:d.all DJ=true):Lib.parseIntB 64 d=if 9223372036854775807 < E6 d then .range else .ok (E6 d):=by
 obtain ⟨u,e1,e2⟩:=KC (2 ^ 64 - 1) (by decide) d 0 h (by
  have: 10 ^ d.length≤10 ^ 19:=Nat.pow_le_pow_right (by decide) b;have e: 10 ^ 19=10000000000000000000:=rfl;omega)
 simp only[Int.natCast_zero,Int.zero_mul,Int.zero_add] at e2;cases d with
 |nil=>exact absurd rfl h0
 |cons c r=>
  have hc:=(Sd c).1 (by rw[List.all_cons,zI] at h;exact h.1);have f: ¬ c.toNat=43:=by omega
  have g: ¬ c.toNat=45:=by omega
  have e3:Lib.parseUintB 64 (c ::r)= .ok u:=by rw[Lib.parseUintB,if_neg (by simp)];exact e1
  rw[Lib.parseIntB];simp only[f,g,or_self,if_false,e3];by_cases a: 9223372036854775807 < E6 (c ::r)
  ·rw[if_pos a,if_pos ⟨not_false,by show 9223372036854775808≤u;omega⟩]
  ·rw[if_neg a,if_neg (fun k=>by have: 9223372036854775808≤u:=k.2;omega),if_neg (fun k=>k.1),e2]
theorem OL (r:ByteArray)(w:World)(hs:r.size≤1048576)(h0: 1≤AR DJ (Ap r))(S:WO w aS aB aT):
  Calls Tryz.prog 108 #[.string r] w fun e w'=>e= .returned (Sp aS aB aT (DZ (Ap r)))∧Below w.heap.size w w':=by
 obtain ⟨W,R,u,l,C⟩:=OJ w S;have H:=C.gT;have X:=S.big;have Y:w.heap.size≠6:=by omega
 have Z: 6≠w.heap.size:=by omega
 have Q:=GY DJ (Ap r);rw[Av] at Q;obtain ⟨A,d1,d2,d3,B⟩:=AX u;have m:=Ab (show Ap (r.extract 0 (AR DJ (Ap r)))=(Ap r).take (AR DJ (Ap r)) by rw[BR,zs,Nat.sub_zero]);have I:=Ab (EP DJ (Ap r));have a:=Ab (show DZ (Ap r)=if 19 < AR DJ (Ap r)∨Cc (Ap r) (AR DJ (Ap r))=true∨9223372036854775807 < E6 ((Ap r).take (AR DJ (Ap r))) then .bad 3 else .tok 1 (E6 ((Ap r).take (AR DJ (Ap r)))) [] (AR DJ (Ap r)) from rfl);have J:(r.extract 0 (AR DJ (Ap r))).size=AR DJ (Ap r):=by rw[ByteArray.size_extract];omega
 go_enter Tryz.func108,Tryz.ntmps108
 go_wp2_with fail
 clear R;refine (Aa6 r _ (by unfold maxLen;omega)).mono ?_;rintro e aa ⟨rfl,c⟩;rw[c];clear c;generalize AR DJ (Ap r)=n at h0 Q a m I J ⊢;have ab:(n:Int)≤(r.size:Int):=by omega
 by_cases K: 19 < n
 ·have T:(19 :Int) < (n:Int):=by omega
  have a:=Ab ((Aa a).trans (if_pos (.inl K)));go_wp2_with fail
  go_region
  go_wp2_with fail
  have h:=Ao (b:=w.heap.size) l NLN (.int .i64 0) (.int .i64 0) (.string ⟨#[]⟩) (.int .i64 0);obtain ⟨g0,g1,g2,g3⟩:=CY u (.int .i64 0) (.int .i64 0) (.string ⟨#[]⟩) (.int .i64 0);exact bodyPost_ret (Aw Tryz.results108 rfl g0 g1 g2 g3) rfl ⟨by rw[Aa a,Fl];rfl,h.drew⟩
 have T: ¬ ((19 :Int) < (n:Int)):=by omega
 by_cases U:n < r.size
 ·have V:(n:Int) < (r.size:Int):=by omega
  have hf:Cc (Ap r) n=(Sn r[n] || decide (r[n]=95)):=by
   have:=OC (s:=r) (j:=0) U (zF _)
   rwa[zs,Nat.sub_zero] at this
  cases y:JG (r[n].toNat:Int)
  ·by_cases L:(r[n].toNat:Int)=95
   ·have e:Cc (Ap r) n=true:=by rw[hf];simp[Sn,Aa9 L]
    have a:=Ab ((Aa a).trans (if_pos (.inr (.inl e))));clear e hf y;go_wp2_with (go_at_call 109;refine (AZ _ _).mono ?_;rintro e w' ⟨rfl,c⟩;rw[show JG 95=false from by decide,c];clear c)
    go_region
    go_wp2_with fail
    have h:=Ao (b:=w.heap.size) l NLN (.int .i64 0) (.int .i64 0) (.string ⟨#[]⟩) (.int .i64 0);obtain ⟨g0,g1,g2,g3⟩:=CY u (.int .i64 0) (.int .i64 0) (.string ⟨#[]⟩) (.int .i64 0);exact bodyPost_ret (Aw Tryz.results108 rfl g0 g1 g2 g3) rfl ⟨by rw[Aa a,Fl];rfl,h.drew⟩
   ·have e:Cc (Ap r) n=false:=by rw[hf];simp[Sn,y,Xk L]
    have ac:=zB.2 L;have M:=Ab e;have O:=Ab y;clear e hf y;go_wp2_with (go_at_call 109;refine (AZ _ _).mono ?_;rintro e w' ⟨rfl,c⟩;rw[Aa O,c];clear c)
    generalize r.extract 0 n=x at m J ⊢;have E:Ap x≠ []:=fun k=>by have:=congrArg List.length k;rw[Av,List.length_nil] at this;omega
    have g:=QA (d:=Ap x) E (by rw[Av];omega) (by rw[Aa m];exact Aa I);rw[Aa m] at g;clear A d1 d2 d3 B E H;by_cases i: 9223372036854775807 < E6 ((Ap r).take n)
    ·have a:=Ab ((Aa a).trans (if_pos (.inr (.inr i))));rw[if_pos i] at g;obtain ⟨P,p,F⟩:=C.gR;have o:=Tryz.strconv_ParseInt_10_at64_range_var x (by omega) (by rw[show x.data.toList=(Ap r).take n from Aa m];exact g) P p W F;clear F g i;refine o.mono ?_;rintro e w2 ⟨N,rfl,_,_,f⟩;clear o;have q:=u.after f NLN;have z:=l.trans (f.mono l.size);have H:=(C.below f NLN).gT;clear f;obtain ⟨A,d1,d2,d3,B⟩:=AX q;go_wp2_with fail
     go_region
     go_wp2_with fail
     have h:=Ao (b:=w.heap.size) z NLN (.int .i64 0) (.int .i64 0) (.string ⟨#[]⟩) (.int .i64 0);obtain ⟨g0,g1,g2,g3⟩:=CY q (.int .i64 0) (.int .i64 0) (.string ⟨#[]⟩) (.int .i64 0);exact bodyPost_ret (Aw Tryz.results108 rfl g0 g1 g2 g3) rfl ⟨by rw[Aa a,Fl];rfl,h.drew⟩
    ·have e: ¬ (19 < n∨Cc (Ap r) n=true∨9223372036854775807 < E6 ((Ap r).take n)):=by
      rintro (k | k | k)
      ·exact K k
      ·rw[Aa M] at k;cases k
      ·exact i k
     have a:=Ab ((Aa a).trans (if_neg e));rw[if_neg i] at g;have o:=Tryz.strconv_ParseInt_10_at64_ok x (by omega) _ (by rw[show x.data.toList=(Ap r).take n from Aa m];exact g) W;clear g i e;refine o.mono ?_;rintro e w2 ⟨rfl,c⟩;clear o;have f:Below W.heap.size W w2:=by
      rcases c with rfl | ⟨t,rfl⟩
      ·exact BRN
      ·exact Lib.bytesWorld_below W _ t
     clear c;generalize E6 ((Ap r).take n)=v at a ⊢;have q:=u.after f NLN;have z:=l.trans (f.mono l.size);clear f;obtain ⟨A,d1,d2,d3,B⟩:=AX q;go_wp2_with fail
     have h:=Ao (b:=w.heap.size) z NLN (.int .i64 1) (.int .i64 v) (.string ⟨#[]⟩) (.int .i64 0);obtain ⟨g0,g1,g2,g3,_⟩:=AX (AD q (.int .i64 1) (.int .i64 v) (.string ⟨#[]⟩) (.int .i64 0));simp only[CH] at g0 g1 g2 g3;refine bodyPost_ret (Aw Tryz.results108 rfl g0 g1 g2 g3) rfl ⟨?_,h⟩;rw[Aa a];rfl
  ·have e:Cc (Ap r) n=true:=by rw[hf];simp[Sn,y]
   have a:=Ab ((Aa a).trans (if_pos (.inr (.inl e))));have O:=Ab y;clear e hf y;go_wp2_with (go_at_call 109;refine (AZ _ _).mono ?_;rintro e w' ⟨rfl,c⟩;rw[Aa O,c];clear c)
   go_region
   go_wp2_with fail
   have h:=Ao (b:=w.heap.size) l NLN (.int .i64 0) (.int .i64 0) (.string ⟨#[]⟩) (.int .i64 0);obtain ⟨g0,g1,g2,g3⟩:=CY u (.int .i64 0) (.int .i64 0) (.string ⟨#[]⟩) (.int .i64 0);exact bodyPost_ret (Aw Tryz.results108 rfl g0 g1 g2 g3) rfl ⟨by rw[Aa a,Fl];rfl,h.drew⟩
 ·have V: ¬ ((n:Int) < (r.size:Int)):=by omega
  have M:=Ab (show Cc (Ap r) n=false by have:=Ml (s:=r) (j:=0) (k:=n) (by omega);rwa[zs,Nat.sub_zero] at this);go_wp2_with fail
  generalize r.extract 0 n=x at m J ⊢;have E:Ap x≠ []:=fun k=>by have:=congrArg List.length k;rw[Av,List.length_nil] at this;omega
  have g:=QA (d:=Ap x) E (by rw[Av];omega) (by rw[Aa m];exact Aa I);rw[Aa m] at g;clear A d1 d2 d3 B E H;by_cases i: 9223372036854775807 < E6 ((Ap r).take n)
  ·have a:=Ab ((Aa a).trans (if_pos (.inr (.inr i))));rw[if_pos i] at g;obtain ⟨P,p,F⟩:=C.gR;have o:=Tryz.strconv_ParseInt_10_at64_range_var x (by omega) (by rw[show x.data.toList=(Ap r).take n from Aa m];exact g) P p W F;clear F g i;refine o.mono ?_;rintro e w2 ⟨N,rfl,_,_,f⟩;clear o;have q:=u.after f NLN;have z:=l.trans (f.mono l.size);have H:=(C.below f NLN).gT;clear f;obtain ⟨A,d1,d2,d3,B⟩:=AX q;go_wp2_with fail
   go_region
   go_wp2_with fail
   have h:=Ao (b:=w.heap.size) z NLN (.int .i64 0) (.int .i64 0) (.string ⟨#[]⟩) (.int .i64 0);obtain ⟨g0,g1,g2,g3⟩:=CY q (.int .i64 0) (.int .i64 0) (.string ⟨#[]⟩) (.int .i64 0);exact bodyPost_ret (Aw Tryz.results108 rfl g0 g1 g2 g3) rfl ⟨by rw[Aa a,Fl];rfl,h.drew⟩
  ·have e: ¬ (19 < n∨Cc (Ap r) n=true∨9223372036854775807 < E6 ((Ap r).take n)):=by
    rintro (k | k | k)
    ·exact K k
    ·rw[Aa M] at k;cases k
    ·exact i k
   have a:=Ab ((Aa a).trans (if_neg e));rw[if_neg i] at g;have o:=Tryz.strconv_ParseInt_10_at64_ok x (by omega) _ (by rw[show x.data.toList=(Ap r).take n from Aa m];exact g) W;clear g i e;refine o.mono ?_;rintro e w2 ⟨rfl,c⟩;clear o;have f:Below W.heap.size W w2:=by
    rcases c with rfl | ⟨t,rfl⟩
    ·exact BRN
    ·exact Lib.bytesWorld_below W _ t
   clear c;generalize E6 ((Ap r).take n)=v at a ⊢;have q:=u.after f NLN;have z:=l.trans (f.mono l.size);clear f;obtain ⟨A,d1,d2,d3,B⟩:=AX q;go_wp2_with fail
   have h:=Ao (b:=w.heap.size) z NLN (.int .i64 1) (.int .i64 v) (.string ⟨#[]⟩) (.int .i64 0);obtain ⟨g0,g1,g2,g3,_⟩:=AX (AD q (.int .i64 1) (.int .i64 v) (.string ⟨#[]⟩) (.int .i64 0));simp only[CH] at g0 g1 g2 g3;refine bodyPost_ret (Aw Tryz.results108 rfl g0 g1 g2 g3) rfl ⟨?_,h⟩;rw[Aa a];rfl
end Go.Proofs.YtchakjeegneeoaaGreatDoor
namespace Go.Proofs.YtchakjeegneeoaaGreatDoor
set_option maxRecDepth 100000
set_option maxHeartbeats 3200000
open Go.RowKit
set_option linter.unusedVariables false
variable {aS aB aT : Addr}
theorem Uz {r:ByteArray}(h0: 0 < r.size):Ap r=r[0] ::(Ap r).drop 1:=by
 have h:=BC r 0 h0
 rwa[zs] at h
theorem MX {r:ByteArray}(h0: 0 < r.size):Ek (Ap r)=if JG (r[0].toNat:Int) then BN (Ap r) else if dgI (r[0].toNat:Int) then DZ (Ap r) else if r[0]=34 then Co ((Ap r).drop 1) else Bl r[0] (Ap r):=by
 have h:=Uz h0;generalize (Ap r).drop 1=q at h ⊢;rw[h];rfl
theorem KF (a b d:Addr)(o:Pm):∃ (k m:Int) (x:ByteArray) (n:Int) (ev:Value),Sp a b d o= .tuple #[.agg #[.int .i64 k,.int .i64 m,.string x,.int .i64 0],.int .i64 n,ev]:=by
 cases o with
 |bad c=>exact ⟨_,_,_,_,_,rfl⟩
 |tok k m s w=>exact ⟨_,_,_,_,_,rfl⟩
theorem PG (r:ByteArray)(w:World)(hs:r.size≤1048576)(h0: 0 < r.size)(S:WO w aS aB aT):
  Calls Tryz.prog 84 #[.string r] w fun e w'=>e= .returned (Sp aS aB aT (Ek (Ap r)))∧Below w.heap.size w w':=by
 have B:(0 :Int) < (r.size:Int):=by omega
 obtain ⟨W,u,h,f,v⟩:=OJ w S;obtain ⟨j,d1,d2,d3,l⟩:=AX h;cases hd:dgI (r[0].toNat:Int)
 ·cases y:JG (r[0].toNat:Int)
  ·have o:=Ab hd;have i:=Ab y;clear hd y;by_cases A:(r[0].toNat:Int)=34
   ·have z:=Ab (show r[0]=34 from UInt8.toNat_inj.1 (by have:(34 :UInt8).toNat=34:=rfl;omega));have p:=Ab (show Ek (Ap r)=Co ((Ap r).drop 1) by rw[MX h0];rw[Aa i,Aa o,if_neg (by decide),if_neg (by decide),if_pos (Aa z)]);go_enter Tryz.func84,Tryz.ntmps84
    go_wp2_with (first | (go_at_call 107;refine (Cm _ _).mono ?_;rintro e w' ⟨rfl,a⟩;rw[show dgI 34=false from by decide,a];clear a) | (go_at_call 109;refine (AZ _ _).mono ?_;rintro e w' ⟨rfl,a⟩;rw[show JG 34=false from by decide,a];clear a))
    clear u;refine (OI r _ hs h0 v).mono ?_;rintro e w2 ⟨rfl,c⟩;obtain ⟨k,m,x,n,ev,d⟩:=KF aS aB aT (Co ((Ap r).drop 1));rw[d];have q:=Ab d;clear d;have g:=h.after c NLN;have s:=f.trans (c.mono f.size);clear c j d1 d2 d3 l h f;obtain ⟨j,d1,d2,d3,l⟩:=AX g;go_wp2_with fail
    have t:=Ao (b:=w.heap.size) s NLN (.int .i64 k) (.int .i64 m) (.string x) (.int .i64 0);obtain ⟨g0,g1,g2,g3,_⟩:=AX (AD g (.int .i64 k) (.int .i64 m) (.string x) (.int .i64 0));simp only[CH] at g0 g1 g2 g3;refine bodyPost_ret (Aw Tryz.results84 rfl g0 g1 g2 g3) rfl ⟨?_,t⟩;rw[Aa p,Aa q];rfl
   ·have C:=zB.2 A;have z:=Ab (show ¬ r[0]=34 from fun e=>A (by rw[e];rfl));have p:=Ab (show Ek (Ap r)=Bl r[0] (Ap r) by rw[MX h0];rw[Aa i,Aa o,if_neg (by decide),if_neg (by decide),if_neg (Aa z)]);go_enter Tryz.func84,Tryz.ntmps84
    go_wp2_with (first | (go_at_call 107;refine (Cm _ _).mono ?_;rintro e w' ⟨rfl,a⟩;rw[Aa o,a];clear a) | (go_at_call 109;refine (AZ _ _).mono ?_;rintro e w' ⟨rfl,a⟩;rw[Aa i,a];clear a))
    clear u;refine (Sg r _ hs h0 v).mono ?_;rintro e w2 ⟨rfl,c⟩;obtain ⟨k,m,x,n,ev,d⟩:=KF aS aB aT (Bl r[0] (Ap r));rw[d];have q:=Ab d;clear d;have g:=h.after c NLN;have s:=f.trans (c.mono f.size);clear c j d1 d2 d3 l h f;obtain ⟨j,d1,d2,d3,l⟩:=AX g;go_wp2_with fail
    have t:=Ao (b:=w.heap.size) s NLN (.int .i64 k) (.int .i64 m) (.string x) (.int .i64 0);obtain ⟨g0,g1,g2,g3,_⟩:=AX (AD g (.int .i64 k) (.int .i64 m) (.string x) (.int .i64 0));simp only[CH] at g0 g1 g2 g3;refine bodyPost_ret (Aw Tryz.results84 rfl g0 g1 g2 g3) rfl ⟨?_,t⟩;rw[Aa p,Aa q];rfl
  ·have o:=Ab hd;have i:=Ab y;clear hd y;have p:=Ab (show Ek (Ap r)=BN (Ap r) by rw[MX h0];rw[Aa i,if_pos rfl]);go_enter Tryz.func84,Tryz.ntmps84
   go_wp2_with (first | (go_at_call 107;refine (Cm _ _).mono ?_;rintro e w' ⟨rfl,a⟩;rw[Aa o,a];clear a) | (go_at_call 109;refine (AZ _ _).mono ?_;rintro e w' ⟨rfl,a⟩;rw[Aa i,a];clear a))
   clear u;refine (Se r _ hs v).mono ?_;rintro e w2 ⟨rfl,c⟩;obtain ⟨k,m,x,n,ev,d⟩:=KF aS aB aT (BN (Ap r));rw[d];have q:=Ab d;clear d;have g:=h.after c NLN;have s:=f.trans (c.mono f.size);clear c j d1 d2 d3 l h f;obtain ⟨j,d1,d2,d3,l⟩:=AX g;go_wp2_with fail
   have t:=Ao (b:=w.heap.size) s NLN (.int .i64 k) (.int .i64 m) (.string x) (.int .i64 0);obtain ⟨g0,g1,g2,g3,_⟩:=AX (AD g (.int .i64 k) (.int .i64 m) (.string x) (.int .i64 0));simp only[CH] at g0 g1 g2 g3;refine bodyPost_ret (Aw Tryz.results84 rfl g0 g1 g2 g3) rfl ⟨?_,t⟩;rw[Aa p,Aa q];rfl
 ·have i:=Ab (show JG (r[0].toNat:Int)=false by
   rw[dgI,zG] at hd;rw[JG,decide_eq_false_iff_not];omega)
  have hr1: 1≤AR DJ (Ap r):=by rw[Uz h0];exact J2 hd
  have o:=Ab hd;clear hd;have p:=Ab (show Ek (Ap r)=DZ (Ap r) by rw[MX h0];rw[Aa i,Aa o,if_neg (by decide),if_pos rfl]);go_enter Tryz.func84,Tryz.ntmps84
  go_wp2_with (first | (go_at_call 107;refine (Cm _ _).mono ?_;rintro e w' ⟨rfl,a⟩;rw[Aa o,a];clear a) | (go_at_call 109;refine (AZ _ _).mono ?_;rintro e w' ⟨rfl,a⟩;rw[Aa i,a];clear a))
  clear u;refine (OL r _ hs hr1 v).mono ?_;rintro e w2 ⟨rfl,c⟩;obtain ⟨k,m,x,n,ev,d⟩:=KF aS aB aT (DZ (Ap r));rw[d];have q:=Ab d;clear d;have g:=h.after c NLN;have s:=f.trans (c.mono f.size);clear c j d1 d2 d3 l h f;obtain ⟨j,d1,d2,d3,l⟩:=AX g;go_wp2_with fail
  have t:=Ao (b:=w.heap.size) s NLN (.int .i64 k) (.int .i64 m) (.string x) (.int .i64 0);obtain ⟨g0,g1,g2,g3,_⟩:=AX (AD g (.int .i64 k) (.int .i64 m) (.string x) (.int .i64 0));simp only[CH] at g0 g1 g2 g3;refine bodyPost_ret (Aw Tryz.results84 rfl g0 g1 g2 g3) rfl ⟨?_,t⟩;rw[Aa p,Aa q];rfl
end Go.Proofs.YtchakjeegneeoaaGreatDoor
namespace Go.Proofs.YtchakjeegneeoaaGreatDoor
set_option maxRecDepth 100000
set_option maxHeartbeats 6400000
open Go.RowKit
set_option linter.unusedVariables false
variable {aS aB aT : Addr}
def Aex (aS aB aT:Addr) (w:World) (R:Res) (e:Ending) (w':World):Prop:=
 (R.code=0∧R.at_=0∧∃ x c,e= .returned (.tuple #[.slice x R.toks.length c,.nilIface])∧w'.ownsRow w.heap.size 51 4 (.slice x R.toks.length c) R.toks.length (GA R.toks)∧Sb R.toks∧Below w.heap.size w w')∨
 (R.toks= []∧1≤R.code∧R.code≤3∧∃ b,e= .returned (.tuple #[.slice none 0 0,.iface 107 (.pointer (some ⟨b,0,none⟩))])∧Al w' b #[.int .i64 (R.at_:Int),Ir aS aB aT R.code] 112∧Below w.heap.size w w')
theorem Aak (t:ByteArray)(w:World)(S:WO w aS aB aT):
  Calls Tryz.prog 51 #[.string t] w fun e w'=>Aex aS aB aT w (AI t) e w':=by
 by_cases h4: 4000 < t.size
 ·have ab:(4000 :Int) < (t.size:Int):=by omega
  have E:=Ab (show AI t=⟨[],1,0⟩ by rw[AI,if_pos h4]);have az:=S.gS;go_enter Tryz.func51,Tryz.ntmps51
  go_wp2_with fail
  go_step3
  go_wp2_with fail
  refine (ET _ _ _ _).mono ?_;rintro e aA ⟨rfl,ad,d⟩;go_wp2_with fail
  rw[Exit.noGoto_ret];go_ret2
  rw[Aa E];exact .inr ⟨rfl,by show (1 :Int)≤1;omega,by show (1 :Int)≤3;omega,w.heap.size,rfl,ad,d⟩
 ·have ab: ¬ ((4000 :Int) < (t.size:Int)):=by omega
  have ht:t.size≤1048576:=by omega
  have E:=Ab (show BY t.size (t.size+1) (Ap t) []=AI t by rw[AI,if_neg h4]);obtain ⟨i,hi,ae,af,ag⟩:=info_parts Aal;go_enter Tryz.func51,Tryz.ntmps51
  go_wp2_with fail
  go_step3
  go_wp2_with fail
  go_step3
  go_wp2_with fail
  go_loopw [4,5] (fun v a wr=>∃ (k f:Nat) (T:List Af),a= .int .i64 k∧k≤t.size∧t.size - k < f∧T.length≤k∧Sb T∧BY t.size f ((Ap t).drop k) T=AI t∧wr.ownsRow w.heap.size 51 4 v T.length (GA T)∧Below w.heap.size w wr) (fun _ a _=>t.size - (intOf a).toNat)
  case atStart=>exact ⟨0,t.size+1, [],rfl,zF _,by omega,by simp,Kx,by rw[List.drop_zero];exact Aa E,World.ownsRow_nil _ _ _ _,BRN⟩
  case round=>
   obtain ⟨k,f,T,rfl,hk,hf,aC,R,U,h,d⟩:=hrel;have j:=Ab U;have l:=Ab R;clear U R;by_cases p:k < t.size
   case neg=>
    have e:(Ap t).drop k= []:=Z5 (by rw[Av];omega);have V:AI t=⟨T,0,0⟩:=by rw[← Aa j,e,LI]
    have F:=Ab V;have ah: ¬ ((k:Int) < (t.size:Int)):=by omega
    clear V e;obtain ⟨x,H,I⟩:=JH h;subst I;go_wp2_with fail
    go_ret2
    rw[Aa F];exact .inl ⟨rfl,rfl,x,H,rfl,h,Aa l,d⟩
   have ah:(k:Int) < (t.size:Int):=by omega
   by_cases h1:(t[k].toNat:Int)=32
   ·have o:=Ab (LF t k p (.inl h1));go_wp2_with fail
    go_roundw
    case rel=>exact ⟨k+1,f,T,by go_num,by omega,by omega,by omega,Aa l,by rw[← Aa j];exact Ea _ _ (Aa o).symm _,h,d⟩
    case measure=>simp[intOf];omega
   have e1:=zB.2 h1;by_cases h3:(t[k].toNat:Int)=9
   ·have o:=Ab (LF t k p (.inr (.inr h3)));go_wp2_with fail
    go_roundw
    case rel=>exact ⟨k+1,f,T,by go_num,by omega,by omega,by omega,Aa l,by rw[← Aa j];exact Ea _ _ (Aa o).symm _,h,d⟩
    case measure=>simp[intOf];omega
   have e3:=zB.2 h3;by_cases h2:(t[k].toNat:Int)=10
   ·have o:=Ab (LF t k p (.inr (.inl h2)));go_wp2_with fail
    go_roundw
    case rel=>exact ⟨k+1,f,T,by go_num,by omega,by omega,by omega,Aa l,by rw[← Aa j];exact Ea _ _ (Aa o).symm _,h,d⟩
    case measure=>simp[intOf];omega
   have e2:=zB.2 h2;by_cases h5:(t[k].toNat:Int)=35
   ·have o:=Ab (Ur t k p h5);go_wp2_with fail
    go_loop [5] (fun a=>∃ q:Nat,k≤q∧q < t.size∧a= .int .i64 q∧FT true ((Ap t).drop k)=FT true ((Ap t).drop q)) (fun a=>t.size - (intOf a).toNat)
    case atStart=>exact ⟨k,NLN,p,rfl,rfl⟩
    case round=>
     obtain ⟨q,aD,hq,rfl,hi⟩:=hrel;have J:=Ab hi;clear hi;have aE:(q:Int) < (t.size:Int):=by omega
     by_cases h10:(t[q].toNat:Int)=10
     ·have C:=Ab (Aa5 t q hq h10);have aF:q≠k:=fun e=>by subst e;omega
      have ai:((t[q].toNat:Int) != 10)=false:=by rw[h10];rfl
      go_wp2_with fail
      go_roundw
      case rel=>exact ⟨q,f,T,rfl,by omega,by omega,by omega,Aa l,by rw[← Aa j];exact Ea _ _ (by rw[Aa o,Aa J,Aa C]) _,h,d⟩
      case measure=>simp[intOf];omega
     ·have C:=Ab (V5 t q hq h10);have ai:((t[q].toNat:Int) != 10)=true:=zS.2 h10;by_cases aG:q+1=t.size
      ·have aj:((q:Int)+1==(t.size:Int))=true:=zN.2 (by omega);have F:=Ab (show AI t=⟨T,0,0⟩ by
        rw[← Aa j,← LI (n:=t.size) (f:=f)];exact Ea _ _ (by rw[Aa o,Aa J,Aa C,MV true t (q+1) (by omega)];rfl) _)
       obtain ⟨x,H,I⟩:=JH h;subst I;go_wp2_with fail
       go_ret2
       rw[Aa F];exact .inl ⟨rfl,rfl,x,H,rfl,h,Aa l,d⟩
      ·have aj:((q:Int)+1==(t.size:Int))=false:=zB.2 (by omega);go_wp2_with fail
       go_round
       case rel=>exact ⟨q+1,by omega,by omega,by go_num,by rw[Aa J,Aa C]⟩
       case measure=>simp[intOf];omega
   have e5:=zB.2 h5;have K:=Ab (Qs t k p h1 h2 h3 h5);go_wp2_with fail
   have W:=Ab (Uw t k);have ak:(t.extract k t.size).size=t.size - k:=by rw[ByteArray.size_extract];omega
   have S1:=S.below d NLN;generalize t.extract k t.size=r at W ak ⊢;refine (PG r _ (by omega) (by omega) S1).mono ?_;rintro e w2 ⟨rfl,B⟩;rw[Aa W];have hd:=BC t k p;have L:((Ap t).drop (k+1)).length+1=t.size - k:=by rw[zp,Av];omega
   cases y:Ek ((Ap t).drop k) with
   |bad c=>
    obtain ⟨s,rfl⟩:∃ s,f=s+1:=⟨f - 1,by omega⟩
    have X:AI t=⟨[],c,k⟩:=by
     rw[← Aa j,hd,Qx (by rw[← hd];exact Aa K) (by rw[← hd];exact y)]
     congr 1
     rw[L];omega
    have hc:c=2∨c=3:=Qw (by rw[← hd];exact y);have al:=Ab X;obtain ⟨ac,M⟩:=Kv aS aB aT c;have ao:=Ab M;have z:=d.trans (B.mono d.size);have N:=z.size;rw[show Sp aS aB aT (.bad c)= .tuple #[.agg #[.int .i64 0,.int .i64 0,.string ⟨#[]⟩,.int .i64 0],.int .i64 0,.iface 276 (.pointer (some ac))] by rw[← M];rfl];have A:=z.alloc N (.cells #[.int .i64 0,.int .i64 0,.string ⟨#[]⟩,.int .i64 0] 51);clear X hd L y h M B S1;go_wp2_with fail
    generalize w2.alloc (.cells #[.int .i64 0,.int .i64 0,.string ⟨#[]⟩,.int .i64 0] 51)=ap at A ⊢;refine (ET _ _ _ _).mono ?_;rintro e aH ⟨rfl,aq,O⟩;have ar:=A.trans (O.mono A.size);go_wp2_with fail
    go_ret2
    rw[Aa al];exact .inr ⟨rfl,by show 1≤c;omega,by show c≤3;omega,ap.heap.size,rfl,by rw[Aa ao];exact aq,ar⟩
   |tok g m b u=>
    obtain ⟨aI,au,aJ⟩: 1≤u∧u≤((Ap t).drop k).length∧b.length≤u:=by have:=J0 ((Ap t).drop k);rw[y] at this;exact this
    rw[zp,Av] at au;obtain ⟨s,rfl⟩:∃ s,f=s+1:=⟨f - 1,by omega⟩
    have av:=Ab (show BY t.size s ((Ap t).drop (k+u)) (T ++ [⟨g,m,AB b,k⟩])=AI t by
     rw[← Aa j,hd,Qy (by rw[← hd];exact Aa K) (by rw[← hd];exact y),← hd,List.drop_drop,show t.size - (((Ap t).drop (k+1)).length+1)=k by omega])
    have Y:Sb (T ++ [⟨g,m,AB b,k⟩]):=Uv (Aa l) (by show (AB b).size≤_;rw[Uu];unfold maxLen;omega);have aw:=Ab Y;have z:=d.trans (B.mono d.size);have Z:=Mj h B;have N:=z.size;rw[show Sp aS aB aT (.tok g m b u)= .tuple #[.agg #[.int .i64 g,.int .i64 m,.string (AB b),.int .i64 0],.int .i64 (u:Int),.nilIface] from rfl];clear hd L y Y j K l h B S1 d;have A:=(z.alloc N (.cells #[.int .i64 g,.int .i64 m,.string (AB b),.int .i64 k] 51)).alloc (by simp;omega) (.cells #[.int .i64 g,.int .i64 m,.string (AB b),.int .i64 k] 51);have P:=(Z.alloc (.cells #[.int .i64 g,.int .i64 m,.string (AB b),.int .i64 k] 51)).alloc (.cells #[.int .i64 g,.int .i64 m,.string (AB b),.int .i64 k] 51);have Q:=Al.new (w2.alloc (.cells #[.int .i64 g,.int .i64 m,.string (AB b),.int .i64 k] 51)) #[.int .i64 g,.int .i64 m,.string (AB b),.int .i64 k] 51;simp only[World.size_alloc] at Q;go_wp2_with (at_builtin;refine wpList_append_own _ rfl _ _ 46 rfl w.heap.size 51 i (.agg #[.int .i64 0,.int .i64 0,.string ByteArray.empty,.int .i64 0]) 4 40 Tryz.underlying46 hi ae af ag rfl (by decide) _ _ _ rfl P ⟨w2.heap.size+1,0,none⟩ 1 1 (Ln ⟨g,m,AB b,k⟩) rfl rfl ?c1 ?c2 ?c3 ?c4 ?c5 ?_)
    case c1=>exact Lo (x:=⟨g,m,AB b,k⟩) Q
    case c2=>exact Rn _
    case c3=>unfold maxLen;omega
    case c4=>omega
    case c5=>simp;omega
    intro v' ax ay aa _;have O:Below w.heap.size w ax:=A.grown aa (by simp;omega) (fun q hq=>(P.lt q hq).1);clear aa Z P Q z A;go_wp2_with fail
    go_roundw
    case rel=>exact ⟨k+u,s,T ++ [⟨g,m,AB b,k⟩],by go_num,by omega,by omega,by simp;omega,Aa aw,Aa av,by rw[Lp,zA];exact ay,O⟩
    case measure=>simp[intOf];omega
end Go.Proofs.YtchakjeegneeoaaGreatDoor
namespace Go.Proofs.YtchakjeegneeoaaGreatDoor
open Go.RowKit
set_option linter.unusedVariables false
def Pt.ne:Pt→Prop
 | .set _ ss=>∀ s∈ss,s≠AB []
 | .un _ _ k=>k.ne
 | .bin _ _ l r=>l.ne∧r.ne
 | .ite _ c t e=>c.ne∧t.ne∧e.ne
 |_=>True
def NT.ne:NT→Prop
 | .more _ e=>e.ne
 |_=>True
def PR.ne:PR→Prop
 | .ok e _=>e.ne
 | .bad _=>True
theorem ZM:∀ (ts:List Af) (a:List ByteArray),(∀ s∈a,s≠AB [])→∀ s∈(JB ts a).1,s≠AB []
 | [],a,h=>h
 | [t],a,h=>by
  rw[JB];split
  ·rename_i ht;intro s hs;rcases zK.1 hs with hs | hs
   ·exact h s hs
   ·rw[zL.1 hs];exact ht.2
  ·exact h
 |t ::c ::q,a,h=>by
  rw[JB];have b:GS t→∀ s∈a ++ [t.text],s≠AB []:=fun ht s hs=>by
   rcases zK.1 hs with hs | hs
   ·exact h s hs
   ·rw[zL.1 hs];exact ht.2
  split
  ·rename_i ht;split
   ·exact ZM q _ (b ht)
   ·exact b ht
  ·exact h
theorem Add (ts:List Af):∀ s∈(GT ts).1,s≠AB []:=by
 rw[GT];split
 ·intro s hs;cases hs
 ·exact ZM ts [] (fun s hs=>by cases hs)
theorem D.ne {nt:NT}{ts:List Af}{x:PR}(d:D nt ts x):nt.ne→x.ne:=by
 induction d with
 |@set t u r q f h hs hq=>intro _;have:=Add r;rw[hs] at this;exact this
 |expr_if h d1 d2 d3 a b c=>intro _;exact ⟨a trivial,b trivial,c trivial⟩
 |chain d d2 a b=>intro _;exact b (a trivial)
 |more_no h=>intro h;exact h
 |more h d d2 a b=>intro h;exact b ⟨h,a trivial⟩
 |cmp_one d h i=>intro _;exact i trivial
 |cmp_two d h d2 a b=>intro _;exact ⟨a trivial,b trivial⟩
 |beh h d i=>intro _;exact i trivial
 |expr_no h d i=>intro _;exact i trivial
 |opd1 d i=>intro _;exact i trivial
 |opd2 d i=>intro _;exact i trivial
 |opd4 d i=>intro _;exact i trivial
 |opd5 d i=>intro _;exact i trivial
 |opd6 d i=>intro _;exact i trivial
 |neg_no h d i=>intro _;exact i trivial
 |neg h d i=>intro _;exact i trivial
 |una_no h d i=>intro _;exact i trivial
 |una h d i=>intro _;exact i trivial
 |size h d i=>intro _;exact i trivial
 |par h d i=>intro _;exact i trivial
 |encl d h i=>intro _;exact i trivial
 |_=>intro _;exact trivial
def neO:Option Pt→Prop
 |none=>True
 |some p=>p.ne
theorem DD.ne {s:List UInt8}{ts:List Af}{x:DR}(d:DD s ts x){g:Option Pt}{r:List Af}(hx:x= .ok g r):neO g:=by
 cases d with
 |no h=>cases hx
 |deny h a=>cases hx;exact trivial
 |grant h a d=>cases hx;exact d.ne trivial
 |grant_bad=>cases hx
def Ps.good (s:Ps):Prop:=neO s.cond∧neO s.grant∧((s.kind=1∧s.cond≠none∧s.grant=none)∨(s.kind=2∧s.cond≠none∧s.name=AB [])∨(s.kind=3∧s.cond=none∧s.name=AB []))
theorem DS.good {ts:List Af}{x:SR}(d:DS ts x){s:Ps}{r:List Af}(hx:x= .ok s r):s.good:=by
 cases d with
 |let_ h a d hq=>cases hx;exact ⟨d.ne trivial,trivial,.inl ⟨rfl,by simp,rfl⟩⟩
 |when h d d2 hq=>cases hx;exact ⟨d.ne trivial,d2.ne rfl,.inr (.inl ⟨rfl,by simp,rfl⟩)⟩
 |else_ h d hq=>cases hx;exact ⟨trivial,d.ne rfl,.inr (.inr ⟨rfl,rfl,rfl⟩)⟩
 |_=>cases hx
def WF:List Ps→Prop
 | []=>False
 | [s]=>s.kind=3
 |s ::t ::S=>s.kind≠3∧WF (t ::S)
theorem DP.good {ts:List Af}{x:QR}(d:DP ts x):∀ S,x= .ok S→(∀ s∈S,s.good)∧WF S:=by
 induction d with
 |bad=>intro S h;cases h
 |over=>intro S h;cases h
 |@more ts r s x d hk d2 a=>
  intro S h;cases x with
  |bad q=>cases h
  |ok T=>
   cases h;obtain ⟨h1,h2⟩:=a T rfl;refine ⟨fun y hy=>?_, ?_⟩
   ·rcases zE.1 hy with rfl | hy
    ·exact d.good rfl
    ·exact h1 y hy
   ·cases T with
    |nil=>exact h2.elim
    |cons t T=>exact ⟨hk,h2⟩
 |last d hk=>
  intro S h;cases h;exact ⟨fun y hy=>by rw[zL.1 hy];exact d.good rfl,hk⟩
end Go.Proofs.YtchakjeegneeoaaGreatDoor
namespace Go.Proofs.YtchakjeegneeoaaGreatDoor
open Go.ChangeShapes Go.WideShapes Go.ChangeAt Go.RowKit
set_option linter.unusedVariables false
set_option maxRecDepth 100000
theorem AaL: Tryz.prog.cellsOf 3 =1:=by kernel_rfl
theorem AaM: Tryz.prog.cellsOf 9 =1:=by kernel_rfl
theorem Ff {P:Program}{x:String × DataW Unit}{l:List (String × DataW Unit)}{W:World}(h:laidMet P (x ::l) W):laidMet P l W:=by
 obtain ⟨m,a,c,i⟩:=h;obtain ⟨n,d⟩:=x;obtain ⟨g,t,cs,f,p,q,h1,h2,h3,h4,h5,rfl⟩:=a;exact ⟨q,h5,(List.nodup_append.1 c).2.1,fun b j k=>i b j (zm _ k)⟩
theorem Lx {P:Program}{W:World}{n:String}{g:Nat}{cs:Array Value}(a:P.globalNamed n=some g)(h:W.var? P n=some cs):g < W.heap.size:=by
 rcases Nat.lt_or_ge g W.heap.size with k | k
 ·exact k
 ·unfold World.var? at h;rw[a] at h;simp[Array.getElem?_eq_none k] at h
theorem Yq {P:Program}{n:String}{d:DataW Unit}{l:List (String × DataW Unit)}{W:World}(h:laidMet P ((n,d) ::l) W):∃ cs,W.var? P n=some cs:=by
 obtain ⟨b,a,_⟩:=h;obtain ⟨g,t,cs,f,p,q,h1,h2,h3,h4,h5,rfl⟩:=a;exact ⟨cs,h3⟩
theorem Aep:∀ u,Tryz.prog.typeName? 3 u=some "*errors.errorString" →u= 276:=
 typeName_ptr_named (nm:= "errors.errorString") (by kernel_rfl) (by kernel_rfl) (by decide)
theorem Acd: Tryz.prog.cellsOf 278 =1:=by kernel_rfl
theorem Adz: Tryz.prog.cellsOf 9 =1:=by kernel_rfl
theorem AaN {W:World}{n:String}{text:List UInt8}{g:Nat}{cs:Array Value}{f:Nat}{p:List MemPlace}{d:List MemPlace}(h: Tryz.prog.globalNamed n=some g)(i:W.var? Tryz.prog n=some cs)
  (hd:DataW.trod (fun _=>()) Tryz.prog W 0 (fun _=>true) false f 72 cs.toList=some (.iface "*errors.errorString" (.ptr (.agg [.lit (.string text)])),p))
  (j:∀ x∈MemPlace.row ⟨g,0,none⟩ cs.size ++p,x∈d)(k:∀ b m,MemPlace.cell b m∈d→(∃ c t,W.heap[b]? =some (.cells c t (0,0)))∧∀ u v,W.cell? ⟨b,m,none⟩=some (.iface u v)→Value.okWide Tryz.prog W .any 0 u v):
  ∃ a,cs= #[.iface 276 (.pointer (some a))]∧p=MemPlace.row a 1∧(∃ c t,W.heap[a.block]? =some (.cells c t (0,0)))∧W.cell? ⟨g,0,none⟩=some (.iface 276 (.pointer (some a))):=by
 obtain ⟨l⟩:=cs;have ok:∀ u v,l= [.iface u v]→Value.okWide Tryz.prog W .any 0 u v:=fun u v e=>by
  subst e;exact (k g 0 (j _ (by simp[MemPlace.row]))).2 u v (by simpa using World.var?_cell h i 0)
 obtain ⟨a,s,rfl,hc,_,_,rfl⟩:=errorString_of_trod Tryz.underlying72 Aep Tryz.underlying276 Tryz.underlying278 rfl rfl Tryz.underlying9 Acd Adz hd ok;exact ⟨a,rfl,rfl,(k a.block a.off (j _ (by simp[MemPlace.row]))).1,by simpa using World.var?_cell h i 0⟩
def Aeq (x:String × List UInt8 × Nat):String × DataW Unit:=(x.1,.iface "*errors.errorString" (.ptr (.agg [.lit (.string x.2.1)])))
theorem Qj {W:World}{k:List MemPlace}(m:∀ b g,MemPlace.cell b g∈k→(∃ c t,W.heap[b]? =some (.cells c t (0,0)))∧∀ u v,W.cell? ⟨b,g,none⟩=some (.iface u v)→Value.okWide Tryz.prog W .any 0 u v):∀ (S:List (String × List UInt8 × Nat)) (l:List (String × DataW Unit)) (d:List MemPlace),(∀ x∈S,Tryz.prog.globalNamed x.1=some x.2.2∧(Tryz.prog.globals[x.2.2]?).map (·.type)=some 72)→(∀ x∈d,x∈k)→DataW.LaidVars Tryz.prog W (S.map Aeq ++l) d→d.Nodup→
  ∃ (f:Nat→Addr) (q:List MemPlace),(∀ i x,S[i]? =some x→W.var? Tryz.prog x.1=some #[.iface 276 (.pointer (some (f i)))]∧W.cell? ⟨x.2.2,0,none⟩=some (.iface 276 (.pointer (some (f i))))∧Wv W (f i)∧MemPlace.cell (f i).block (f i).off∈d)∧(∀ i j,i < S.length→j < S.length→f i=f j→i=j)∧DataW.LaidVars Tryz.prog W l q∧(∀ x∈q,x∈d)∧q.Nodup
 | [],l,d,_,_,h,hn=>⟨fun _=>⟨0,0,none⟩,d,fun i x hx=>by simp at hx,fun i j hi=>absurd hi (by simp),h,fun _ h=>h,hn⟩
 |x ::S,l,d,hg,hp,h,hn=>by
  obtain ⟨M,t,cs,N,p,q,h1,h2,h3,h4,h5,rfl⟩:=h;obtain ⟨g1,g2⟩:=hg x zT;obtain rfl:=Option.some.inj (g1.symm.trans h1);obtain rfl:=Option.some.inj (g2.symm.trans h2);obtain ⟨a,rfl,rfl,r,s⟩:=AaN g1 h3 h4 (fun y hy=>hp y (zl _ hy)) m;obtain ⟨O,w,z⟩:=List.nodup_append.1 hn;obtain ⟨f,A,n,B,C,E,F⟩:=Qj m S l q (fun y hy=>hg y (zY _ hy)) (fun y hy=>hp y (zm _ hy)) h5 w;have o:∀ i,i < S.length→a≠f i:=fun i hi e=>by
   have:=(n i _ (zH hi)).2.2.2;rw[← e] at this;exact z _ (zm _ (by simp[MemPlace.row])) _ this rfl
  refine ⟨fun | 0=>a | i+1=>f i,A,fun i y hy=>?_,fun i j hi H e=>?_,C,fun y hy=>zm _ (E y hy),F⟩
  ·cases i with
   |zero=>cases hy;exact ⟨h3,s,r,zl _ (zm _ (by simp[MemPlace.row]))⟩
   |succ i=>obtain ⟨I,J,K,L⟩:=n i y hy;exact ⟨I,J,K,zm _ L⟩
  ·simp at hi H;cases i with
   |zero=>cases j with
    |zero=>rfl
    |succ j=>exact absurd e (o j (by omega))
   |succ i=>cases j with
    |zero=>exact absurd e.symm (o i (by omega))
    |succ j=>exact congrArg (· +1) (B i j (by omega) (by omega) e)
def AdA {H:Type} :DataW H→Option Value
 | .lit (.int .i64 x)=>some (.int .i64 x)
 | .lit (.string s)=>some (.string ⟨s.toArray⟩)
 |_=>none
def RB {H:Type} :DataW H→List (Option Value)
 | .agg ds=>ds.map AdA
 |_=> []
def AcS {H:Type} :DataW H→List (Option Value)
 | .agg R=>R.flatMap RB
 |_=> []
theorem Aer {b d j:Type}(c:Nat)(g:b→List d)(f:j→d):∀ (a:List b) (cs:List j),cs.length=a.length * c→(∀ i (h:i < a.length),((cs.drop (i * c)).take c).map f=g a[i])→cs.map f=a.flatMap g
 | [],cs,h,_=>by
  have:cs= []:=List.length_eq_zero_iff.1 (by simpa using h);rw[this];rfl
 |x ::a,cs,h,k=>by
  rw[List.length_cons,Nat.succ_mul] at h;have l:=Aer c g f a (cs.drop c) (by rw[zp];omega) fun i hi=>by
   have:=k (i+1) (by simpa using hi);rw[Nat.succ_mul,Nat.add_comm] at this;rw[List.drop_drop];exact this
  have h0:=k 0 (by simp);rw[Nat.zero_mul,zs] at h0;rw[zn,← l,yF] at *;rw[← h0,← zU,z1]
theorem AaO {g:Type}{enc:TypeId × Value→g}{w:World}{o:Nat→Bool}{q:Bool}{fuel:Nat}{T:TypeId}{b:Array Field}{l:List Value}{d:DataW g}{p:List MemPlace}(s: Tryz.prog.underlying T=some (.struct b))(hc: Tryz.prog.cellsOf T=b.size)(hf:∀ (i:Nat) (f:Field),b[i]? =some f→f.offset=i∧(f.type= 3∨f.type= 9))
  (h:DataW.trod enc Tryz.prog w 0 o q fuel T l=some (d,p)):l.map some=RB d:=by
 obtain ⟨c,n,_,hd,t,v,hx⟩:=DataW.trod_struct s h;cases hd;rw[hc] at t;refine List.ext_getElem? fun i=>?_;simp only[RB,zh];by_cases hi:i < b.size
 ·have j:i < l.length:=by omega
  obtain ⟨u,ht⟩:=hf i b[i] (Array.getElem?_eq_getElem hi);have e:=hx i b[i] (Array.getElem?_eq_getElem hi);have m:(l.drop i).take 1= [l[i]]:=by rw[zg j];rfl
  have hy:=zH (l:=c) (show i < c.length by omega);generalize c[i]'(by omega)=y at hy;rw[u,hy] at e;rw[zH j,hy];rcases ht with ht | ht
  ·rw[ht,AaL,m] at e;obtain ⟨a,k,r,_⟩:=DataW.trod_int Tryz.underlying3 e;simp only[List.cons.injEq,and_true] at k;rw[k];simp[r,AdA]
  ·rw[ht,AaM,m] at e;obtain ⟨a,k,r,_⟩:=DataW.trod_string Tryz.underlying9 e;simp only[List.cons.injEq,and_true] at k;rw[k];simp[r,AdA]
 ·rw[yB (by omega),yB (by omega)];rfl
theorem RC {W:World}{n:String}{d:DataW Unit}{l:List (String × DataW Unit)}{q:List MemPlace}{g k:Nat}{b T:TypeId}{a:Array Field}{V:Array Value}(h:DataW.LaidVars Tryz.prog W ((n,d) ::l) q)(c: Tryz.prog.globalNamed n=some g)(ht:(Tryz.prog.globals[g]?).map (·.type)=some b)(t: Tryz.prog.underlying b=some (.array k T))(u: Tryz.prog.underlying T=some (.struct a))(hc: Tryz.prog.cellsOf T=a.size)(hk: Tryz.prog.cellsOf b=k * a.size)(hf:∀ (i:Nat) (f:Field),a[i]? =some f→f.offset=i∧(f.type= 3∨f.type= 9))(o:AcS d=V.toList.map some):g < W.heap.size∧∀ j,W.cell? ⟨g,j,none⟩=V[j]? :=by
 obtain ⟨y,z,cs,fuel,p,q,h1,h2,h3,h4,_,_⟩:=h;obtain rfl:=Option.some.inj (c.symm.trans h1);obtain rfl:=Option.some.inj (ht.symm.trans h2);obtain ⟨r,m,_,hx,v,w,s⟩:=DataW.trod_array t h4;cases hx;rw[hc] at s;have e:=Aer a.size (fun x:DataW Unit × List MemPlace=>RB x.1) some r cs.toList (by rw[v,hk,w]) fun i hi=>by
  refine AaO u hc hf (p:=r[i].2) ((s i (by omega)).trans ?_);rw[zH hi]
 have e2:cs=V:=by
  simp only[AcS,List.flatMap_map] at o;rw[o] at e;exact Array.toList_inj.1 ((List.map_inj_right fun _ _=>Option.some.inj).1 e)
 subst e2;refine ⟨Lx c h3,fun j=>?_⟩;rw[World.var?_cell c h3 j]
theorem AdB {a:Array Field}(h:((List.range a.size).all fun i=>match a[i]? with | some f=>(f.offset== i) && (f.type== 3 || f.type== 9) | none=>true)=true):∀ (i:Nat) (f:Field),a[i]? =some f→f.offset=i∧(f.type= 3∨f.type= 9):=fun i f hf=>by
 have:=z6.1 h i (List.mem_range.2 (yC.1 hf).1);rw[hf] at this;simpa using this
end Go.Proofs.YtchakjeegneeoaaGreatDoor
