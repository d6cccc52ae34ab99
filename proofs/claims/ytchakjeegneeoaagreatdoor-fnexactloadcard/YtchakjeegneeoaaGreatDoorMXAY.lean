/-
  EDB, EDC, ZG, EDD, ZH. Own work.
-/
import Derived.Test.YtchakjeegneeoaaGreatDoorMXAR
import Derived.Test.YtchakjeegneeoaaGreatDoorMXAV
import Derived.Test.YtchakjeegneeoaaGreatDoorMXAX
import Derived.Test.YtchakjeegneeoaaGreatDoorMXAZ
namespace Go.Proofs.YtchakjeegneeoaaGreatDoor
open Go.RowKit
set_option linter.unusedVariables false
def XE:Nat→List ByteArray→List Int→List Dc
 |k,n ::ns,t ::ts=>⟨n,true,k,t⟩ ::XE (k+1) ns ts
 |_,_,_=> []
def Ep (ns:List ByteArray) (ts:List Int):List Dc:=Dj ++XE 0 ns ts
noncomputable def nmR (ns:List ByteArray) (ts:List Int) (s:ByteArray):Rc:=
 if 0≤AE s BU 0 then .ok (Dk (AE s BU 0)) else if 0≤AE s ns 0 then ofC 7 ts[(AE s ns 0).toNat]? else .error 7
theorem SQ (s:ByteArray):∀ (L:List ByteArray) (k:Int),0≤k→(AE s L k= -1∧s ∉ L)∨(k≤AE s L k∧AE s L k < k+L.length)
 | [],k,h=> .inl ⟨by simp[AE],by simp⟩
 |x ::r,k,h=>by
  rw[AE];by_cases e:x=s
  ·rw[if_pos e];right;simp;omega
  ·rw[if_neg e];rcases SQ s r (k+1) (by omega) with ⟨h1,h2⟩ | ⟨h1,h2⟩
   ·exact .inl ⟨h1,by simp[Ne.symm e,h2]⟩
   ·right;simp at h2 ⊢;omega
theorem NA (s:ByteArray):∀ (ns:List ByteArray) (ts:List Int) (k:Nat),ns.length=ts.length→(AE s ns k= -1∧De (XE k ns ts) s=none)∨∃ (j:Nat) (t:Int),AE s ns k=((k+j:Nat):Int)∧ts[j]? =some t∧De (XE k ns ts) s=some ⟨s,true,((k+j:Nat):Int),t⟩
 | [], [],k,_=> .inl ⟨by simp[AE],rfl⟩
 |n ::ns,t ::ts,k,h=>by
  rw[AE,XE];by_cases e:n=s
  ·rw[if_pos e];exact .inr ⟨0,t,rfl,rfl,by rw[De,List.find?_cons_of_pos (by simpa using e),e];rfl⟩
  ·rw[if_neg e];have e2:De (⟨n,true,(k:Int),t⟩ ::XE (k+1) ns ts) s=De (XE (k+1) ns ts) s:=by rw[De,List.find?_cons_of_neg (by simpa using e)];rfl
   rw[e2];rcases NA s ns ts (k+1) (by simpa using h) with ⟨h1,h2⟩ | ⟨j,a,h1,h2,h3⟩
   ·exact .inl ⟨by have:=h1;push_cast at this;exact this,h2⟩
   ·refine .inr ⟨j+1,a, ?_,by simpa using h2, ?_⟩
    ·have:=h1;push_cast at this ⊢;rw[this];omega
    ·rw[h3]
     congr 2
     omega
 | [],_ ::_,_,h=>by cases h
 |_ ::_, [],_,h=>by cases h
def atD:Nat→List ByteArray→List Dc
 |k,n ::ns=>⟨n,false,k,Dk k⟩ ::atD (k+1) ns
 |_, []=> []
theorem Zs (s:ByteArray):∀ (ns:List ByteArray) (k:Nat),(AE s ns k= -1∧De (atD k ns) s=none)∨∃ j:Nat,j < ns.length∧AE s ns k=((k+j:Nat):Int)∧De (atD k ns) s=some ⟨s,false,((k+j:Nat):Int),Dk ((k+j:Nat):Int)⟩
 | [],k=> .inl ⟨by simp[AE],rfl⟩
 |n ::ns,k=>by
  rw[AE,atD];by_cases e:n=s
  ·rw[if_pos e];exact .inr ⟨0,by simp,rfl,by rw[De,List.find?_cons_of_pos (by simpa using e),e];rfl⟩
  ·rw[if_neg e];have e2:De (⟨n,false,(k:Int),Dk (k:Int)⟩ ::atD (k+1) ns) s=De (atD (k+1) ns) s:=by rw[De,List.find?_cons_of_neg (by simpa using e)];rfl
   rw[e2];rcases Zs s ns (k+1) with ⟨h1,h2⟩ | ⟨j,b,h1,h3⟩
   ·exact .inl ⟨by have:=h1;push_cast at this;exact this,h2⟩
   ·have a:k+1+j=k+(j+1):=by omega
    refine .inr ⟨j+1,by simpa using b, ?_, ?_⟩
    ·have:=h1;rw[a] at this;push_cast at this ⊢;exact this
    ·rw[h3,a]
theorem AbE:Dj=atD 0 BU:=rfl
theorem MJ (s:ByteArray):(AE s BU 0= -1∧De Dj s=none)∨∃ j:Nat,j < 6∧AE s BU 0=(j:Int)∧De Dj s=some ⟨s,false,(j:Int),Dk (j:Int)⟩:=by
 rw[AbE];rcases Zs s BU 0 with ⟨h1,h2⟩ | ⟨j,a,h1,h2⟩
 ·exact .inl ⟨h1,h2⟩
 ·rw[zX] at h1 h2;exact .inr ⟨j,a,h1,h2⟩
theorem IL (a B:List Dc)(s:ByteArray):De (a ++B) s=match De a s with | some d=>some d | none=>De B s:=by
 unfold De;rw[List.find?_append];cases List.find? _ a <;> rfl
def cR:Rs→Rc
 | .ok t=> .ok t
 | .error f=> .error f.1
theorem Ac7 (ns:List ByteArray)(ts:List Int)(h:ns.length=ts.length)(i:Int)(s:ByteArray):nmR ns ts s=cR (Bc (Ep ns ts) (.name i s)):=by
 rw[Bc,Ep,IL,nmR];rcases MJ s with ⟨h1,h2⟩ | ⟨j,b,h1,h2⟩
 ·rw[h1,h2,if_neg (by decide)];rcases NA s ns ts 0 h with ⟨g1,g2⟩ | ⟨j,t,g1,g2,g3⟩
  ·have a:AE s ns 0= -1:=g1;rw[a,g2,if_neg (by decide)];rfl
  ·have a:AE s ns 0=(j:Int):=by have:=g1;simpa using this
   rw[a,g3,if_pos (by omega),zj,g2];rfl
 ·rw[h1,h2,if_pos (by omega)];rfl
set_option maxRecDepth 100000
set_option maxHeartbeats 1600000
structure Y7 (w:World) (lb:Nat) (xa:Option Addr) (nn cc:Nat) (ns:List ByteArray) (la:Option Addr) (ln lc:Nat) (ts:List Int):Prop where
 c0:w.cell? ⟨lb,0,none⟩=some (.slice xa nn cc)
 c1:w.cell? ⟨lb,1,none⟩=some (.slice la ln lc)
 lt:lb < w.heap.size
 nms:XF w xa ns
 nl:ns.length=nn
 small:nn≤1048576
 ints:BT w la ln lc ts
 same:ns.length=ts.length
theorem Y7.below {w w':World}{b:Nat}{c:Option Addr}{nn d:Nat}{ns:List ByteArray}{f:Option Addr}{g i:Nat}{ts:List Int}(h:Y7 w b c nn d ns f g i ts)(a:Below w.heap.size w w'):Y7 w' b c nn d ns f g i ts:=
 ⟨(a.cell (p:=⟨b,0,none⟩) h.lt).trans h.c0,(a.cell (p:=⟨b,1,none⟩) h.lt).trans h.c1,zM h.lt a.size,h.nms.below a NLN,h.nl,h.small,h.ints.below a NLN,h.same⟩
theorem SU (a:Option Addr)(n c:Nat)(N:List Nd)(p:Nat)(w:World)(j:GQ w a n c N)(i:Nat)(x:Nd)(hx:N[i]? =some x)(H:x.op=5)(I:Option Addr)(nn J:Nat)(ns:List ByteArray)(V:Option Addr)(K W:Nat)(ts:List Int)(L:Y7 w p I nn J ns V K W ts):
  Calls Tryz.prog 82 #[.slice a n c,.int .i64 i,.pointer (some ⟨p,0,none⟩)] w (NdC (nmR ns ts x.text) w):=by
 have af:=j.small;have X:=j.len;have hi:i < N.length:=(ze.1 hx).1;have M:N[i]=x:=(ze.1 hx).2;have ag:(i:Int) < (n:Int):=by omega
 obtain ⟨b,ah,rfl,ai,an,q,s,u,y,z,c0,c1,c2,c3,c4,Y,O⟩:=j.cells i hi;rw[M] at c0 c1 c2 O;rw[H] at c0;clear Y O;clear X hx M hi H j;have A:=Al.new w #[.int .i64 5,.int .i64 x.num,.string x.text,.slice an q s,.slice u y z] 68;have h:=(Below.refl w.heap.size w).alloc NLN (.cells #[.int .i64 5,.int .i64 x.num,.string x.text,.slice an q s,.slice u y z] 68);have T0:=L.below h;have Z:∃ P,P=w.alloc (.cells #[.int .i64 5,.int .i64 x.num,.string x.text,.slice an q s,.slice u y z] 68):=⟨_,rfl⟩
 clear L;generalize x.num=aj at *;generalize x.text=d at *;go_enter Tryz.func82,Tryz.ntmps82
 go_wp2_with fail
 obtain ⟨P,Q⟩:=Z;rw[← Q] at A h T0 ⊢;clear Q;refine (FE d _).mono ?_;rintro r aa ⟨rfl,k⟩;have R:=A.after k NLN;have l:=h.trans (k.mono h.size);have T1:=T0.below k;clear A h T0 k;dsimp only;obtain ⟨ab,ac,q2,q3,q4⟩:=Gr R;by_cases h0: 0≤AE d BU 0
 ·have g:=Ab (show nmR ns ts d= .ok (Dk (AE d BU 0)) by rw[nmR,if_pos h0]);generalize AE d BU 0=B at h0 g;go_wp2_with fail
  refine (NB B _).mono ?_;rintro r w2 ⟨rfl,rfl⟩;dsimp only;go_wp2_with fail
  exact bodyPost_ret (v:= .tuple #[.int .i64 (Dk B),.int .i64 0]) (by simp[results,Tryz.results82,go_sem]) rfl ⟨⟨_,_,rfl,.inl ⟨rfl,Aa g⟩⟩,l⟩
 ·have g:=Ab (show nmR ns ts d=if 0≤AE d ns 0 then ofC 7 ts[(AE d ns 0).toNat]? else .error 7 by rw[nmR,if_neg h0]);generalize AE d BU 0=B at h0;have S:=Ab (JV p I nn J ns d aa T1.c0 T1.lt T1.nl T1.small T1.nms);go_wp2_with fail
  refine (Aa S).mono ?_;rintro r w2 ⟨rfl,C⟩;have T:=l.trans (C.mono l.size);have m:=T1.below C;clear S l T1 R ab ac q2 q3 q4 C;dsimp only;have U:=SQ d ns 0 (by omega);by_cases h1: 0≤AE d ns 0
  ·obtain ⟨f,E⟩:∃ f:Nat,AE d ns 0=f:=⟨(AE d ns 0).toNat,by omega⟩
   have F:f < ts.length:=by have:=m.same;omega
   have o:=Ab (show nmR ns ts d= .ok ts[f] by rw[Aa g,if_pos h1,E,zj,zH F];rfl);rw[E];clear g E h1 U;obtain ⟨ak,al,ad,ao,ae⟩:=m.ints.cells f F;have e1:=m.c1;rw[ad] at e1;have ap:(f:Int) < (K:Int):=by have:=m.ints.len;omega
   generalize ts[f]=t at ae o;have aq: ¬ ((f:Int) < 0):=by omega
   clear F;go_wp2_with fail
   exact bodyPost_ret (v:= .tuple #[.int .i64 t,.int .i64 0]) (by simp[results,Tryz.results82,go_sem]) rfl ⟨⟨_,_,rfl,.inl ⟨rfl,Aa o⟩⟩,T⟩
  ·have o:=Ab (show nmR ns ts d= .error 7 by rw[Aa g,if_neg h1]);generalize AE d ns 0=f at h1;clear g U;go_wp2_with fail
   exact bodyPost_ret (v:= .tuple #[.int .i64 0,.int .i64 7]) (by simp[results,Tryz.results82,go_sem]) rfl ⟨⟨_,_,rfl,.inr ⟨by decide,Aa o⟩⟩,T⟩
theorem AbF {op:Int}(h: 8≤op∧op≤10)(D:List Dc)(i:Int)(k:Ex):La op [cR (Bc D k)]=cR (Bc D (.un i op k)):=by
 rw[Bc];cases Bc D k with
 |error f=>rfl
 |ok a=>
  show ofC 9 (nz (Cr op [a]))=cR (QJ (9,i) (nz (Ct op [a])));rw[Zt op a h];cases nz (Ct op [a]) <;> rfl
theorem Zu {op:Int}(h: 11≤op∧op≤26){D:List Dc}(c:∀ d∈D,1≤d.typ∧d.typ≤4)(i:Int)(k l:Ex):La op [cR (Bc D k),cR (Bc D l)]=cR (Bc D (.bin i op k l)):=by
 rw[Bc];have g:=KS c k;cases hk:Bc D k with
 |error f=>rfl
 |ok a=>
  have:=g a hk;cases Bc D l with
  |error f=>rfl
  |ok b=>
   show ofC 9 (nz (Cr op [a,b]))=cR (QJ (9,i) (nz (Ct op [a,b])));rw[XG op a b h (by omega)];cases nz (Ct op [a,b]) <;> rfl
theorem Zv {D:List Dc}(c:∀ d∈D,1≤d.typ∧d.typ≤4)(i:Int)(k l m:Ex):La 27 [cR (Bc D k),cR (Bc D l),cR (Bc D m)]=cR (Bc D (.ite i k l m)):=by
 rw[Bc];have g:=KS c l;cases hk:Bc D k with
 |error f=>rfl
 |ok a=>
  cases h:Bc D l with
  |error f=>rfl
  |ok b=>
   have:=g b h;cases Bc D m with
   |error f=>rfl
   |ok d=>
    show ofC 9 (nz (Cr 27 [a,b,d]))=cR (QJ (9,i) (nz (Ct 27 [a,b,d])));rw[XH a b d (by omega)];cases nz (Ct 27 [a,b,d]) <;> rfl
theorem SV (a:Option Addr)(n c:Nat)(N:List Nd)(L:∀ x∈N,As x=true)(p:Nat)(r:Option Addr)(nn s:Nat)(ns:List ByteArray)(z:Option Addr)(A B:Nat)(ts:List Int)(J:∀ d∈Ep ns ts,1≤d.typ∧d.typ≤4){i:Nat}{e:Ex}(t:Ds N i e):
  ∀ w,GQ w a n c N→Y7 w p r nn s ns z A B ts→
  Calls Tryz.prog 82 #[.slice a n c,.int .i64 i,.pointer (some ⟨p,0,none⟩)] w (NdC (cR (Bc (Ep ns ts) e)) w):=by
 have C:∀ {i:Nat} {x:Nd},N[i]? =some x→(x.kids.length:Int)=Dn x.op∧x.op≠6∧x.op≠7:=fun {i x} hx=>by
  have h:=L _ (z5 hx);rw[As,zI,zG] at h;refine ⟨h.1,fun e=>?_,fun e=>?_⟩
  ·have:=h.2;simp[e] at this
  ·have:=h.2;simp[e] at this
 have E:∀ {i:Nat} {x:Nd},N[i]? =some x→G8 x.op→x.kids= []→∀ w,GQ w a n c N→Calls Tryz.prog 82 #[.slice a n c,.int .i64 i,.pointer (some ⟨p,0,none⟩)] w (NdC (La x.op []) w):=fun {i x} hx b hk w h1=>
  JU a n c N p w h1 i x hx b (SX b (C hx).1) [] (by rw[hk];rfl) (fun j h=>absurd h (by rw[hk];simp))
 have F:∀ {i:Nat} {x:Nd} {os:List Rc},N[i]? =some x→G8 x.op→∀ w,GQ w a n c N→Y7 w p r nn s ns z A B ts→os.length=x.kids.length→
   (∀ (j:Nat) (y:Int) (o:Rc),x.kids[j]? =some y→os[j]? =some o→∀ W,GQ W a n c N→Y7 W p r nn s ns z A B ts→Calls Tryz.prog 82 #[.slice a n c,.int .i64 y,.pointer (some ⟨p,0,none⟩)] W (NdC o W))→
   Calls Tryz.prog 82 #[.slice a n c,.int .i64 i,.pointer (some ⟨p,0,none⟩)] w (NdC (La x.op os) w):=fun {i x os} hx b w h1 h2 hl V=>
  JU a n c N p w h1 i x hx b (SX b (C hx).1) os hl (fun j h M W K=>V j _ _ (zH h) (zH M) W (h1.below K NLN) (h2.below K))
 induction t with
 |int h b hk=>intro w h1 _;have:=E h (by rw[b];unfold G8;omega) hk w h1;rw[b] at this;exact this
 |text h b hk=>intro w h1 _;have:=E h (by rw[b];unfold G8;omega) hk w h1;rw[b] at this;exact this
 |bool h b hk=>intro w h1 _;have:=E h (by rw[b];unfold G8;omega) hk w h1;rw[b] at this;exact this
 |set h b hk _ _ _=>intro w h1 _;have:=E h (by rw[b];unfold G8;omega) hk w h1;rw[b] at this;exact this
 |@name i x h b hk=>
  intro w h1 h2;rw[← Ac7 ns ts h2.same];exact SU a n c N p w h1 _ _ h b r nn s ns z A B ts h2
 |attr h b hk=>exact absurd b (C h).2.1
 |lett h b hk=>exact absurd b (C h).2.2
 |@un i k x e h b hk hi t O=>
  intro w h1 h2;rw[← AbF b];refine F h (by unfold G8;omega) w h1 h2 (by rw[hk];rfl) (fun j y o hy q W=>?_);rw[hk] at hy
  match j with
  | 0=>cases hy;cases q;exact O W
  |j+1=>simp at hy
 |@bin i k l x e f h b hk hi t u H I=>
  intro w h1 h2;rw[← Zu b J];refine F h (by unfold G8;omega) w h1 h2 (by rw[hk];rfl) (fun j y o hy q W=>?_);rw[hk] at hy
  match j with
  | 0=>cases hy;cases q;exact H W
  | 1=>cases hy;cases q;exact I W
  |j+2=>simp at hy
 |@ite i k l m x e f g h b hk hi t u v H I P=>
  intro w h1 h2;rw[← Zv J,← b];refine F h (by unfold G8;omega) w h1 h2 (by rw[hk];rfl) (fun j y o hy q W=>?_);rw[hk] at hy
  match j with
  | 0=>cases hy;cases q;exact H W
  | 1=>cases hy;cases q;exact I W
  | 2=>cases hy;cases q;exact P W
  |j+3=>simp at hy
theorem BT.keep {w w':World}{v v':Value}{a:Option Addr}{n c:Nat}{L:List Int}(h:BT w a n c L)(k:FV w v w' v')(g:∀ x,a=some x→some x.block≠v.ownBlock):BT w' a n c L:=
 ⟨h.len,h.small,fun j i=>by
  obtain ⟨b,l,d,f,c0⟩:=h.cells j i;exact ⟨b,l,d,zM f k.2.2,(World.cell?_of_block (w:=w) (k.1 b f (g _ d))).trans c0⟩⟩
set_option maxHeartbeats 3200000
def Du:Nat→List Rc→Except (Int × Int) (List Int)
 |_, []=> .ok []
 |f,.error c ::_=> .error (c,f)
 |f,.ok t ::r=>(Du (f+1) r).map (t :: ·)
theorem Lb {f:Nat}{t:Int}{r:List Rc}{K:List Int}(h:Du f (.ok t ::r)= .ok K):∃ a,Du (f+1) r= .ok a∧K=t ::a:=by
 rw[Du] at h;cases b:Du (f+1) r with
 |error c=>rw[b] at h;cases h
 |ok a=>rw[b] at h;cases h;exact ⟨a,rfl,rfl⟩
theorem SY:∀ {os:List Rc} {f:Nat} {K:List Int},Du f os= .ok K→K.length=os.length
 | [],f,K,h=>by cases h;rfl
 | .error c ::_,f,K,h=>by cases h
 | .ok t ::r,f,K,h=>by
  obtain ⟨a,h1,rfl⟩:=Lb h;rw[List.length_cons,List.length_cons,SY h1]
def AcI (K:List Int) (f:Nat):Rc→Except (Int × Int) (List Int)
 | .ok t=> .ok (K ++ [t])
 | .error c=> .error (c,f)
theorem PT (o:Rc):∀ (os:List Rc) (f:Nat) (K:List Int),Du f os= .ok K→Du f (os ++ [o])=AcI K (f+os.length) o
 | [],f,K,h=>by cases h;cases o <;> rfl
 | .error c ::_,f,K,h=>by cases h
 | .ok t ::r,f,K,h=>by
  obtain ⟨a,h1,rfl⟩:=Lb h;have e:f+1+r.length=f+(r.length+1):=by omega
  rw[List.cons_append,Du,PT o r (f+1) a h1,List.length_cons,e];cases o <;> rfl
theorem NC (B:List Rc):∀ (a:List Rc) (f:Nat),Du f (a ++B)=(Du f a).bind fun l=>(Du (f+a.length) B).map (l ++ ·)
 | [],f=>by simp only[List.nil_append,Du,List.length_nil,zZ];cases Du f B <;> rfl
 | .error c ::_,f=>rfl
 | .ok t ::r,f=>by
  have e:f+1+r.length=f+(r.length+1):=by omega
  rw[List.cons_append,Du,Du,NC B r (f+1),List.length_cons,e];cases Du (f+1) r with
  |error c=>rfl
  |ok l=>
   show Except.map (t :: ·) ((Du (f+(r.length+1)) B).map (l ++ ·))=(Du (f+(r.length+1)) B).map ((t ::l) ++ ·);cases Du (f+(r.length+1)) B <;> rfl
theorem Vh (os:List Rc)(f:Nat)(k:Nat){c:Int × Int}(h:Du f (os.take k)= .error c):Du f os= .error c:=by
 have e:=NC (os.drop k) (os.take k) f;rw[z1,h] at e;exact e
def FF (Es:List Ex) (D:List Dc) (i:Nat):Rc:=match Es[i]? with
 |some e=>cR (Bc D e)
 |none=> .error 0
theorem XF.keep {w w':World}{v v':Value}{a:Option Addr}{L:List ByteArray}(h:XF w a L)(k:FV w v w' v')(f:∀ x,a=some x→some x.block≠v.ownBlock):XF w' a L:=fun j g=>by
 obtain ⟨b,i,c,d,c0⟩:=h j g;exact ⟨b,i,c,zM d k.2.2,(World.cell?_of_block (w:=w) (k.1 b d (f _ c))).trans c0⟩
theorem Y7.keep {w w':World}{v v':Value}{a:Nat}{b:Option Addr}{nn d:Nat}{ns:List ByteArray}{c:Option Addr}{f g:Nat}{ts:List Int}(h:Y7 w a b nn d ns c f g ts)(k:FV w v w' v')(h5:some a≠v.ownBlock)(h6:∀ x,c=some x→some x.block≠v.ownBlock)(h7:∀ x,b=some x→some x.block≠v.ownBlock):Y7 w' a b nn d ns c f g ts:=
 ⟨(World.cell?_of_block (w:=w) (k.1 a h.lt h5)).trans h.c0,(World.cell?_of_block (w:=w) (k.1 a h.lt h5)).trans h.c1,zM h.lt k.2.2,h.nms.keep k h7,h.nl,h.small,h.ints.keep k h6,h.same⟩
def TrX (B:Nat) (tv:Value) (tt:List Int) (o:Except (Int × Int) (List Int)) (w:World) (r:Ending) (w':World):Prop:=
 (∃ ys v',o= .ok ys∧r= .returned (.tuple #[v',.agg #[.int .i64 0,.int .i64 0]])∧w'.ownsRow B 3 1 v' (tt ++ys).length (Ar (tt ++ys))∧FV w tv w' v'∧Below B w w')∨
 (∃ (f:Int × Int) (v':Value),o= .error f∧r= .returned (.tuple #[v',.agg #[.int .i64 f.1,.int .i64 f.2]])∧(v'= .slice none 0 0∨∃ x n c,v'= .slice x n c)∧f.1≠0∧Below B w w')
theorem SZ (a:Option Addr)(n c:Nat)(N:List Nd)(ar:∀ x∈N,As x=true)(t:World)(au:GQ t a n c N)(B:Nat)(hB:t.heap.size≤B)(z:Nat)(S:Option Addr)(nn ae:Nat)(ns:List ByteArray)(T:Option Addr)(af ag:Nat)(ts:List Int)(av:∀ d∈Ep ns ts,1≤d.typ∧d.typ≤4)(Es:List Ex)(aR:Es.length=n)(aw:∀ j,(h:j < Es.length)→Ds N j Es[j])
  (f m:Nat)(aS:f+m≤n)(hf: 1≤f+m)(bl:n≤4000)(A:Value)(s:List Int)(bm:s.length≤4000)(w:World)(ax:Below t.heap.size t w)(y:B≤w.heap.size)(h4:Y7 w z S nn ae ns T af ag ts)(h5:some z≠A.ownBlock)(h6:∀ x,T=some x→some x.block≠A.ownBlock)(h7:∀ x,S=some x→some x.block≠A.ownBlock)(U:w.ownsRow B 3 1 A s.length (Ar s)):
  Calls Tryz.prog 50 #[.slice a n c,.int .i64 f,.int .i64 ((f+m:Nat) - 1 :Int),.pointer (some ⟨z,0,none⟩),A] w (TrX B A s (Du f ((List.range' f m).map (FF Es (Ep ns ts)))) w):=by
 obtain ⟨aT,aU,aV,aW,aX⟩:=info_parts Jk;obtain ⟨V,X,rfl,_⟩:=Ad U;have ay:∀ k,k < m→∀ W,Below t.heap.size t W→Y7 W z S nn ae ns T af ag ts→Calls Tryz.prog 82 #[.slice a n c,.int .i64 ((f+k:Nat):Int),.pointer (some ⟨z,0,none⟩)] W (NdC (FF Es (Ep ns ts) (f+k)) W):=fun k hk W aY q2=>by
  have az:f+k < Es.length:=by omega
  rw[FF,zH az];exact SV a n c N ar z S nn ae ns T af ag ts av (aw (f+k) az) W (au.below aY NLN) q2
 have aZ:=Ab ay;have a0:=Ab ax;obtain ⟨os,I⟩:∃ os,os=(List.range' f m).map (FF Es (Ep ns ts)):=⟨_,rfl⟩
 have a1:=Ab (show ∀ k,(h:k < m)→∃ h2:k < os.length,os[k]=FF Es (Ep ns ts) (f+k) from fun k h=>⟨by rw[I];simpa using h,by simp[I]⟩);have a2:=Ab (show os.length=m by rw[I];simp);rw[← I];have Y:=Al.new w #[.int .i64 0,.int .i64 0] 28;have J:=(Below.refl w.heap.size w).alloc NLN (.cells #[.int .i64 0,.int .i64 0] 28);have aA:=U.alloc (.cells #[.int .i64 0,.int .i64 0] 28);have ah:(w.alloc (.cells #[.int .i64 0,.int .i64 0] 28)).heap.size=w.heap.size+1:=by simp
 have aB:=h4.below J;have aC:some w.heap.size≠(Value.slice V s.length X).ownBlock:=fun e=>by have:=(U.lt _ e.symm).2;omega
 have aD:∀ W v,FV (w.alloc (.cells #[.int .i64 0,.int .i64 0] 28)) (.slice V s.length X) W v→FV w (.slice V s.length X) W v:=fun W v k=>
  ⟨fun j h1 h2=>(k.1 j (by omega) h2).trans (Below.heap_alloc w _ j h1),fun q hq=>by rcases k.2.1 q hq with e | e;exact .inl e;right;omega,by have:=k.2.2;omega⟩
 have aE:=Ab aD;clear I ay aw aR ax au ar U h4 av aD;obtain ⟨Z,ai⟩:∃ Z:Int,Z=(f+m:Nat) - 1:=⟨_,rfl⟩
 rw[← ai];have aF:=Ab ai;have aG:=Ab (show f+m≤4000 by omega);clear ai aS hf;go_enter Tryz.func50,Tryz.ntmps50
 go_wp2_with fail
 generalize w.alloc (.cells #[.int .i64 0,.int .i64 0] 28)=aH at Y J aA ah aB aE ⊢;have a3:=Ab ah;clear ah;go_loopw [4,12] (fun v i wr=>∃ (j b:Nat) (K l:List Int),Hid (j≤m∧b=f+j∧l=s ++K)∧i= .int .i64 b∧wr.ownsRow B 3 1 v l.length (Ar l)∧Hid (Du f (os.take j)= .ok K)∧Below B aH wr∧FV aH (.slice V s.length X) wr v) (fun _ i _=>f+m - (intOf i).toNat)
 case atStart=>exact ⟨0,f, [],s,Ab ⟨zF _,rfl,by simp⟩,rfl,aA,Ab rfl,BRN,FV.refl _ _⟩
 case round=>
  obtain ⟨j,b,K,l,o,rfl,aa,aj,ab,L⟩:=hrel;have bn:l.length≤8000:=by have h1:=SY (Aa aj);have h2:=Aa o;have h3:=Aa aG;rw[zb] at h1;rw[h2.2.2,zA];omega
  have a4:Below t.heap.size t wr:=((Aa a0).trans (J.mono (zD hB y))).trans (ab.mono hB);have aI:B≤wr.heap.size:=zD (by have:=Aa a3;omega) ab.size;have ac:Al wr w.heap.size #[.int .i64 0,.int .i64 0] 28:=⟨(L.1 _ Y.lt aC).trans Y.out⟩
  by_cases ad:j < m
  ·have a5:(b:Int)≤Z:=by have:=Aa o;have:=Aa aF;omega
   have aJ:=aB.keep L h5 h6 h7;have M:=Ab (Aa aZ j ad wr a4 aJ);obtain ⟨aK,ak⟩:=Aa a1 j ad;have C:=Ab (show Du f (os.take (j+1))=AcI K (f+j) os[j] by rw[zf aK,PT _ _ _ _ (Aa aj),zb,Nat.min_eq_left (by omega)]);have O:=Ab (show ∀ c,os[j]= .error c→Du f os= .error (c,((f+j:Nat):Int)) from fun c e=>Vh os f (j+1) (by rw[Aa C,e];rfl));rw[ak] at C O;have aL:=Ab ad;have bo:b≤4000:=by have:=Aa o;have:=Aa aG;omega
   generalize FF Es (Ep ns ts) (f+j)=bp at M C O ak;rw[← (Aa o).2.1] at M;obtain ⟨E,F,rfl,_⟩:=Ad aa;clear aK ad ak aJ;go_wp2_with fail
   refine (Aa M).mono ?_;rintro r w2 ⟨⟨ty,code,rfl,a6⟩,H⟩;have aM:=ab.trans (H.mono aI);have aN:=Au aa H NLN;have a7:FV wr (.slice E l.length F) w2 (.slice E l.length F):=⟨fun k h _=>H.block k h,fun q h=> .inl h,H.size⟩
   have P:=L.trans a7;have al:=ac.after H NLN;have a8:B≤w2.heap.size:=zD aI H.size;rcases a6 with ⟨rfl,rfl⟩ | ⟨hc,rfl⟩
   ·have a9:=Ab (show Du f (os.take (j+1))= .ok (K ++ [ty]) from Aa C);clear C O M;dsimp only;go_wp2_with (at_builtin;refine wpList_append_lies _ rfl _ _ 24 rfl B 3 aT (.int .i64 0) 1 8 Tryz.underlying24 aU aV aW aX rfl (by decide) _ _ _ rfl (World.ownsRow.alloc aN _) ⟨w2.heap.size,0,none⟩ 1 1 [.int .i64 ty] rfl rfl ?c1 ?c2 (by decide) ?c3 ?c4 ?c5 (w2.heap.size+1) (by simp) ?_)
    case c1=>exact Bj _ _ _ _ (by simp)
    case c2=>intro u aO;simp at aO;subst aO;rfl
    case c3=>unfold maxLen;omega
    case c4=>omega
    case c5=>simp;omega
    intro g cap bq aP ao hat br;have ba:=P.trans (Ef (n:=l.length+1) (c:=cap) ao hat);have bb:=(aM.alloc a8 (.cells #[.int .i64 ty] 3)).grown ao (by simp;omega) (fun q hq=>(aN.lt q hq).1);have bc:=Ez aP;clear ao hat aP;go_wp2_with fail
    go_roundw
    case rel=>exact ⟨j+1,b+1,K ++ [ty],l ++ [ty],Ab ⟨Aa aL,by have:=Aa o;omega,by rw[(Aa o).2.2,zC]⟩,by go_num,bc,a9,bb,ba⟩
    case measure=>have:=Aa aL;have:=Aa o;simp[intOf];omega
   ·have ec:(code != 0)=true:=zS.2 hc;have bd:=Ab (show Du f os= .error (code,(b:Int)) by rw[(Aa o).2.1];exact Aa O code rfl);have bf:=Ab hc;clear hc C O M;obtain ⟨bg,bh⟩:=Ba al;have bi:=fun j=>al.frozen j;have Q:=al.set 0 (.int .i64 code);have bj:=fun j=>Q.frozen j;dsimp only;have R:=Q.set 1 (.int .i64 b);have ap:((w2.setCell ⟨w.heap.size,0,none⟩ (.int .i64 code)).setCell ⟨w.heap.size,1,none⟩ (.int .i64 b)).cell? ⟨w.heap.size,0,none⟩=some (.int .i64 code):=R.cell 0;have aq:((w2.setCell ⟨w.heap.size,0,none⟩ (.int .i64 code)).setCell ⟨w.heap.size,1,none⟩ (.int .i64 b)).cell? ⟨w.heap.size,1,none⟩=some (.int .i64 b):=R.cell 1;go_wp2_with fail
    refine bodyPost_ret (v:= .tuple #[.slice E l.length F,.agg #[.int .i64 code,.int .i64 b]]) (by simp[results,Tryz.results50,go_sem,ap,aq]) rfl (.inr ⟨_,_,Aa bd,rfl,.inr ⟨_,_,_,rfl⟩,Aa bf, ?_⟩)
    exact (((J.mono y).trans aM).setCell (p:=⟨w.heap.size,0,none⟩) y _).setCell (p:=⟨w.heap.size,1,none⟩) y _
  ·have e:j=m:=by have:=Aa o;omega
   have a5: ¬ ((b:Int)≤Z):=by have:=Aa o;have:=Aa aF;omega
   subst e;have bk:=Ab (show Du f os= .ok K by rw[← Aa aj,zq (by rw[Aa a2];exact NLN)]);obtain ⟨E,F,rfl,_⟩:=Ad aa;obtain ⟨bg,bh⟩:=Ba ac;have bi:=fun j=>ac.frozen j;have Q:=ac.set 0 (.int .i64 0);have bj:=fun j=>Q.frozen j;have R:=Q.set 1 (.int .i64 0);have ap:((wr.setCell ⟨w.heap.size,0,none⟩ (.int .i64 0)).setCell ⟨w.heap.size,1,none⟩ (.int .i64 0)).cell? ⟨w.heap.size,0,none⟩=some (.int .i64 0):=R.cell 0;have aq:((wr.setCell ⟨w.heap.size,0,none⟩ (.int .i64 0)).setCell ⟨w.heap.size,1,none⟩ (.int .i64 0)).cell? ⟨w.heap.size,1,none⟩=some (.int .i64 0):=R.cell 1;have P:=Aa aE _ _ L;have aQ:∀ q,(Value.slice E l.length F).ownBlock=some q→q≠w.heap.size:=fun q hq e=>by
    subst e;rcases L.2.1 _ hq with e2 | e2
    ·exact aC e2.symm
    ·have:=Y.lt;omega
   go_wp2_with fail
   refine bodyPost_ret (v:= .tuple #[.slice E l.length F,.agg #[.int .i64 0,.int .i64 0]]) (by simp[results,Tryz.results50,go_sem,ap,aq]) rfl (.inl ⟨K,_,Aa bk,rfl, ?_, ?_, ?_⟩)
   ·rw[← (Aa o).2.2];exact Wz (Wz aa _ _ aQ) _ _ aQ
   ·exact ⟨fun k h1 h2=>((heap_setCell_other _ _ _ _ (by show k≠w.heap.size;omega)).trans (heap_setCell_other _ _ _ _ (by show k≠w.heap.size;omega))).trans (P.1 k h1 h2),P.2.1,by have:=P.2.2;simpa using this⟩
   ·exact (((J.mono y).trans ab).setCell (p:=⟨w.heap.size,0,none⟩) y _).setCell (p:=⟨w.heap.size,1,none⟩) y _
theorem Gu {w:World}{B b n c size d:Nat}{e e':TypeId}{v v':Value}{f xs':List Value}(h:w.ownsRow B e size v n f)(i:w.ownsRow b e' d v' c xs')(j:e≠e'):∀ q,v.ownBlock=some q→v'.ownBlock≠some q:=fun q hq=>by
 rcases h.2 with ⟨a,_⟩ | ⟨g,cap,l,a,_,k,_⟩
 ·rw[a] at hq;cases hq
 ·rw[a] at hq;obtain rfl:g=q:=by simpa[Value.ownBlock] using hq
  exact Ae ⟨k⟩ i j
structure Lm (B lb:Nat) (ns:List ByteArray) (ts tt:List Int) (nv lv tv:Value) (w:World):Prop where
 row:Al w lb #[nv,lv] 93
 names:w.ownsRow B 9 1 nv ns.length (ns.map Value.string)
 lets:w.ownsRow B 3 1 lv ts.length (Ar ts)
 types:w.ownsRow B 3 1 tv tt.length (Ar tt)
 low:lb < B
 apart:∀ q,lv.ownBlock=some q→tv.ownBlock≠some q
theorem Lm.below {B b:Nat}{ns:List ByteArray}{ts c:List Int}{d lv f:Value}{w w':World}(h:Lm B b ns ts c d lv f w)(a:Below w.heap.size w w'):Lm B b ns ts c d lv f w':=
 ⟨h.row.after a NLN,Au h.names a NLN,Au h.lets a NLN,Au h.types a NLN,h.low,h.apart⟩
theorem Lm.tree {B c:Nat}{ns:List ByteArray}{ts a ys:List Int}{d lv f b:Value}{w w':World}(h:Lm B c ns ts a d lv f w)(O:w'.ownsRow B 3 1 b (a ++ys).length (Ar (a ++ys)))(K:FV w f w' b)(g:Below B w w'):Lm B c ns ts (a ++ys) d lv b w':=by
 refine ⟨h.row.below g h.low,At h.names (fun q hq=>K.1 q (h.names.lt q hq).2 (fun e=>Gu h.names h.types (by decide) q hq e.symm)),At h.lets (fun q hq=>K.1 q (h.lets.lt q hq).2 (fun e=>h.apart q hq e.symm)),O,h.low,fun q hq e=>?_⟩;rcases K.2.1 q e with e2 | e2
 ·exact h.apart q hq e2
 ·have:=(h.lets.lt q hq).2;omega
theorem Lm.set {B a:Nat}{ns:List ByteArray}{ts b:List Int}{c lv d:Value}{w:World}(h:Lm B a ns ts b c lv d w)(p:Addr)(u:Value)(h1:p.block < B)(h2:p.block≠a):Lm B a ns ts b c lv d (w.setCell p u):=
 ⟨h.row.setFar (fun e=>h2 e.symm) u,AA h.names p u (fun q hq=>by have:=(h.names.lt q hq).1;omega),AA h.lets p u (fun q hq=>by have:=(h.lets.lt q hq).1;omega),AA h.types p u (fun q hq=>by have:=(h.types.lt q hq).1;omega),h.low,h.apart⟩
theorem Lm.pushN {B a:Nat}{ns:List ByteArray}{ts j:List Int}{c lv l:Value}{w b:World}{o:Obj}{nm:ByteArray}{g cap:Nat}(h:Lm B a ns ts j c lv l w)(hB:B≤w.heap.size)
  (m:b.ownsRow B 9 1 (.slice (some ⟨g,0,none⟩) (ns.length+1) cap) (ns.length+1) (ns.map Value.string ++ [.string nm]))(d:(w.alloc o).grownBy b c.ownBlock)(hat:c.ownBlock=some g∨g=w.heap.size+1):
  Al b a #[c,lv] 93∧Lm B a (ns ++ [nm]) ts j (.slice (some ⟨g,0,none⟩) (ns.length+1) cap) lv l (b.setCell ⟨a,0,none⟩ (.slice (some ⟨g,0,none⟩) (ns.length+1) cap))∧
  (∀ k,k < w.heap.size→k≠a→some k≠c.ownBlock→(b.setCell ⟨a,0,none⟩ (.slice (some ⟨g,0,none⟩) (ns.length+1) cap)).heap[k]? =w.heap[k]?)∧w.heap.size≤b.heap.size:=by
 have n:=Ae h.row h.names (by decide);have p:=Ae h.row h.lets (by decide);have r:=Ae h.row h.types (by decide);have f:=(h.row.alloc o).grown d (fun e=>n e.symm);have s:=Ae f m (by decide);have t:g≠a:=fun e=>s (by rw[e];rfl);have u:(w.alloc o).heap.size=w.heap.size+1:=by simp
 have i:∀ k,k < w.heap.size→k≠a→some k≠c.ownBlock→(b.setCell ⟨a,0,none⟩ (.slice (some ⟨g,0,none⟩) (ns.length+1) cap)).heap[k]? =w.heap[k]? :=fun k h1 h2 h3=>
  (heap_setCell_other b ⟨a,0,none⟩ k _ h2).trans ((d.block k (by rw[u];omega) h3).trans (Below.heap_alloc w o k h1))
 have v:w.heap.size≤b.heap.size:=by have:=d.size;omega
 refine ⟨f,⟨f.set 0 (.slice (some ⟨g,0,none⟩) (ns.length+1) cap), ?_,At h.lets (fun q hq=>i q (h.lets.lt q hq).2 (fun e=>p (e ▸ hq)) (fun e=>Gu h.names h.lets (by decide) q e.symm hq)),At h.types (fun q hq=>i q (h.types.lt q hq).2 (fun e=>r (e ▸ hq)) (fun e=>Gu h.names h.types (by decide) q e.symm hq)),h.low,h.apart⟩,i,v⟩;rw[zU,zA];refine AA m ⟨a,0,none⟩ _ (fun q hq=>?_);have:g=q:=by simpa[Value.ownBlock] using hq
 subst this;exact t
theorem Lm.pushL {B a:Nat}{ns:List ByteArray}{ts j:List Int}{c lv l:Value}{w b:World}{o:Obj}{t:Int}{g cap:Nat}(h:Lm B a ns ts j c lv l w)(hB:B≤w.heap.size)
  (m:b.ownsRow B 3 1 (.slice (some ⟨g,0,none⟩) (ts.length+1) cap) (ts.length+1) (Ar ts ++ [.int .i64 t]))(d:(w.alloc o).grownBy b lv.ownBlock)(hat:lv.ownBlock=some g∨g=w.heap.size+1):
  Al b a #[c,lv] 93∧Lm B a ns (ts ++ [t]) j c (.slice (some ⟨g,0,none⟩) (ts.length+1) cap) l (b.setCell ⟨a,1,none⟩ (.slice (some ⟨g,0,none⟩) (ts.length+1) cap))∧
  (∀ k,k < w.heap.size→k≠a→some k≠lv.ownBlock→(b.setCell ⟨a,1,none⟩ (.slice (some ⟨g,0,none⟩) (ts.length+1) cap)).heap[k]? =w.heap[k]?)∧w.heap.size≤b.heap.size:=by
 have n:=Ae h.row h.names (by decide);have p:=Ae h.row h.lets (by decide);have r:=Ae h.row h.types (by decide);have f:=(h.row.alloc o).grown d (fun e=>p e.symm);have s:=Ae f m (by decide);have u:g≠a:=fun e=>s (by rw[e];rfl);have v:(w.alloc o).heap.size=w.heap.size+1:=by simp
 have i:∀ k,k < w.heap.size→k≠a→some k≠lv.ownBlock→(b.setCell ⟨a,1,none⟩ (.slice (some ⟨g,0,none⟩) (ts.length+1) cap)).heap[k]? =w.heap[k]? :=fun k h1 h2 h3=>
  (heap_setCell_other b ⟨a,1,none⟩ k _ h2).trans ((d.block k (by rw[v];omega) h3).trans (Below.heap_alloc w o k h1))
 have x:w.heap.size≤b.heap.size:=by have:=d.size;omega
 refine ⟨f,⟨f.set 1 (.slice (some ⟨g,0,none⟩) (ts.length+1) cap),At h.names (fun q hq=>i q (h.names.lt q hq).2 (fun e=>n (e ▸ hq)) (fun e=>Gu h.names h.lets (by decide) q hq e.symm)), ?_,At h.types (fun q hq=>i q (h.types.lt q hq).2 (fun e=>r (e ▸ hq)) (fun e=>h.apart q e.symm hq)),h.low,fun q hq e=>?_⟩,i,x⟩
 ·rw[Ar,zU,zA];refine AA m ⟨a,1,none⟩ _ (fun q hq=>?_);have:g=q:=by simpa[Value.ownBlock] using hq
  subst this;exact u
 ·have:g=q:=by simpa[Value.ownBlock] using hq
  subst this;rcases hat with hat | hat
  ·exact h.apart g hat e
  ·have:=(h.types.lt g e).2;omega
structure Ls (B rb lb fb sb:Nat) (ns:List ByteArray) (ts tt:List Int) (nv lv tv:Value) (S:Array Value) (fc fa:Int) (w0 w:World):Prop where
 M:Lm B lb ns ts tt nv lv tv w
 F:Al w fb #[.int .i64 fc,.int .i64 fa] 28
 R:Al w rb #[.int .i64 0,.int .i64 0] 28
 S:Al w sb S 60
 low:Below rb w0 w
 ord:rb < lb∧lb < fb∧fb < B∧B≤sb
theorem Ls.below {B b c d f:Nat}{ns:List ByteArray}{ts g:List Int}{i lv j:Value}{S:Array Value}{k l:Int}{m w w':World}(h:Ls B b c d f ns ts g i lv j S k l m w)(a:Below w.heap.size w w'):Ls B b c d f ns ts g i lv j S k l m w':=
 ⟨h.M.below a,h.F.after a NLN,h.R.after a NLN,h.S.after a NLN,h.low.trans (a.mono (by have:=h.R.lt;omega)),h.ord⟩
theorem Ls.tree {B f g i c:Nat}{ns:List ByteArray}{ts a ys:List Int}{j lv k d:Value}{S:Array Value}{l m:Int}{n w w':World}(h:Ls B f g i c ns ts a j lv k S l m n w)(O:w'.ownsRow B 3 1 d (a ++ys).length (Ar (a ++ys)))(K:FV w k w' d)(b:Below B w w'):Ls B f g i c ns ts (a ++ys) j lv d S l m n w':=
 ⟨h.M.tree O K b,h.F.below b h.ord.2.2.1,h.R.below b (by have:=h.ord;omega),⟨(K.1 c h.S.lt (fun e=>Ae h.S h.M.types (by decide) e.symm)).trans h.S.out⟩,h.low.trans (b.mono (by have:=h.ord;omega)),h.ord⟩
theorem Ls.fault {B d f b g:Nat}{ns:List ByteArray}{ts i:List Int}{j lv k:Value}{S:Array Value}{m n:Int}{l w:World}(h:Ls B d f b g ns ts i j lv k S m n l w)(c a:Int):Ls B d f b g ns ts i j lv k S c a l ((w.setCell ⟨b,0,none⟩ (.int .i64 c)).setCell ⟨b,1,none⟩ (.int .i64 a)):=by
 have o:=h.ord;refine ⟨(h.M.set ⟨b,0,none⟩ _ o.2.2.1 (by show b≠f;omega)).set ⟨b,1,none⟩ _ o.2.2.1 (by show b≠f;omega),(h.F.set 0 _).set 1 _,(h.R.setFar (by show d≠b;omega) _).setFar (by show d≠b;omega) _,(h.S.setFar (by show g≠b;omega) _).setFar (by show g≠b;omega) _, ?_,o⟩;exact (h.low.setCell (p:=⟨b,0,none⟩) (by show d≤b;omega) _).setCell (p:=⟨b,1,none⟩) (by show d≤b;omega) _
theorem Ls.of_kept {B a b c d:Nat}{ns i:List ByteArray}{ts f j:List Int}{u lv g l m:Value}{S:Array Value}{p r:Int}{s w w':World}{e:TypeId}{size n:Nat}{t:Value}{v:List Value}(h:Ls B a b c d ns ts f u lv g S p r s w)(hx:w.ownsRow B e size t n v)(h1: 28≠e)(h2: 60≠e)
  (M:Lm B b i j f l m g w')(hk:∀ k,k < w.heap.size→k≠b→some k≠t.ownBlock→w'.heap[k]? =w.heap[k]?)(x:Below a w w'):Ls B a b c d i j f l m g S p r s w':=by
 have o:=h.ord;exact ⟨M,⟨(hk c h.F.lt (by omega) (fun q=>Ae h.F hx h1 q.symm)).trans h.F.out⟩,⟨(hk a h.R.lt (by omega) (fun q=>Ae h.R hx h1 q.symm)).trans h.R.out⟩,⟨(hk d h.S.lt (by omega) (fun q=>Ae h.S hx h2 q.symm)).trans h.S.out⟩,h.low.trans x,o⟩
end Go.Proofs.YtchakjeegneeoaaGreatDoor
