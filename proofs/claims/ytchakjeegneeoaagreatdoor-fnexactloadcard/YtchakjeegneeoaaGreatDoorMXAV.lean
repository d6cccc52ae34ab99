/-
  ECD, ECE, ECF, JQ, ECG, JR0. Own work.
-/
import Derived.Test.YtchakjeegneeoaaGreatDoorMXAU
import Derived.Test.YtchakjeegneeoaaGreatDoorMXAQ
import Derived.Test.YtchakjeegneeoaaGreatDoorMXAW
import Derived.Test.YtchakjeegneeoaaGreatDoorMXAZ
namespace Go.Proofs.YtchakjeegneeoaaGreatDoor
open Go.RowKit
set_option linter.unusedVariables false
def cad (aT aN aA:Addr) (c:Int):Addr:=if c=7 then aN else if c=8 then aA else aT
def ErO (aT aN aA:Addr) (f:Int × Int) (g:Nat) (w:World):Prop:=Al w g #[.int .i64 f.2,.iface 276 (.pointer (some (cad aT aN aA f.1)))] 112
def TxO (aT aN aA:Addr) (B cb:Nat) (ts tt:List Int) (mv lv tv:Value) (o:Rs) (ys:List Int) (w:World) (r:Ending) (w':World):Prop:=
 (∃ t tv',o= .ok t∧r= .returned (.tuple #[.int .i64 t,.nilIface])∧Ck B cb ts (tt ++ys) mv lv tv' w'∧Kt B cb tv w tv' w')∨(∃ f g,o= .error f∧r= .returned (.tuple #[.int .i64 0,.iface 107 (.pointer (some ⟨g,0,none⟩))])∧ErO aT aN aA f g w'∧Below B w w')
def TxV (aT aN aA:Addr) (B cb:Nat) (ts:List Int) (mb:Nat) (D:List Dc) (lv:Value) (w0:World) (v:Value) (o:Rs) (ys:List Int):Prop:=
 ∀ (tt:List Int) (tv:Value) (w:World),Below B w0 w→Ck B cb ts tt (.map (some mb)) lv tv w→Di w mb D→tt.length+ys.length≤4000→Calls Tryz.prog 132 #[.pointer (some ⟨cb,0,none⟩),v] w (TxO aT aN aA B cb ts tt (.map (some mb)) lv tv o ys w)
theorem GN (i:Int)(t:TypeId)(p:Value)(w:World):
  Calls Tryz.prog 83 #[.int .i64 i,.iface t p] w fun e w'=>e= .returned (.iface 107 (.pointer (some ⟨w.heap.size,0,none⟩)))∧Al w' w.heap.size #[.int .i64 i,.iface t p] 112∧Below w.heap.size w w':=by
 go_enter Tryz.func83,Tryz.ntmps83
 go_wp2
 go_ret
 exact ⟨rfl,Al.new _ _ _,(Below.refl w.heap.size w).alloc NLN _⟩
theorem Ze {o:Option Int}{a:Addr}{r:Ending}(h:H8 o a r):(∃ t,o=some t∧r= .returned (.tuple #[.int .i64 t,.nilIface]))∨(o=none∧r= .returned (.tuple #[.int .i64 0,.iface 276 (.pointer (some a))])):=by
 cases o with
 |none=>exact .inr ⟨rfl,h⟩
 |some t=>exact .inl ⟨t,rfl,h⟩
theorem JR {t:Int}{a:Addr}{r:Ending}(h:Sw (some t) r):H8 (some t) a r:=by
 rcases h with ⟨b,e,h⟩ | ⟨e,_⟩
 ·cases e;exact h
 ·cases e
theorem Di.row_ne {w:World}{mb b:Nat}{D:List Dc}{cs:Array Value}{t:TypeId}(h:Di w mb D)(R:Al w b cs t):mb≠b:=fun e=>by
 obtain ⟨_,a,c,h1,_⟩:=h;rw[e,R.out] at h1;cases h1
theorem Di.own_ne {w:World}{mb B k n:Nat}{b:TypeId}{D:List Dc}{v:Value}{cs:List Value}(h:Di w mb D)(O:w.ownsRow B b k v n cs):v.ownBlock≠some mb:=fun e=>by
 obtain ⟨_,d,f,h1,_⟩:=h;rcases O.2 with ⟨a,_⟩ | ⟨g,cap,i,a,_,c,_⟩
 ·rw[a] at e;cases e
 ·rw[a] at e;obtain rfl:g=mb:=by simpa[Value.ownBlock] using e
  have:=c.symm.trans h1;simp at this
theorem Di.kt {B a mb:Nat}{ts c:List Int}{D:List Dc}{d lv b f:Value}{w w':World}(h:Di w mb D)(C:Ck B a ts c d lv b w)(K:Kt B a b w f w'):Di w' mb D:=
 h.keep (K.keep mb h.lt (h.row_ne C.row) (fun e=>h.own_ne C.types e.symm))
set_option maxRecDepth 100000
set_option maxHeartbeats 3200000
structure Kq where
 v:Value
 o:Rs
 ys:List Int
def Nj:List Kq→Except (Int × Int) (List Int)
 | []=> .ok []
 |k ::K=>k.o.bind fun a=>(Nj K).bind fun s=> .ok (a ::s)
def U1:List Kq→List Int
 | []=> []
 |k ::K=>k.ys ++U1 K
theorem QL:∀ (c B:List Kq),Nj (c ++B)=(Nj c).bind (fun a=>(Nj B).bind fun b=> .ok (a ++b))∧U1 (c ++B)=U1 c ++U1 B
 | [],B=>⟨by cases h:Nj B <;> simp[Nj,Except.bind,h],rfl⟩
 |k ::c,B=>by
  obtain ⟨h1,h2⟩:=QL c B;refine ⟨?_,by simp[U1,h2]⟩;rw[List.cons_append,Nj,Nj,h1];cases k.o <;> cases Nj c <;> cases Nj B <;> simp[Except.bind]
structure Kz (B cb:Nat) (a:Option Addr) (w:World) (tv:Value) (ts tt:List Int) (mv lv tv1 kv:Value) (ks:List Int) (vs:List Value) (w2:World):Prop where
 C:Ck B cb ts tt mv lv tv1 w2
 K:Kt B cb tv w tv1 w2
 R:KdR w.heap.size w2 a vs
 O:w2.ownsRow B 3 1 kv ks.length (Ar ks)
 hB:B≤w.heap.size
 cbw:cb < w.heap.size
 lvw:∀ q,lv.ownBlock=some q→q < w.heap.size
 k0:∀ q,kv.ownBlock=some q→w.heap.size≤q∧tv1.ownBlock≠some q
theorem Kz.call {B b:Nat}{a:Option Addr}{w w2 d:World}{k m f i lv n:Value}{ts j ys ks:List Int}{o:List Value}(h:Kz B b a w k ts j i lv m n ks o w2)(s:Ck B b ts (j ++ys) i lv f d)(c:Kt B b m w2 f d):Kz B b a w k ts (j ++ys) i lv f n ks o d:=by
 have t:=h.cbw;refine ⟨s,h.K.trans c,h.R.keep fun g cs l r=>c.row r (by omega) (Ae r h.C.types (by decide)),At h.O (fun q hq=>?_),h.hB,t,h.lvw,fun q hq=>?_⟩
 ·obtain ⟨p,q3⟩:=h.k0 q hq;exact c.keep q (h.O.lt q hq).2 (by omega) (fun e=>q3 e.symm)
 ·obtain ⟨p,q3⟩:=h.k0 q hq;refine ⟨p,fun e=>?_⟩;rcases c.new q e with e2 | e2
  ·exact q3 e2
  ·have:=(h.O.lt q hq).2;omega
theorem Kz.app {B b:Nat}{x:Option Addr}{w w2 c:World}{i j k lv d:Value}{ts m ks:List Int}{n:List Value}{o:Obj}{a:Int}{gk cap:Nat}(h:Kz B b x w i ts m k lv j d ks n w2)
  (p:c.ownsRow B 3 1 (.slice (some ⟨gk,0,none⟩) (ks.length+1) cap) (ks.length+1) (Ar ks ++ [.int .i64 a]))(f:(w2.alloc o).grownBy c d.ownBlock)(hat:d.ownBlock=some gk∨gk=w2.heap.size+1):
  Kz B b x w i ts m k lv j (.slice (some ⟨gk,0,none⟩) (ks.length+1) cap) (ks ++ [a]) n c:=by
 have s:=h.cbw;have t:=h.K.low.size;refine ⟨h.C.other f (fun e=>?_) (fun q hq e=>?_) (fun q hq e=>?_),h.K.other f h.hB (fun q hq=>(h.k0 q hq).1),h.R.keep fun g cs l r=>(r.alloc o).grown f (fun e=>Ae r h.O (by decide) e.symm), ?_,h.hB,s,h.lvw,fun q hq=>?_⟩
 ·have:=(h.k0 b e).1;omega
 ·have:=(h.k0 q e).1;have:=h.lvw q hq;omega
 ·exact (h.k0 q e).2 hq
 ·rw[Ar,zU,zA];exact p
 ·obtain rfl:gk=q:=by simpa[Value.ownBlock] using hq
  rcases hat with e | e
  ·exact h.k0 gk e
  ·refine ⟨by omega,fun e2=>?_⟩;have:=(h.C.types.lt gk e2).2;omega
theorem Xt (Z aa ab:Addr)(c:Int)(B l:Nat)(ts:List Int)(mb:Nat)(D:List Dc)(lv:Value)(ac:World)(T:TypeId)(v:Value)(i:Int)(f:List Int→Option Int)(K:List Kq)(hk:KdX T v (K.map Kq.v))(hp:PlX T v i)(aZ:K.length≤3)(a0:Hid (∀ k∈K,(∃ t u,k.v= .iface t u)∧inX k.o∧TxV Z aa ab B l ts mb D lv ac k.v k.o k.ys))
  (a2:Hid (∀ x y w ad ae s,Below B ac w→Ck B l ts x (.map (some mb)) lv y w→Di w mb D→BT w ad s.length ae s→s.length=K.length→(∀ a∈s,1≤a∧a≤4)→Calls Tryz.prog 151 #[.pointer (some ⟨l,0,none⟩),.iface T v,.slice ad s.length ae] w fun r w'=>H8 (f s) (cad Z aa ab c) r∧Below w.heap.size w w')):
  TxV Z aa ab B l ts mb D lv ac (.iface T v) ((Nj K).bind fun s=>QJ (c,i) (f s)) (U1 K ++ [gX ((Nj K).bind fun s=>QJ (c,i) (f s))]):=by
 intro x y w aw z ax a3;obtain ⟨bx,bz,bA,hk,M,F⟩:=hk;obtain ⟨bB,bC,bD,hp,N,af⟩:=hp;have a4:=Ab (Js M.1 M.2.1 M.2.2);have a5:=Ab (Js N.1 N.2.1 N.2.2);have F:=Ab F;have af:=Ab af;have ay:=Ab ax;have az:=Ab z;have aA:=Ab aw;have a6:=z.row.lt;have P:B≤w.heap.size:=by have:=z.low;omega
 have A:=z.types.lt;have aB:=z.lets.lt;simp only[zA,List.length_cons,List.length_nil] at a3;obtain ⟨aC,aD,aE,aF,aG⟩:=info_parts Jk;obtain ⟨m,ag⟩:∃ m,m=K.length:=⟨_,rfl⟩
 have aH:(K.map Kq.v).length=m:=by rw[zV,ag]
 unfold KdA at F;rw[aH] at F;have bE:m≤3:=by omega
 have ah:=Ab ag;clear aw ag M N ax aH aZ;go_enter Tryz.func132,Tryz.ntmps132
 go_wp2_with fail
 rw[Aa a4,Oper.upon_enter];refine (Aa F _).mono ?_;rintro r a7 ⟨a,rfl,aI,ai⟩;have a8:Kz B l a w y ts (x ++ []) (.map (some mb)) lv y (.slice none 0 0) [] (K.map Kq.v) a7:=⟨by rw[zr];exact z.below ai,Kt.of_all ai P,aI,World.ownsRow_nil _ _ _ _,P,a6,fun q hq=>(aB q hq).2,fun q hq=>by cases hq⟩
 clear ai aI A aB z;dsimp only;go_wp2_with fail
 go_loopw [6,16] (fun a9 j wr=>∃ (k:Nat) (Q:Value) (p ks:List Int),k≤m∧j= .int .i64 k∧Hid (Nj (K.take k)= .ok ks∧p=U1 (K.take k)∧ks.length=k∧∀ a∈ks,1≤a∧a≤4)∧Kz B l a w y ts (x ++p) (.map (some mb)) lv Q a9 ks (K.map Kq.v) wr) (fun _ j _=>m - (intOf j).toNat)
 case atStart=>exact ⟨0,y, [], [],zF _,rfl,Ab ⟨rfl,rfl,rfl,fun a h=>absurd h (by simp)⟩,a8⟩
 case round=>
  obtain ⟨k,Q,p,ks,hk,rfl,S,d⟩:=hrel;by_cases A:k < m
  ·have bF:(k:Int) < (m:Int):=by omega
   have U:k < K.length:=by rw[← Aa ah];exact A
   obtain ⟨⟨t,u,ev⟩,aJ,V⟩:=Aa a0 _ (zO U);obtain ⟨g,rfl,aK⟩:=d.R.at (k:=k) (by rw[zV];exact U);rw[List.getElem_map,ev] at aK;rw[ev] at V;obtain ⟨e1,e2,e3,e4⟩:=Aa S;have aL:=zf U;obtain ⟨W,X⟩:=QL (K.take k) [K[k]];obtain ⟨aj,ak⟩:=QL (K.take (k+1)) (K.drop (k+1));rw[← aL] at W X;rw[z1] at aj ak;have hy:p.length+K[k].ys.length≤(U1 K).length:=by rw[ak,X,← e2];simp[U1]
   have aM:=Ab (show ∀ b,K[k].o= .ok b→Nj (K.take (k+1))= .ok (ks ++ [b]) from fun b al=>by rw[W,e1];simp[Nj,al,Except.bind]);have aN:=Ab (show ∀ e,K[k].o= .error e→Nj K= .error e from fun e he=>by rw[aj,W,e1];simp[Nj,he,Except.bind]);have aO:=Ab (show p ++K[k].ys=U1 (K.take (k+1)) by rw[X,← e2];simp[U1]);have ao:=Ab (And.intro e3 (And.intro e4 aJ));have aP:=Ab A;obtain ⟨bG,bH,ba,_⟩:=Ad d.O;have ap:=Ab V;clear e1 e2 e3 e4 W X aj ak aL S A aJ V ev;generalize K[k].ys=bb at ap hy aO;generalize K[k].o=bI at ap aM aN ao;clear U;subst ba;have bJ:ks.length≤3:=by have:=(Aa ao).1;omega
   have bc:(x ++p).length+bb.length≤4000:=by rw[zA];omega
   go_wp2_with fail
   refine (Aa ap _ _ _ ((Aa aA).trans d.K.low) d.C ((Aa ay).kt (Aa az) d.K) bc).mono ?_;rintro r aq (⟨a1,bd,H,rfl,aQ,Kz⟩ | ⟨bf,aR,H,rfl,bg,bh⟩)
   ·have I:=d.call aQ Kz;have n:=Ab H;have bK:B≤aq.heap.size:=zD P I.K.low.size;rw[zC] at I;clear aQ Kz d aK H;dsimp only;go_wp2_with (at_builtin;refine wpList_append_lies _ rfl _ _ 24 rfl B 3 aC (.int .i64 0) 1 8 Tryz.underlying24 aD aE aF aG rfl (by decide) _ _ _ rfl (World.ownsRow.alloc I.O _) ⟨aq.heap.size,0,none⟩ 1 1 [.int .i64 a1] rfl rfl ?c1 ?c2 (by decide) ?c3 ?c4 ?c5 (aq.heap.size+1) (by simp) ?_)
    case c1=>exact Bj _ _ _ _ (by simp)
    case c2=>intro u J;simp at J;subst J;rfl
    case c3=>unfold maxLen;omega
    case c4=>omega
    case c5=>simp;omega
    intro bL bM bN aS aT aU bi;have bj:=I.app aS aT aU;clear I aS aT aU bi;go_wp2_with fail
    go_roundw
    case rel=>
     obtain ⟨bk,bl,bm⟩:=Aa ao;exact ⟨k+1,bd,_,_,Aa aP,by go_num,Ab ⟨Aa aM _ (Aa n),Aa aO,by simp[bk],fun b al=>(zK.1 al).elim (bl b) fun h=>by rw[zL.1 h];exact bm _ (Aa n)⟩,bj⟩
    case measure=>have:=Aa aP;simp[intOf];omega
   ·have n:=Ab H;clear H;dsimp only;go_wp2_with fail
    exact bodyPost_ret (v:= .tuple #[.int .i64 0,.iface 107 (.pointer (some ⟨aR,0,none⟩))]) (by simp[results,Tryz.results132,go_sem]) rfl (.inr ⟨bf,aR,by rw[Aa aN _ (Aa n)];rfl,rfl,bg,d.K.low.trans bh⟩)
  ·obtain rfl:k=m:=by omega
   obtain ⟨e1,e2,e3,e4⟩:=Aa S;rw[Aa ah,z3] at e1 e2;have bn:(x ++p).length≤3999:=by rw[zA,e2];omega
   have ar:=Ab (And.intro e1 e2);have bo:=Ab (show ks.length=K.length by rw[e3];exact Aa ah);have bp:=Ab e4;have h3:ks.length≤3:=by omega
   obtain ⟨ad,ae,rfl,_⟩:=Ad d.O;clear e1 e2 e3 e4 S A;go_wp2_with fail
   refine (Aa a2 _ _ _ _ _ ks ((Aa aA).trans d.K.low) d.C ((Aa ay).kt (Aa az) d.K) (EJ d.O (by omega)) (Aa bo) (Aa bp)).mono ?_;rintro r w2 ⟨au,E⟩;have L:=d.C.below E;generalize aV:x ++p=bO at L bn;have bq:=Ab aV;have Y:B≤wr.heap.size:=zD P d.K.low.size;have aW:Kt B l y w Q w2:=d.K.trans (Kt.of_all E Y);clear aV;rcases Ze au with ⟨t,hf,rfl⟩ | ⟨hf,rfl⟩
   ·have c2:w2.cell? ⟨l,2,none⟩=some Q:=L.row.cell 2;have n:=Ab (show (Nj K).bind (fun s=>QJ (c,i) (f s))= .ok t by rw[(Aa ar).1];show QJ (c,i) (f ks)=_;rw[hf];rfl);clear hf au;obtain ⟨bP,bQ,rfl,_⟩:=Ad L.types;dsimp only;go_wp2_with (at_builtin;refine wpList_append_lies _ rfl _ _ 24 rfl B 3 aC (.int .i64 0) 1 8 Tryz.underlying24 aD aE aF aG rfl (by decide) _ _ _ rfl (World.ownsRow.alloc L.types _) ⟨w2.heap.size,0,none⟩ 1 1 [.int .i64 t] rfl rfl ?c1 ?c2 (by decide) ?c3 ?c4 ?c5 (w2.heap.size+1) (by simp) ?_)
    case c1=>exact Bj _ _ _ _ (by simp)
    case c2=>intro u J;simp at J;subst J;rfl
    case c3=>unfold maxLen;omega
    case c4=>omega
    case c5=>have:=E.size;simp;omega
    intro bR bS av br bs hat bT;obtain ⟨aX,bt,bu⟩:=L.push (zD Y E.size) br bs hat;have d2:av.cell? ⟨l,2,none⟩=some _:=aX.cell 2;have bU:=aX.frozen 2;go_wp2_with fail
    refine bodyPost_ret (v:= .tuple #[.int .i64 t,.nilIface]) (by simp[results,Tryz.results132,go_sem]) rfl (.inl ⟨t,_,Aa n,rfl, ?_,aW.trans bu⟩)
    rw[Aa n,← (Aa ar).2,← zC,Aa bq];exact bt
   ·have n:=Ab (show (Nj K).bind (fun s=>QJ (c,i) (f s))= .error (c,i) by rw[(Aa ar).1];show QJ (c,i) (f ks)=_;rw[hf];rfl);clear hf au;dsimp only;go_wp2_with fail
    rw[Aa a5,Oper.upon_enter];refine (Aa af _).mono ?_;rintro r av ⟨rfl,aY⟩;dsimp only;go_wp2_with fail
    refine (GN i _ _ _).mono ?_;rintro r bV ⟨rfl,bv,bw⟩;dsimp only;go_wp2_with fail
    exact bodyPost_ret (v:= .tuple #[.int .i64 0,.iface 107 (.pointer (some ⟨av.heap.size,0,none⟩))]) (by simp[results,Tryz.results132,go_sem]) rfl (.inr ⟨(c,i),_,Aa n,rfl,bv,(aW.low.trans (aY.mono (zD Y E.size))).trans (bw.mono (zD (zD Y E.size) aY.size))⟩)
theorem Gq {o:Rs}{f:Int→Rs}(h:∀ a,o= .ok a→inX (f a)):inX (o.bind f):=by
 cases o with
 |error e=>intro a k;cases k
 |ok a=>exact h a rfl
theorem KS {K:List Dc}(h:∀ d∈K,1≤d.typ∧d.typ≤4):∀ (e:Ex),inX (Bc K e)
 | .int ..,a,k=>by cases k;omega
 | .text ..,a,k=>by cases k;omega
 | .bool ..,a,k=>by cases k;omega
 | .set ..,a,k=>by cases k;omega
 | .name i s,a,k=>QK (f:=(7,i)) (o:=(De K s).map Dc.typ) (fun b e=>by
   cases hf:De K s with
   |none=>rw[hf] at e;cases e
   |some d=>rw[hf] at e;cases e;exact h d (Wq hf).1) a k
 | .attr ..,a,k=>by cases k
 | .lett ..,a,k=>by cases k
 | .un i op e,a,k=>Gq (fun b _=>QK (Zf op b)) a k
 | .bin i op e f,a,k=>Gq (fun b _=>Gq (fun c _=>QK (Zg op b c))) a k
 | .ite i e f g,a,k=>Gq (fun b _=>Gq (fun c hc=>Gq (fun d _=>QK (Zh b c d (KS h f c hc))))) a k
def Ex.cd:Ex→Int
 | .name .. =>7
 |_=>9
def Ex.tyA (K:List Dc):Ex→List Int→Option Int
 | .int ..,_=>some 2
 | .text ..,_=>some 3
 | .bool ..,_=>some 1
 | .set ..,_=>some 4
 | .name _ s,_=>(De K s).map Dc.typ
 | .un _ op _,l=>nz (Ct op l)
 | .bin _ op _ _,l=>nz (Ct op l)
 | .ite ..,l=>nz (Ct 27 l)
 |_,_=>none
def Ex.kq (K:List Dc) (e:Ex):Kq:=⟨e.val,Bc K e,CL K e⟩
theorem Zi (K:List Dc)(e:Ex)(h:e.written):Bc K e=(Nj (e.kids.map (Ex.kq K))).bind (fun s=>QJ (e.cd,e.pos) (e.tyA K s))∧CL K e=U1 (e.kids.map (Ex.kq K)) ++ [gX (Bc K e)]:=by
 cases e with
 |attr=>exact absurd h id
 |lett=>exact absurd h id
 |un i op k=>exact ⟨by cases h1:Bc K k <;> simp[Bc,Nj,Ex.kids,Ex.kq,Ex.cd,Ex.pos,Ex.tyA,Except.bind,h1],by simp[CL,U1,Ex.kids,Ex.kq]⟩
 |bin i op k l=>exact ⟨by cases h1:Bc K k <;> cases h2:Bc K l <;> simp[Bc,Nj,Ex.kids,Ex.kq,Ex.cd,Ex.pos,Ex.tyA,Except.bind,h1,h2],by simp[CL,U1,Ex.kids,Ex.kq]⟩
 |ite i k l m=>exact ⟨by cases h1:Bc K k <;> cases h2:Bc K l <;> cases h3:Bc K m <;> simp[Bc,Nj,Ex.kids,Ex.kq,Ex.cd,Ex.pos,Ex.tyA,Except.bind,h1,h2,h3],by simp[CL,U1,Ex.kids,Ex.kq]⟩
 |_=>exact ⟨rfl,rfl⟩
theorem Ex.written_kid {e:Ex}(h:e.written):∀ k∈e.kids,k.written:=by
 cases e <;> simp[Ex.kids] <;> simp_all[Ex.written]
theorem Ac2 (g j o:Addr)(f mb:Nat)(D:List Dc)(e:Ex)(he:e.written)(w:World)(v:KM w g)(y:MG w j o)(p:Option Addr)(q:Nat)(s:List Int)(z:BT w p s.length q s)(C:s.length=e.kids.length)(B:∀ a∈s,1≤a∧a≤4)(hc:w.cell? ⟨f,0,none⟩=some (.map (some mb)))(I:f < w.heap.size)(J:Di w mb D):Calls Tryz.prog 151 #[.pointer (some ⟨f,0,none⟩),e.val,.slice p s.length q] w fun r w'=>H8 (e.tyA D s) (cad g j o e.cd) r∧Below w.heap.size w w':=by
 cases e with
 |int i n=>exact (Xu f i n p _ q s g j o w v y z).mono fun r w' h=>⟨JR h.1,h.2⟩
 |text i n=>exact (U2 f i n p _ q s g j o w v y z).mono fun r w' h=>⟨JR h.1,h.2⟩
 |bool i n=>exact (U3 f i n p _ q s g j o w v y z).mono fun r w' h=>⟨JR h.1,h.2⟩
 |set i a n c O=>exact (Xv f i a n c p _ q s g j o w v y z).mono fun r w' h=>⟨JR h.1,h.2⟩
 |name i K=>exact UY f i K mb D p _ q s g j o w v y z hc I J
 |attr=>exact absurd he id
 |lett=>exact absurd he id
 |un i op k=>
  obtain ⟨a,rfl⟩:=List.length_eq_one_iff.1 C;obtain ⟨t,u,A⟩:=k.form;rw[Ex.val,A];exact Xs f i op t u p _ q a g j o w v y z he.1 (B a (by simp))
 |bin i op k l=>
  rcases s with _ | ⟨a,_ | ⟨b,_ | ⟨x,s⟩⟩⟩ <;> simp[Ex.kids] at C
  obtain ⟨t,u,A⟩:=k.form;obtain ⟨E,F,H⟩:=l.form;rw[Ex.val,A,H];exact UZ f i op t u E F p _ q a b g j o w v y z he.1 (B a (by simp)) (B b (by simp))
 |ite i k l m=>
  rcases s with _ | ⟨a,_ | ⟨b,_ | ⟨d,_ | ⟨x,s⟩⟩⟩⟩ <;> simp[Ex.kids] at C
  obtain ⟨t,u,A⟩:=k.form;obtain ⟨E,F,H⟩:=l.form;obtain ⟨L,M,N⟩:=m.form;rw[Ex.val,A,H,N];exact U0 f i t u E F L M p _ q a b d g j o w v y z (B b (by simp))
theorem KT (b c f:Addr)(B g:Nat)(ts:List Int)(mb:Nat)(D:List Dc)(lv:Value)(a:World)(h:KM a b)(i:MG a c f)(hB:a.heap.size≤B)(j:∀ d∈D,1≤d.typ∧d.typ≤4)(e:Ex)(he:e.written):TxV b c f B g ts mb D lv a e.val (Bc D e) (CL D e):=by
 obtain ⟨T,v,ev,hk,hp⟩:=e.mth;have n:∀ k∈e.kids.map (Ex.kq D),(∃ t u,k.v= .iface t u)∧inX k.o∧TxV b c f B g ts mb D lv a k.v k.o k.ys:=fun k hk=>by
  obtain ⟨x,hx,rfl⟩:=zQ.1 hk;have:=e.kids_lt x hx;exact ⟨x.form,KS j x,KT b c f B g ts mb D lv a h i hB j x (Ex.written_kid he x hx)⟩
 have:=Xt b c f e.cd B g ts mb D lv a T v e.pos (e.tyA D) (e.kids.map (Ex.kq D)) (by rw[List.map_map];exact hk) hp (by rw[zV];exact e.kids_3) (Ab n) (Ab fun C E w p q s l m r y z A=>by rw[← ev];exact Ac2 b c f g mb D e he w (h.below l hB) (i.below l hB) p q s y (by rw[z,zV]) A (m.row.cell 0) m.row.lt r);rw[← ev,← (Zi D e he).1,← (Zi D e he).2] at this;exact this
termination_by e.cnt
structure Kd (B cb mb:Nat) (lv tv:Value) (w:World) (lv' tv':Value) (w':World):Prop where
 low:Below B w w'
 keep:∀ k,k < w.heap.size→k≠cb→k≠mb→some k≠lv.ownBlock→some k≠tv.ownBlock→w'.heap[k]? =w.heap[k]?
 newl:∀ q,lv'.ownBlock=some q→lv.ownBlock=some q∨w.heap.size≤q
 newt:∀ q,tv'.ownBlock=some q→tv.ownBlock=some q∨w.heap.size≤q
theorem Kd.refl (B b mb:Nat)(lv a:Value)(w:World):Kd B b mb lv a w lv a w:=⟨BRN,fun _ _ _ _ _ _=>rfl,fun q h=> .inl h,fun q h=> .inl h⟩
theorem Kd.trans {B a mb:Nat}{lv b UO c Wt d:Value}{w f w2:World}(h:Kd B a mb lv b w UO c f)(k:Kd B a mb UO c f Wt d w2):Kd B a mb lv b w Wt d w2:=by
 refine ⟨h.low.trans k.low,fun q h1 h2 h3 h4 h5=>?_,fun q hq=>?_,fun q hq=>?_⟩
 ·refine (k.keep q (zM h1 h.low.size) h2 h3 (fun e=>?_) (fun e=>?_)).trans (h.keep q h1 h2 h3 h4 h5)
  ·rcases h.newl q e.symm with e2 | e2
   ·exact h4 e2.symm
   ·omega
  ·rcases h.newt q e.symm with e2 | e2
   ·exact h5 e2.symm
   ·omega
 ·rcases k.newl q hq with e | e
  ·exact h.newl q e
  ·exact .inr (zD h.low.size e)
 ·rcases k.newt q hq with e | e
  ·exact h.newt q e
  ·exact .inr (zD h.low.size e)
theorem Kd.of_kt {B a mb:Nat}{lv b c:Value}{w w':World}(h:Kt B a b w c w'):Kd B a mb lv b w lv c w':=
 ⟨h.low,fun k h1 h2 _ _ h5=>h.keep k h1 h2 h5,fun q hq=> .inl hq,h.new⟩
theorem Kd.of_all {B b mb:Nat}{lv a:Value}{w w':World}(h:Below w.heap.size w w')(hB:B≤w.heap.size):Kd B b mb lv a w lv a w':= .of_kt (Kt.of_all h hB)
theorem Ck.pushL {B a:Nat}{ts j:List Int}{c lv d:Value}{w b:World}{o:Obj}{t:Int}{g cap:Nat}(h:Ck B a ts j c lv d w)(hB:B≤w.heap.size)
  (l:b.ownsRow B 3 1 (.slice (some ⟨g,0,none⟩) (ts.length+1) cap) (ts.length+1) (Ar ts ++ [.int .i64 t]))(f:(w.alloc o).grownBy b lv.ownBlock)(hat:lv.ownBlock=some g∨g=w.heap.size+1):
  Al b a #[c,lv,d] 125∧Ck B a (ts ++ [t]) j c (.slice (some ⟨g,0,none⟩) (ts.length+1) cap) d (b.setCell ⟨a,1,none⟩ (.slice (some ⟨g,0,none⟩) (ts.length+1) cap))∧Below B w (b.setCell ⟨a,1,none⟩ (.slice (some ⟨g,0,none⟩) (ts.length+1) cap))∧
  (∀ k,k < w.heap.size→k≠a→some k≠lv.ownBlock→(b.setCell ⟨a,1,none⟩ (.slice (some ⟨g,0,none⟩) (ts.length+1) cap)).heap[k]? =w.heap[k]?):=by
 have r:=Ae h.row h.lets (by decide);have s:=Ae h.row h.types (by decide);have i:=(h.row.alloc o).grown f (fun e=>r e.symm);have u:=Ae i l (by decide);have v:g≠a:=fun e=>u (by rw[e];rfl);have m:(w.alloc o).heap.size=w.heap.size+1:=by simp
 have n:∀ k,k < w.heap.size→k≠a→some k≠lv.ownBlock→(b.setCell ⟨a,1,none⟩ (.slice (some ⟨g,0,none⟩) (ts.length+1) cap)).heap[k]? =w.heap[k]? :=fun k h1 h2 h3=>
  (heap_setCell_other b ⟨a,1,none⟩ k _ h2).trans ((f.block k (by rw[m];omega) h3).trans (Below.heap_alloc w o k h1))
 refine ⟨i,⟨i.set 1 (.slice (some ⟨g,0,none⟩) (ts.length+1) cap), ?_,At h.types (fun q hq=>n q (h.types.lt q hq).2 (fun e=>s (e ▸ hq)) (fun e=>h.apart q e.symm hq)),h.low,fun q hq e=>?_⟩, ?_,n⟩
 ·rw[Ar,zU,zA];refine AA l ⟨a,1,none⟩ _ (fun q hq=>?_);have:g=q:=by simpa[Value.ownBlock] using hq
  subst this;exact v
 ·have:g=q:=by simpa[Value.ownBlock] using hq
  subst this;rcases hat with hat | hat
  ·exact h.apart g hat e
  ·have:=(h.types.lt g e).2;omega
 ·exact (((Below.refl B w).alloc hB o).grown f (by rw[m];omega) (fun q hq=>(h.lets.lt q hq).1)).setCell (p:=⟨a,1,none⟩) h.low _
set_option maxHeartbeats 1600000
def Dj:List Dc:= [⟨⟨#[99,108,105,101,110,116]⟩,false,0,3⟩,⟨⟨#[117,115,101,114]⟩,false,1,3⟩,⟨⟨#[108,101,118,101,108]⟩,false,2,2⟩,⟨⟨#[110,111,119]⟩,false,3,2⟩,⟨⟨#[97,115,107,101,100]⟩,false,4,4⟩,⟨⟨#[97,103,114,101,101,100]⟩,false,5,4⟩]
theorem Zj:∀ k,k < 6→De (Dj.take k) (BU.getD k ⟨#[]⟩)=none
 | 0,_=>by simp[De]
 | 1,_=>by simp[De,Dj,BU]
 | 2,_=>by simp[De,Dj,BU]
 | 3,_=>by simp[De,Dj,BU]
 | 4,_=>by simp[De,Dj,BU]
 | 5,_=>by simp[De,Dj,BU]
 |n+6,h=>absurd h (by omega)
theorem Xw:∀ k,k < 6→Dj.take (k+1)=Dj.take k ++ [⟨BU.getD k ⟨#[]⟩,false,k,Dk k⟩]
 | 0,_=>rfl
 | 1,_=>rfl
 | 2,_=>rfl
 | 3,_=>rfl
 | 4,_=>rfl
 | 5,_=>rfl
 |n+6,h=>absurd h (by omega)
theorem Zk (w:World)(mb:Nat)(K:List Dc)(s:ByteArray)(b:Bool)(n t:Int)(h:Di w mb K)(hs:De K s=none):
  ∃ w',(Instr.mapUpdate 123 (.map (some mb)) (.string s) (.agg #[.bool b,.int .i64 n,.int .i64 t])).run Tryz.prog w= .ok () w'∧Di w' mb (K ++ [⟨s,b,n,t⟩])∧(∀ k,k≠mb→w'.heap[k]? =w.heap[k]?)∧w'.heap.size=w.heap.size∧∀ B,B≤mb→Below B w w':=
 Ad4 w mb K ⟨s,b,n,t⟩ h hs
structure Cx (B cb mb:Nat) (D:List Dc) (ts tt:List Int) (lv tv:Value) (w:World):Prop where
 C:Ck B cb ts tt (.map (some mb)) lv tv w
 M:Di w mb D
 low:B≤mb
theorem Cx.ne {B a mb:Nat}{D:List Dc}{ts c:List Int}{lv b:Value}{w:World}(h:Cx B a mb D ts c lv b w):mb≠a∧lv.ownBlock≠some mb∧b.ownBlock≠some mb:=
 ⟨h.M.row_ne h.C.row,h.M.own_ne h.C.lets,h.M.own_ne h.C.types⟩
theorem Cx.of_kt {B a mb:Nat}{D:List Dc}{ts f c:List Int}{lv d b:Value}{w w':World}(h:Cx B a mb D ts f lv d w)(g:Ck B a ts c (.map (some mb)) lv b w')(K:Kt B a d w b w'):Cx B a mb D ts c lv b w':=
 ⟨g,h.M.kt h.C K,h.low⟩
theorem Cx.below {B a mb:Nat}{D:List Dc}{ts b:List Int}{lv c:Value}{w w':World}(h:Cx B a mb D ts b lv c w)(d:Below w.heap.size w w'):Cx B a mb D ts b lv c w':=
 ⟨h.C.below d,h.M.keep (d.block mb h.M.lt),h.low⟩
def Ad9 (B cb mb:Nat) (D:List Dc) (ts tt:List Int) (lv tv:Value) (nm:ByteArray) (ty:Int) (aA:Addr) (w:World) (r:Ending) (w':World):Prop:=
 (De D nm=none∧r= .returned .nilIface∧∃ lv',Cx B cb mb (D ++ [⟨nm,true,ts.length,ty⟩]) (ts ++ [ty]) tt lv' tv w'∧Kd B cb mb lv tv w lv' tv w')∨((De D nm).isSome∧r= .returned (.iface 276 (.pointer (some aA)))∧Below w.heap.size w w')
theorem Sz (x:Addr)(w:World)(d:KM w x):
  Calls Tryz.prog 60 #[] w fun r w'=>∃ s mb,r= .returned (.pointer (some ⟨s,0,none⟩))∧w.heap.size≤mb∧Ck w.heap.size s [] [] (.map (some mb)) (.slice none 0 0) (.slice none 0 0) w'∧Di w' mb Dj∧Below w.heap.size w w':=by
 have J:=@run_makeMap Tryz.prog;have f:=((Below.refl w.heap.size w).alloc NLN (.map #[] 0)).alloc (by simp) (.cells #[.map (some w.heap.size),.slice none 0 0,.slice none 0 0] 125);have g:=Al.new (w.alloc (.map #[] 0)) #[.map (some w.heap.size),.slice none 0 0,.slice none 0 0] 125;simp only[World.size_alloc] at g;have t:Di ((w.alloc (.map #[] 0)).alloc (.cells #[.map (some w.heap.size),.slice none 0 0,.slice none 0 0] 125)) w.heap.size []:=by
  refine ⟨by simp,#[],0, ?_,rfl⟩;rw[Below.heap_alloc _ _ _ (by simp)];exact Zl w _
 have u:=Ab (fun j=>(f.cell (p:=⟨11,j,none⟩) d.a).trans (d.ac j));have K:=Ab (show w.heap.size+2=((w.alloc (.map #[] 0)).alloc (.cells #[.map (some w.heap.size),.slice none 0 0,.slice none 0 0] 125)).heap.size by simp);clear d;go_enter Tryz.func60,Tryz.ntmps60
 go_wp2_with (refine Df rfl 169 _ rfl 11 rfl Zm _ (Aa u) Tryz.underlying169 rfl (by kernel_rfl) ?_)
 clear u;go_loopw [8] (fun i wr=>∃ k:Nat,k≤6∧i= .int .i64 k∧Di wr w.heap.size (Dj.take k)∧Al wr (w.heap.size+1) #[.map (some w.heap.size),.slice none 0 0,.slice none 0 0] 125∧Below w.heap.size w wr) (fun i _=>6 - (intOf i).toNat)
 case atStart=>exact ⟨0,by omega,rfl,t,g,f⟩
 case round=>
  clear t g f;obtain ⟨k,hk,rfl,h,c,l⟩:=hrel;by_cases b:k < 6
  ·have L:(k:Int) < 6:=by omega
   have m:=Ab (Zn k b);have v:=Ab (Zj k b);have n:=Ab (Xw k b);have o:=Ab b;generalize BU.getD k ⟨#[]⟩=nm at m v n;generalize Dk (k:Int)=ty at m n;have c0:wr.cell? ⟨w.heap.size+1,0,none⟩=some (.map (some w.heap.size)):=c.cell 0;have M:=c.lt;have y:=h.lt;have z:Di (wr.alloc (.cells #[.string nm,.int .i64 ty] 168)).drew w.heap.size (Dj.take k):=h.keep (Below.heap_alloc _ _ _ y);have A:=c.alloc (.cells #[.string nm,.int .i64 ty] 168);have B:=l.alloc l.size (.cells #[.string nm,.int .i64 ty] 168);clear b;go_wp2_with (refine AU rfl 169 _ _ rfl Zm rfl k rfl 6 168 Tryz.underlying169 (Aa o) _ Tryz.underlying168 rfl 2 (by kernel_rfl) _ (Aa m) ?_)
   obtain ⟨C,N,E,kp,O,F⟩:=Zk _ w.heap.size (Dj.take k) nm false k ty z (Aa v);have H:Al C (w.heap.size+1) #[.map (some w.heap.size),.slice none 0 0,.slice none 0 0] 125:=⟨(kp _ (by omega)).trans A.out⟩
   have I:=B.drew.trans (F _ NLN);go_region
   all_goals
    go_wp2_with fail
    go_roundw
    case rel=>exact ⟨k+1,Aa o,by go_num,by rw[Aa n];exact E,H,I⟩
    case measure=>have:=Aa o;simp[intOf];omega
  ·have e:k=6:=by omega
   subst e;go_wp2_with fail
   go_ret
   exact ⟨_,_,rfl,NLN,⟨c,World.ownsRow_nil _ _ _ _,World.ownsRow_nil _ _ _ _,zJ _,fun q hq=>by cases hq⟩,h,l⟩
theorem Zo (B c mb:Nat)(D:List Dc)(ts r:List Int)(lv s:Value)(nm:ByteArray)(ty:Int)(K v:Addr)(w:World)(y:MG w K v)(h:Cx B c mb D ts r lv s w)(ae:ts.length≤1000):
  Calls Tryz.prog 133 #[.pointer (some ⟨c,0,none⟩),.string nm,.int .i64 ty] w (Ad9 B c mb D ts r lv s nm ty v w):=by
 have c0:w.cell? ⟨c,0,none⟩=some (.map (some mb)):=h.C.row.cell 0;have c1:w.cell? ⟨c,1,none⟩=some lv:=h.C.row.cell 1;have ac:=y.ac;have L:=y.a;have af:=h.C.row.lt;have N:B≤w.heap.size:=by have:=h.C.low;omega
 obtain ⟨O,P,Q,R,S⟩:=info_parts Jk;have i:=Zd w mb D nm h.M;cases hf:De D nm with
 |some d=>
  have z:(Instr.lookup 123 (.map (some mb)) (.string nm) true).run Tryz.prog w= .ok (.tuple #[.agg #[.bool d.isLet,.int .i64 d.num,.int .i64 d.typ],.bool true]) w:=by rw[hf] at i;exact i
  clear i;have m:=Ab hf;clear hf;have T:=(Below.refl w.heap.size w).alloc NLN (.cells #[.bool d.isLet,.int .i64 d.num,.int .i64 d.typ] 171);go_enter Tryz.func133,Tryz.ntmps133
  go_wp2_with fail
  go_ret
  exact .inr ⟨by rw[Aa m];rfl,rfl,T⟩
 |none=>
  have z:(Instr.lookup 123 (.map (some mb)) (.string nm) true).run Tryz.prog w= .ok (.tuple #[.agg #[.bool false,.int .i64 0,.int .i64 0],.bool false]) w:=by rw[hf] at i;exact i
  clear i;have m:=Ab hf;clear hf;obtain ⟨x,n,rfl,_⟩:=Ad h.C.lets;have ag:=h.M.lt;go_enter Tryz.func133,Tryz.ntmps133
  go_wp2_with fail
  have U:∃ b,b=w.alloc (.cells #[.bool false,.int .i64 0,.int .i64 0] 171):=⟨_,rfl⟩
  obtain ⟨b,t⟩:=U;have j:Below w.heap.size w b:=by rw[t];exact BRN.alloc NLN _
  rw[← t];clear t c0 c1 z ac L;have f:=(h.below j).below (Below.drew BRN:Below b.heap.size b b.drew);have A:=j.trans ((Below.drew BRN:Below b.heap.size b b.drew).mono j.size);have l:=f.ne;have ah:b.cell? ⟨c,0,none⟩=some (.map (some mb)):=(h.below j).C.row.cell 0;have d1:b.cell? ⟨c,1,none⟩=some (.slice x ts.length n):=(h.below j).C.row.cell 1;obtain ⟨o,ai,E,kp,V,W⟩:=Zk b.drew mb D nm true ts.length ty f.M (Aa m);have p:Ck B c ts r (.map (some mb)) (.slice x ts.length n) s o:=⟨⟨(kp c l.1.symm).trans f.C.row.out⟩,At f.C.lets (fun q hq=>kp q (fun e=>l.2.1 (e ▸ hq))),At f.C.types (fun q hq=>kp q (fun e=>l.2.2 (e ▸ hq))),f.C.low,f.C.apart⟩
  have e1:o.cell? ⟨c,1,none⟩=some (.slice x ts.length n):=p.row.cell 1;have F:=(A.mono N).trans (W B h.low);have aj:=F.size;have ak:=p.row.lt;clear V;go_region
  all_goals
   go_wp2_with (at_builtin;refine wpList_append_lies _ rfl _ _ 24 rfl B 3 O (.int .i64 0) 1 8 Tryz.underlying24 P Q R S rfl (by decide) _ _ _ rfl (World.ownsRow.alloc p.lets _) ⟨o.heap.size,0,none⟩ 1 1 [.int .i64 ty] rfl rfl ?c1 ?c2 (by decide) ?c3 ?c4 ?c5 (o.heap.size+1) (by simp) ?_)
   case c1=>exact Bj _ _ _ _ (by simp)
   case c2=>intro u H;simp at H;subst H;rfl
   case c3=>unfold maxLen;omega
   case c4=>omega
   case c5=>simp;omega
   intro g cap X Y Z hat al;obtain ⟨I,aa,ab,J⟩:=p.pushL (by omega) Y Z hat;have ao:X.cell? ⟨c,1,none⟩=some (.slice x ts.length n):=I.cell 1;have ap:=I.frozen 1;have ad:=E.keep (J mb E.lt l.1 (fun e=>l.2.1 e.symm));go_wp2_with fail
   go_ret
   refine .inl ⟨Aa m,rfl,_,⟨aa,ad,h.low⟩,⟨F.trans ab,fun k h1 h2 h3 h4 h5=>?_,fun q hq=>?_,fun q hq=> .inl hq⟩⟩
   ·exact (J k (by omega) h2 h4).trans ((kp k h3).trans (A.block k h1))
   ·have:g=q:=by simpa[Value.ownBlock] using hq
    subst this;rcases hat with hat | hat
    ·exact .inl hat
    ·right;omega
def LX (v:Value):Prop:=v= .nilIface∨∃ t u,v= .iface t u
def Bh (Es:List Ex) (k:Int):Nat:=if k= -1 then 0 else match Es[k.toNat]? with
 |some e=>e.cnt
 |none=>0
def Dt (Es:List Ex) (L:List St):Nat:=(L.map fun s=>Bh Es s.cond+Bh Es s.grant).sum
theorem Kd.row {B a mb:Nat}{lv b c d:Value}{w w':World}(h:Kd B a mb lv b w c d w'){g:Nat}{cs:Array Value}{t:TypeId}(R:Al w g cs t)(h1:g≠a)(h2:g≠mb)(h3:lv.ownBlock≠some g)(h4:b.ownBlock≠some g):Al w' g cs t∧c.ownBlock≠some g∧d.ownBlock≠some g:=by
 refine ⟨⟨(h.keep g R.lt h1 h2 (fun e=>h3 e.symm) (fun e=>h4 e.symm)).trans R.out⟩,fun e=>?_,fun e=>?_⟩
 ·rcases h.newl g e with e2 | e2
  ·exact h3 e2
  ·have:=R.lt;omega
 ·rcases h.newt g e with e2 | e2
  ·exact h4 e2
  ·have:=R.lt;omega
theorem EI {Es:List Ex}{k:Int}{m:Nat}{e:Ex}(h:k=(m:Nat))(he:Es[m]? =some e):Bh Es k=e.cnt:=by
 rw[Bh,if_neg (by omega),h,zj,he]
theorem XO (Es:List Ex)(L:List St)(k:Nat)(h:k < L.length):Dt Es (L.take k)+(Bh Es L[k].cond+Bh Es L[k].grant)≤Dt Es L:=by
 have e:L=L.take k ++(L[k] ::L.drop (k+1)):=by rw[List.getElem_cons_drop,z1]
 have e2:=congrArg (Dt Es) e;simp only[Dt,zU,List.map_cons,List.sum_append,List.sum_cons] at e2 ⊢;omega
end Go.Proofs.YtchakjeegneeoaaGreatDoor
