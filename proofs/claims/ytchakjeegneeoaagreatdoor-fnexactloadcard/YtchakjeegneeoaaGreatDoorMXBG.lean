/-
  ONP, ONF, GP, GQ. Own work.
-/
import Derived.Test.YtchakjeegneeoaaGreatDoorMXAS
import Derived.Test.YtchakjeegneeoaaGreatDoorMXAM
import Derived.Test.YtchakjeegneeoaaGreatDoorMXBQ
import Derived.Test.YtchakjeegneeoaaGreatDoorMXAJ
namespace Go.Proofs.YtchakjeegneeoaaGreatDoor
open Go.RowKit
set_option linter.unusedVariables false
structure Ee (w:World) (lo hi:Nat) (x:Option Addr) (n cx:Nat) (y:Option Addr) (m cy:Nat) (z:Option Addr) (p cz:Nat) (N:List Nd) (nv kv:List Value) (L:List St) (T:List Int):Prop where
 nd:Bt w lo (.slice x n cx) N nv kv
 st:w.ownsRow lo 60 4 (.slice y m cy) m (Cy L)
 ty:w.ownsRow lo 3 1 (.slice z p cz) p (Ar T)
 apart:∀ q,(Value.slice z p cz).ownBlock=some q→∀ j,(hj:j < kv.length)→kv[j].ownBlock≠some q
 inN:InN (.slice x n cx) nv kv hi
 inS:∀ q,(Value.slice y m cy).ownBlock=some q→q < hi
 inT:∀ q,(Value.slice z p cz).ownBlock=some q→q < hi
 top:hi≤w.heap.size
 nn:N.length=n
 ns:L.length=m
 nt:T.length=p
def okT (N:List Nd) (L:List St) (T:List Int):Prop:=(N.length≤65535∧∀ x∈N,okN x∧x.text.size≤1048576∧x.names.length+x.kids.length≤65535)∧(L.length≤65535∧∀ s∈L,s.name.size≤1048576)∧T.length≤65535
theorem Ee.touch {w w':World}{lo hi l u n b m c p d:Nat}{x y f:Option Addr}{N:List Nd}{g i:List Value}{L:List St}{T:List Int}(h:Ee w lo hi x n b y m c f p d N g i L T)(t:Aj l u w w')(hd:hi≤l∨u≤lo):Ee w' lo hi x n b y m c f p d N g i L T:=by
 have hk:∀ q,lo≤q→q < hi→w'.heap[q]? =w.heap[q]? :=fun q h1 h2=>t.block q (zM h2 h.top) (by omega);exact ⟨h.nd.upto (fun q hq=>hk q (h.nd.lts.1 q hq).1 (h.inN.1 q hq)) (fun j a q hq=>hk q (h.nd.lts.2.1 j a q hq).1 (h.inN.2.1 j a q hq)) (fun j a q hq=>hk q (h.nd.lts.2.2 j a q hq).1 (h.inN.2.2 j a q hq)),Ac h.st (fun q hq=>hk q (h.st.lt q hq).1 (h.inS q hq)),Ac h.ty (fun q hq=>hk q (h.ty.lt q hq).1 (h.inT q hq)),h.apart,h.inN,h.inS,h.inT,zD h.top t.size,h.nn,h.ns,h.nt⟩
theorem Ee.below {w w':World}{lo hi B n b m c p d:Nat}{x y f:Option Addr}{N:List Nd}{g i:List Value}{L:List St}{T:List Int}(h:Ee w lo hi x n b y m c f p d N g i L T)(a:Below B w w')(hB:hi≤B):Ee w' lo hi x n b y m c f p d N g i L T:=
 h.touch (l:=hi) (u:=w.heap.size+hi) ⟨a.os,a.tape,a.output,a.size,fun k hk hd=>a.block k (by omega)⟩ (.inl NLN)
theorem Bt.nds {w:World}{lo n c:Nat}{a:Option Addr}{N:List Nd}{d f:List Value}(h:Bt w lo (.slice a n c) N d f)(q:N.length=n)(hs:n≤1048576)(ok:∀ x∈N,okN x∧x.text.size≤1048576):GQ w a n c N:=by
 refine ⟨q,hs,fun x hx=>(ok x hx).2,fun j b=>?_⟩;have l:j < d.length:=by rw[h.len];exact b
 have m:j < f.length:=by rw[h.lenk];exact b
 have k:=Ll N d f j b l m;have x0:=k 0 (by decide);have x1:=k 1 (by decide);have x2:=k 2 (by decide);have o:=k 3 (by decide);have p:=k 4 (by decide);simp only[Lk,zZ,zi,zc] at x0 x1 x2 o p;obtain ⟨g,v⟩:∃ g,a=some ⟨g,0,none⟩:=by
  rcases h.own.2 with ⟨_,h0⟩ | ⟨g,cap,E,r,_⟩
  ·omega
  ·simp only[Value.slice.injEq] at r;exact ⟨g,r.1⟩
 subst v;subst q;have F:=MU N d f h.len h.lenk;have cell:∀ i,i < 5→w.cell? ⟨g,0+j * 5+i,none⟩=(JY N d f)[j * 5+i]? :=fun i hi=>by
  rw[zX];exact h.own.cellAt (g:=g) (n:=N.length) (j * 5+i) (by omega)
 obtain ⟨an,y,z⟩:=CX (h.names j b l);obtain ⟨A,B,C⟩:=CX (h.kids j b m);have s:=h.names j b l;have t:=h.kids j b m;rw[z] at o s;rw[C] at p t;have u:=ok _ (zO b);refine ⟨g,0,rfl,(h.own.lt g rfl).2,an,_,y,A,_,B,(cell 0 (by omega)).trans x0,(cell 1 (by omega)).trans x1,(cell 2 (by omega)).trans x2,(cell 3 (by omega)).trans o,(cell 4 (by omega)).trans p,Bg.of_owns s (fun i hi=>?_),Ej t rfl u.1.2.1⟩;rw[Cv _ i hi];exact u.1.2.2 _ (zO hi)
theorem Ih {w:World}{lo n c:Nat}{a:Option Addr}{L:List St}(h:w.ownsRow lo 60 4 (.slice a n c) n (Cy L))(f:L.length=n)(i:n≤1048576)(ok:∀ s∈L,s.name.size≤1048576):KN w a n c L:=by
 refine ⟨f,i,ok,fun j k=>?_⟩;have b:=JX L j k;have x0:=b 0 (by decide);have x1:=b 1 (by decide);have x2:=b 2 (by decide);have d:=b 3 (by decide);simp only[zZ,zi,zc] at x0 x1 x2 d;obtain ⟨x,l,e,hx⟩:=Ad h;cases e;obtain ⟨g,rfl,m,hc⟩:=hx (by omega);refine ⟨g,0,rfl,(h.lt g rfl).2, ?_, ?_, ?_, ?_⟩
 ·rw[zX];exact hc _ _ x0
 ·rw[zX];exact hc _ _ x1
 ·rw[zX];exact hc _ _ x2
 ·rw[zX];exact hc _ _ d
theorem Ee.mem {w:World}{lo hi n a m b p c:Nat}{x y d:Option Addr}{N:List Nd}{f g:List Value}{L:List St}{T:List Int}(h:Ee w lo hi x n a y m b d p c N f g L T)(ok:okT N L T):GQ w x n a N∧KN w y m b L∧BT w d p c T:=by
 have e1:=h.nn;have e2:=h.ns;have e3:=h.nt;exact ⟨h.nd.nds e1 (by have:=ok.1.1;omega) (fun x hx=>⟨(ok.1.2 x hx).1,(ok.1.2 x hx).2.1⟩),Ih h.st e2 (by have:=ok.2.1.1;omega) ok.2.1.2,Ej h.ty e3 (by have:=ok.2.2;omega)⟩
theorem Qn (N:List Nd)(h:N.length≤65535)(ok:∀ x∈N,x.names.length+x.kids.length≤65535):Ei 1 N N.length≤8589934592:=by
 have hs:∀ L:List Nd,(∀ x∈L,x.names.length+x.kids.length≤65535)→(L.map Mz).sum≤65535 * L.length:=by
  intro L
  induction L with
  |nil=>intro _;simp
  |cons x L b=>
   intro a;have h1:=b (fun y hy=>a y (zY _ hy));have h2:=a x (zT ..);simp only[List.map_cons,List.sum_cons,List.length_cons,Mz];omega
 have:=hs N ok;rw[Ei,z3];have: 65535 * N.length≤65535 * 65535:=Nat.mul_le_mul_left _ h;omega
def mkY (N:List Nd) (m p:Nat):Int:=(Ei 1 N N.length:Nat)+4 * (m:Int)+(p:Int)
theorem Acp {w:World}{b:Nat}{a c d:Value}{t:TypeId}(R:Al w b #[a,c,d] t):w.cell? ⟨b,0,none⟩=some a∧w.cell? ⟨b,1,none⟩=some c∧w.cell? ⟨b,2,none⟩=some d:=⟨R.cell 0,R.cell 1,R.cell 2⟩
theorem Qo {w w':World}{b lo hi:Nat}{cs:Array Value}{t:TypeId}(h:Al w b cs t)(T:Aj lo hi w w')(hd:b < lo∨hi≤b):Al w' b cs t:=⟨(T.block b h.lt hd).trans h.out⟩
theorem Ud {w:World}{c base':Nat}{e:TypeId}{size:Nat}{v:Value}{n:Nat}{a xs':List Value}(h:w.ownsRow c e size v n a)(d:∀ q,v.ownBlock=some q→base'≤q):w.ownsRow base' e size v n a:=by
 refine ⟨h.1, ?_⟩;rcases h.2 with h2 | ⟨g,cap,f,b,h3,h4⟩
 ·exact .inl h2
 ·exact .inr ⟨g,cap,f,b,d g (by rw[b];rfl),h4⟩
set_option maxRecDepth 100000
set_option maxHeartbeats 3200000
theorem Pu (lo hi n i m d p k:Nat)(x y l:Option Addr)(N:List Nd)(B C:List Value)(L:List St)(T:List Int)(w:World)(h:Ee w lo hi x n i y m d l p k N B C L T)(ok:okT N L T):
  Calls Tryz.prog 8 #[.agg #[.slice x n i,.slice y m d,.slice l p k],.int .i64 1] w fun e w'=>e= .returned (.int .i64 (mkY N m p))∧Ee w' lo hi x n i y m d l p k (Qm 1 N) B C (CR (Ei 1 N N.length) m) (Ca (Ei 1 N N.length+4 * m) p)∧Aj lo hi w w':=by
 have V:=Qn N ok.1.1 (fun x hx=>(ok.1.2 x hx).2.2);have ak:m≤65535:=by rw[← h.ns];exact ok.2.1.1
 have hp:p≤65535:=by rw[← h.nt];exact ok.2.2
 have W:=Al.new w #[.slice x n i,.slice y m d,.slice l p k] 26;have u:=(Below.refl w.heap.size w).alloc NLN (.cells #[.slice x n i,.slice y m d,.slice l p k] 26);have h0:=h.below u h.top;have X:=Ab ok;have al:=h.top;have J:=Ab h.nn;have K:=Ab (show mkY N m p=((Ei 1 N N.length:Nat):Int)+4 * (m:Int)+(p:Int) from rfl);have b:=Ab h;clear h ok;go_enter Tryz.func8,Tryz.ntmps8
 go_wp2_with fail
 refine (Pv lo hi x n i N B C 1 _ h0.nd h0.inN h0.top (Aa J) (fun x hx=>((Aa X).1.2 x hx).1) (by omega)).mono ?_;rintro e w2 ⟨rfl,c,v,M⟩;have o:=Ac (w':=w2) h0.st (fun q hq=>M q (h0.st.lt q hq).2 (Ai h0.st h0.nd.own (by decide) q hq) (fun j a=>Ai h0.st (h0.nd.names j (by rw[← h0.nd.len];exact a) a) (by decide) q hq) (fun j a=>Ai h0.st (h0.nd.kids j (by rw[← h0.nd.lenk];exact a) a) (by decide) q hq));have E:=Ac (w':=w2) h0.ty (fun q hq=>M q (h0.ty.lt q hq).2 (Ai h0.ty h0.nd.own (by decide) q hq) (fun j a=>Ai h0.ty (h0.nd.names j (by rw[← h0.nd.len];exact a) a) (by decide) q hq) (fun j a=>h0.apart q hq j a));have O:=Qo W v (.inr (by omega));obtain ⟨Y,Z,q2⟩:=Acp O;generalize P:Ei 1 N N.length=F at V K ⊢;have Q:=Ab P;clear P;dsimp only;go_wp2_with fail
 obtain ⟨aa,R,ab,ac,H,z⟩:=IF o (Aa b).inS;have ao:=v.size;have ap:=u.size;have ad:R≤w2.heap.size:=by rcases H with e | e <;> omega
 refine (Px aa R y m d L _ w2 ab ac ad (Aa b).ns (by omega) (by omega)).mono ?_;rintro e s ⟨rfl,S,f⟩;rw[zj] at S;have ae:Al s w.heap.size _ 26:=Qo O f (.inr (by rcases H with e | e <;> omega));obtain ⟨aq,ar,au⟩:=Acp ae;have t:=Ac (w':=s) E (fun q hq=>f.block q (E.lt q hq).2 (z q (fun e=>Ai E o (by decide) q hq e)));have g:=c.upto (w':=s) (fun q hq=>f.block q (c.lts.1 q hq).2 (z q (fun e=>Ai o c.own (by decide) q e hq))) (fun j a q hq=>f.block q (c.lts.2.1 j a q hq).2 (z q (fun e=>Ai o (c.names j (by rw[← c.len];exact a) a) (by decide) q e hq))) (fun j a q hq=>f.block q (c.lts.2.2 j a q hq).2 (z q (fun e=>Ai o (c.kids j (by rw[← c.lenk];exact a) a) (by decide) q e hq)));clear Y Z q2;dsimp only;go_wp2_with fail
 obtain ⟨af,ag,ah,ai,aj,A⟩:=IF t (Aa b).inT;refine (Kp af ag l p k T _ s ah ai (Aa b).nt (by omega) (by omega)).mono ?_;rintro e av ⟨rfl,U,r⟩;have e5:((F:Int)+4 * (m:Int)).toNat=F+4 * m:=by omega
 rw[e5] at U;have aw:=v.size;have ax:=f.size;have ay:=r.size;have az:=u.size;dsimp only;go_wp2_with fail
 go_ret
 have I:s.ownsRow lo 60 4 (.slice y m d) m (Cy (CR F m)):=Ud (xs':= []) S (fun q hq=>(o.lt q hq).1);refine ⟨by rw[Aa K];rfl,⟨?_, ?_, ?_,(Aa b).apart,(Aa b).inN,(Aa b).inS,(Aa b).inT,by omega,by rw[Fi];exact Aa J,EG _ _,CQ _ _⟩, ?_⟩
 ·exact g.upto (fun q hq=>r.block q (g.lts.1 q hq).2 (A q (fun e=>Ai t g.own (by decide) q e hq))) (fun j a q hq=>r.block q (g.lts.2.1 j a q hq).2 (A q (fun e=>Ai t (g.names j (by rw[← g.len];exact a) a) (by decide) q e hq))) (fun j a q hq=>r.block q (g.lts.2.2 j a q hq).2 (A q (fun e=>(Aa b).apart q e j a hq)))
 ·rw[Aa Q];exact Ac I (fun q hq=>r.block q (I.lt q hq).2 (A q (fun e=>Ai I t (by decide) q hq e)))
 ·rw[Aa Q];exact Ud (xs':= []) U (fun q hq=>(t.lt q hq).1)
 ·exact ((Aj.of_below u NLN).trans v).trans ((f.wide H).trans (r.wide aj))
theorem Jm (lo hi n b m c p d:Nat)(x y f:Option Addr)(N:List Nd)(l o:List Value)(L:List St)(T:List Int)(w:World)(h:Ee w lo hi x n b y m c f p d (Qm 1 N) l o (CR (Ei 1 N N.length) m) (Ca (Ei 1 N N.length+4 * m) p))(ok:okT N L T)(O:m≤65535)(hp:p≤65535):
  Calls Tryz.prog 9 #[.agg #[.slice x n b,.slice y m c,.slice f p d],.int .i64 1] w fun e w'=>e= .returned (.int .i64 (mkY N m p))∧Below w.heap.size w w':=by
 have z:=Qn N ok.1.1 (fun x hx=>(ok.1.2 x hx).2.2);have A:=Al.new w #[.slice x n b,.slice y m c,.slice f p d] 26;have g:=(Below.refl w.heap.size w).alloc NLN (.cells #[.slice x n b,.slice y m c,.slice f p d] 26);have h0:=h.below g h.top;have r:=Ab (show mkY N m p=((Ei 1 N N.length:Nat):Int)+4 * (m:Int)+(p:Int) from rfl);have s:N.length=n:=by have:=h.nn;rwa[Fi] at this
 have B:=Ab s;have C:=Ab ok;clear s ok;go_enter Tryz.func9,Tryz.ntmps9
 go_wp2_with fail
 refine (Pw lo x n b N l o 1 _ h0.nd (Aa B) (fun x hx=>((Aa C).1.2 x hx).1) (by omega)).mono ?_;rintro e w2 ⟨rfl,a⟩;have t:=A.after a NLN;obtain ⟨E,F,q2⟩:=Acp t;have u:=Ac (w':=w2) h0.st (fun q hq=>a.block q (h0.st.lt q hq).2);have k:=Ac (w':=w2) h0.ty (fun q hq=>a.block q (h0.ty.lt q hq).2);generalize H:Ei 1 N N.length=i at z r u k;rw[H] at *;have P: ¬ (((i:Nat):Int) < 0):=by omega
 have Q: ¬ (((i:Nat):Int)+4 * (m:Int) < 0):=by omega
 have R: ¬ (((i:Nat):Int)+4 * (m:Int)+(p:Int) < 0):=by omega
 dsimp only;go_wp2_with fail
 refine (Py lo y m c _ w2 (by rw[zj];exact u) (by omega) (by omega)).mono ?_;rintro e v ⟨rfl,j⟩;have I:=t.after j NLN;clear E F q2;obtain ⟨S,U,V⟩:=Acp I;have J:=Ac (w':=v) k (fun q hq=>j.block q (k.lt q hq).2);have e5:((i:Int)+4 * (m:Int)).toNat=i+4 * m:=by omega
 have K:=Ej J (CQ _ _) (by omega);dsimp only;go_wp2_with fail
 refine (Kr f p d _ v (by rw[e5];exact K) (by omega) (by omega)).mono ?_;rintro e W ⟨rfl,M⟩;dsimp only;go_wp2_with fail
 go_ret
 exact ⟨by rw[Aa r];rfl,((g.trans (a.mono g.size)).trans (j.mono (by have:=g.size;have:=a.size;omega))).trans (M.mono (by have:=g.size;have:=a.size;have:=j.size;omega))⟩
end Go.Proofs.YtchakjeegneeoaaGreatDoor
namespace Go.Proofs.YtchakjeegneeoaaGreatDoor
set_option maxRecDepth 100000
set_option maxHeartbeats 6400000
open Go.RowKit
set_option linter.unusedVariables false
variable {aY : Addr} {pb g c : Nat} {T : List Af} {tl : Nat}
def ScO (aY:Addr) (pb g c:Nat) (T:List Af) (tl:Nat) (R:List ByteArray × Bool × List Af) (w:World) (r:Ending) (w':World):Prop:=
 ((R.2.1=true∧∃ a cx k,r= .returned (.tuple #[.slice a R.1.length cx,.nilIface])∧w'.ownsRow w.heap.size 9 1 (.slice a R.1.length cx) R.1.length (R.1.map Value.string)∧Pp w' pb g c T tl R.2.2 k∧R.1.length≤4000)∨
   (R.2.1=false∧∃ b,r= .returned (.tuple #[.slice none 0 0,Ci b])∧Y9 aY tl R.2.2 b w'))∧Aj pb (pb+1) w w'
def ScN (pb g c:Nat) (T:List Af) (tl:Nat) (R:List ByteArray × Bool × List Af) (w:World) (n:Nat) (v:Value) (wr:World):Prop:=
 ∃ a cx A r k,v= .slice a A.length cx∧wr.ownsRow w.heap.size 9 1 v A.length (A.map Value.string)∧Pp wr pb g c T tl r k∧JB r A=R∧n=r.length∧A.length+r.length≤T.length∧Aj pb (pb+1) w wr
theorem Adi {r:List Af}{b:Nat}(h: ¬ GS (DV b r))(a:List ByteArray):JB r a=(a,false,r):=by
 match r with
 | []=>rfl
 | [t]=>rw[JB,if_neg (show ¬ GS t from h)]
 |t ::u ::q=>rw[JB,if_neg (show ¬ GS t from h)]
theorem AbY {t:Af}{r:List Af}(h:GS t)(hs:AM EC r=false)(a:List ByteArray):JB (t ::r) a=(a ++ [t.text],true,r):=by
 match r with
 | []=>rw[JB,if_pos h]
 |u ::q=>rw[JB,if_pos h,if_neg (by rw[show see EC u=false from hs];decide)]
theorem Adj {t u:Af}{r:List Af}(h:GS t)(hs:see EC u=true)(a:List ByteArray):JB (t ::u ::r) a=JB r (a ++ [t.text]):=by
 rw[JB,if_pos h,if_pos hs]
theorem Ty (a b c d:Value)(w:World):(Instr.field 51 (.agg #[a,b,c,d]) 2).run Tryz.prog w= .ok c w:=by
 simp[Instr.field,run_underlying Tryz.underlying51,Sem.run_bind,part,asAgg,isAgg,go_sem]
theorem Aj.grownP {lo hi:Nat}{w b w2:World}{o:Obj}{row:Option Nat}(t:Aj lo hi w b)(a:(b.alloc o).grownBy w2 row)(c:∀ k,row=some k→w.heap.size≤k):Aj lo hi w w2:=by
 have h0:=t.allP ((Below.refl b.heap.size b).alloc NLN o);exact ⟨a.os.trans h0.os,a.tape.trans h0.tape,a.output.trans h0.output,zD h0.size a.size,fun k h1 h2=>(a.block k (zM h1 h0.size) (fun e=>by have:=c k e.symm;omega)).trans (h0.block k h1 h2)⟩
theorem Pp.grownP {w w2:World}{k:Nat}{ts:List Af}{lo n:Nat}{v:Value}{d:List Value}{o:Obj}(h:Pp w pb g c T tl ts k)(i:∀ q,v.ownBlock=some q→lo≤q)(f:(w.alloc o).grownBy w2 v.ownBlock)(a:w.ownsRow lo 9 1 v n d):Pp w2 pb g c T tl ts k:=by
 have b:∀ q,q < w.heap.size→v.ownBlock≠some q→w2.heap[q]? =w.heap[q]? :=fun q h1 h2=>(f.block q (by simp;omega) (fun e=>h2 e.symm)).trans (Below.heap_alloc w o q h1);exact ⟨⟨(b pb h.row.lt (Ae h.row a (by decide))).trans h.row.out⟩,Ac h.toks (fun q hq=>b q (h.toks.lt q hq).2 (fun e=>Ai a h.toks (by decide) q e hq)),h.drop,h.len,h.small⟩
theorem Vx (hp: 20≤pb)(ts:List Af)(w:World)(k:Nat)(h:Pp w pb g c T tl ts k)(N:Gy w aY):
  Calls Tryz.prog 196 #[.pointer (some ⟨pb,0,none⟩)] w (ScO aY pb g c T tl (GT ts) w):=by
 have z:=Ab (AQ h BJ);have O:=Ab h;have aB:=Ab N;have nz:=h.row.lt;have ad:=h.len;cases hs:AM BJ ts
 case true=>
  have I:=Ab hs;have f:=Ab (show GT ts=([],true,ts) by rw[GT,hs];rfl);clear hs h N ad;go_enter Tryz.func196,Tryz.ntmps196
  go_wp2_with fail
  refine (Aa z).mono ?_;rintro e aC ⟨rfl,l⟩;rw[Aa I];dsimp only;go_wp2_with fail
  go_ret2
  rw[Aa f];exact ⟨.inl ⟨rfl,none,0,k,rfl,World.ownsRow_nil _ _ _ _,(Aa O).below l,by simp⟩,Aj.of_below l NLN⟩
 case false=>
  have I:=Ab hs;have f:=Ab (show JB ts []=GT ts by rw[GT,hs];rfl);have aD:=Ab (show ts.length≤T.length by omega);have ae:=Ab h.small;clear hs h N ad;obtain ⟨i,hi,aE,aF,aG⟩:=info_parts M8;go_enter Tryz.func196,Tryz.ntmps196
  go_wp2_with fail
  refine (Aa z).mono ?_;rintro e aC ⟨rfl,l⟩;rw[Aa I];dsimp only;go_wp2_with fail
  go_loopw [4] (fun v wr=>∃ n,ScN pb g c T tl (GT ts) w n v wr) (fun v wr=>Bq (fun n=>ScN pb g c T tl (GT ts) w n v wr))
  case atStart=>exact ⟨ts.length,none,0, [],ts,k,rfl,World.ownsRow_nil _ _ _ _,(Aa O).below l,Aa f,rfl,by simpa using Aa aD,Aj.of_below l NLN⟩
  case round=>
   clear O z I f l;have af:=Ge hrel;have ag:=Ab (show ∀ n v' w',n < Bq (fun n=>ScN pb g c T tl (GT ts) w n u4 wr)→ScN pb g c T tl (GT ts) w n v' w'→Bq (fun n=>ScN pb g c T tl (GT ts) w n v' w') < Bq (fun n=>ScN pb g c T tl (GT ts) w n u4 wr) from fun n v' w' h1 h2=>IW h1 h2);generalize ah:Bq (fun n=>ScN pb g c T tl (GT ts) w n u4 wr)=m at af ag;have aH:=Ab ah;clear ah hrel;obtain ⟨a,ai,d,r,aN,rfl,P,Q,aj,ak,al,T1⟩:=af;have R:=Ab (BK Q);have ao:=Ab Q;have S:=Ab aj;have J:=Ab (And.intro ak al);have aI:=Ab ((Aa aB).touch T1 hp);have aO:=T1.size;clear Q aj ak al;by_cases s:GS (DV tl r)
   ·obtain ⟨t,p,rfl⟩:∃ t p,r=t ::p:=by
     cases r with
     |nil=>exact absurd s.1 (show ¬ (0 :Int)=2 by decide)
     |cons t p=>exact ⟨t,p,rfl⟩
    have K:GS t:=s;have e1:(t.kind != 2)=false:=by rw[K.1];rfl
    have e2:(t.text.toList== [])=false:=by
     cases hc:(t.text.toList== [])
     ·rfl
     ·have:t.text.toList=(AB []).toList:=by rw[zN] at hc;rw[hc,za];rfl
      exact absurd ((Gc _ _).1 (zN.2 this)) K.2
    have ap:=Ab K;clear s K;go_wp2_with fail
    refine (Aa R).mono ?_;rintro e w2 ⟨rfl,o⟩;dsimp only[Dq,DV];have j:=o.alloc o.size (.cells #[.int .i64 t.kind,.int .i64 t.num,.string t.text,.int .i64 (t.at_:Int)] 51);have aq:=Ab (BZ ((Aa ao).below j));have U:=T1.allP j;have A:(w2.alloc (.cells #[.int .i64 t.kind,.int .i64 t.num,.string t.text,.int .i64 (t.at_:Int)] 51)).ownsRow w.heap.size 9 1 (.slice a d.length ai) d.length (d.map Value.string):=Ac P (fun q hq=>j.block q (P.lt q hq).2);have aP:=Ty (.int .i64 t.kind) (.int .i64 t.num) (.string t.text) (.int .i64 (t.at_:Int));go_wp2_with fail
    generalize w2.alloc (.cells #[.int .i64 t.kind,.int .i64 t.num,.string t.text,.int .i64 (t.at_:Int)] 51)=aQ at aq U A ⊢;refine (Aa aq).mono ?_;rintro e L ⟨rfl,ar,V⟩;have W:=U.trans V;have B:L.ownsRow w.heap.size 9 1 (.slice a d.length ai) d.length (d.map Value.string):=Ac A (fun q hq=>V.block q (A.lt q hq).2 (.inr (by have:=(A.lt q hq).1;omega)));clear P A j o U V T1;have aR:=W.size;have aS:d.length≤4000:=by have:=(Aa J).2;have:=Aa ae;simp at *;omega
    dsimp only[Dq];go_wp2_with (at_builtin;refine wpList_append_own _ rfl _ _ 56 rfl w.heap.size 9 i (.string ByteArray.empty) 1 16 Tryz.underlying56 hi aE aF aG rfl (by decide) _ _ _ rfl (B.alloc _) ⟨L.heap.size,0,none⟩ 1 1 [.string t.text] rfl rfl ?c1 ?c2 ?c3 ?c4 ?c5 ?_)
    case c1=>exact cell_one_new _ _ _
    case c2=>intro u au;simp at au;subst au;rfl
    case c3=>unfold maxLen;omega
    case c4=>omega
    case c5=>simp;omega
    intro v' aT y X _;have Y:=ar.grownP (fun q hq=>(B.lt q hq).1) X B;have aJ:=W.grownP X (fun q hq=>(B.lt q hq).1);obtain ⟨C,E,hf⟩:=CX y;rw[hf] at y ⊢;clear X B hf ar W;have z:=Ab (AQ Y EC);have av:=Ab Y;clear Y;go_wp2_with fail
    refine (Aa z).mono ?_;rintro e aK ⟨rfl,M⟩;have F:aK.ownsRow w.heap.size 9 1 (.slice C (d.length+1) E) (d.length+1) (d.map Value.string ++ [.string t.text]):=Ac y (fun q hq=>M.block q (y.lt q hq).2);have Z:=aJ.allP M;have aL:=Ab (show d.length+1≤4000 by have:=(Aa J).2;have:=Aa ae;simp at *;omega);cases hs:AM EC p
    ·have f:=Ab (show GT ts=(d ++ [t.text],true,p) by rw[← Aa S,AbY (Aa ap) hs]);clear hs y;dsimp only;go_wp2_with fail
     go_ret2
     rw[Aa f];exact ⟨.inl ⟨rfl,C,E,_,by simp,by simpa using F,(Aa av).below M,by simpa using Aa aL⟩,Z⟩
    ·obtain ⟨u,x,rfl⟩:∃ u x,p=u ::x:=by
      cases p with
      |nil=>cases hs
      |cons u x=>exact ⟨u,x,rfl⟩
     have f:=Ab (show JB x (d ++ [t.text])=GT ts by rw[← Aa S,Adj (Aa ap) hs]);have aM:=Ab (BZ ((Aa av).below M));clear hs y;dsimp only;go_wp2_with fail
     refine (Aa aM).mono ?_;rintro e aw ⟨rfl,ax,aa⟩;have ay:aw.ownsRow w.heap.size 9 1 (.slice C (d.length+1) E) (d.length+1) (d.map Value.string ++ [.string t.text]):=Ac F (fun q hq=>aa.block q (F.lt q hq).2 (.inr (by have:=(F.lt q hq).1;omega)));have az:=Ab (show ScN pb g c T tl (GT ts) w x.length (.slice C (d.length+1) E) aw from ⟨C,E,d ++ [t.text],x,_,by simp,by simpa using ay,ax,Aa f,rfl,by have:=(Aa J).2;simp at this ⊢;omega,Z.trans aa⟩);clear F ay ax aa Z;dsimp only[Dq];go_wp2_with fail
     go_roundw
     case rel=>exact ⟨_,Aa az⟩
     case measure=>rw[Aa aH];exact Aa ag _ _ _ (by have:=(Aa J).1;simp at this;omega) (Aa az)
   ·have f:=Ab (show GT ts=(d,false,r) by rw[← Aa S,Adi s]);have aA:=Ab (fun w' (l:Below wr.heap.size wr w')=>Fo ((Aa ao).below l) ((Aa aI).below l));by_cases H:(DV tl r).kind=2
    ·have e1:((DV tl r).kind != 2)=false:=by rw[H];rfl
     have e2:((DV tl r).text.toList== [])=true:=by
      have:(DV tl r).text=AB []:=by
       by_cases h0:(DV tl r).text=AB []
       ·exact h0
       ·exact absurd ⟨H,h0⟩ s
      rw[this,za];rfl
     clear s H;go_wp2_with fail
     refine (Aa R).mono ?_;rintro e w2 ⟨rfl,o⟩;generalize DV tl r=t at e1 e2;have j:=o.alloc o.size (.cells #[.int .i64 t.kind,.int .i64 t.num,.string t.text,.int .i64 (t.at_:Int)] 51);dsimp only[Dq];go_wp2_with fail
     refine (Aa aA _ j).mono ?_;rintro e L ⟨b,rfl,ab,ac⟩;dsimp only[Ci];go_wp2_with fail
     go_ret2
     rw[Aa f];exact ⟨.inr ⟨rfl,b,rfl,ab⟩,(T1.allP j).allP ac⟩
    ·have e1:((DV tl r).kind != 2)=true:=zS.2 H;clear s H;go_wp2_with fail
     refine (Aa R).mono ?_;rintro e w2 ⟨rfl,o⟩;generalize DV tl r=t at e1;have j:=o.alloc o.size (.cells #[.int .i64 t.kind,.int .i64 t.num,.string t.text,.int .i64 (t.at_:Int)] 51);dsimp only[Dq];go_wp2_with fail
     refine (Aa aA _ j).mono ?_;rintro e L ⟨b,rfl,ab,ac⟩;dsimp only[Ci];go_wp2_with fail
     go_ret2
     rw[Aa f];exact ⟨.inr ⟨rfl,b,rfl,ab⟩,(T1.allP j).allP ac⟩
end Go.Proofs.YtchakjeegneeoaaGreatDoor
namespace Go.Proofs.YtchakjeegneeoaaGreatDoor
set_option maxRecDepth 100000
set_option maxHeartbeats 3200000
open Go.RowKit Go.Lib Go.Sort
set_option linter.unusedVariables false
variable {aY : Addr} {pb g c : Nat} {T : List Af} {tl : Nat}
def Lh (t:Af) (R:List ByteArray × Bool × List Af):PR:=if R.2.1=true then (match R.2.2 with | []=> .bad [] | u ::q=>if see BJ u=true then .ok (.set t.at_ R.1) q else .bad (u ::q)) else .bad R.2.2
theorem AbZ (d c:Nat)(a:Option Addr)(b:List ByteArray)(w:World)(h:w.ownsRow d 9 1 (.slice a b.length c) b.length (b.map Value.string))(i:b.length≤1048576):
  Calls Tryz.prog 197 #[.slice a b.length c] w fun e w'=>e= .returned (.tuple #[])∧w'.ownsRow d 9 1 (.slice a b.length c) b.length (((b.map Ap).mergeSort fun x y=>decide (x≤y)).map encStr)∧w.grownBy w' (Value.slice a b.length c).ownBlock:=by
 by_cases h0:b.length=0
 ·have e:b= []:=zy h0;subst e;refine (Tryz.slices_Sort_string_none a c w).mono ?_;rintro e w' ⟨rfl,rfl⟩;exact ⟨rfl,by simpa using h,World.grownBy.refl _ _⟩
 ·obtain ⟨x,o,j,hx⟩:=Ad h;obtain ⟨f,k,_⟩:=hx (by omega);have l:a=some ⟨f,0,none⟩:=by
   injection j with h1;rw[h1];exact k
  subst l;have g:=h;rw[← Abu] at g;refine (ZZ d f b.length c (b.map Ap) w g i).mono ?_;rintro e w' ⟨rfl,m,n⟩;exact ⟨rfl,m,n⟩
theorem Ab0 (f c:Nat)(a:Option Addr)(b:List ByteArray)(w:World)(h:w.ownsRow f 9 1 (.slice a b.length c) b.length (((b.map Ap).mergeSort fun x y=>decide (x≤y)).map encStr))(i:b.length≤1048576):
  Calls Tryz.prog 198 #[.slice a b.length c] w fun e w'=>∃ K,Cw b K∧e= .returned (.slice a K.length c)∧w'.ownsRow f 9 1 (.slice a K.length c) K.length (K.map Value.string)∧w.grownBy w' (Value.slice a b.length c).ownBlock:=by
 by_cases h0:b.length=0
 ·have e:b= []:=zy h0;subst e;refine (Tryz.slices_Compact_string_empty a c w).mono ?_;rintro e w' ⟨rfl,rfl⟩;exact ⟨[],⟨rfl,fun x=>Iff.rfl⟩,rfl,by simpa using h,World.grownBy.refl _ _⟩
 ·obtain ⟨x,n,j,hx⟩:=Ad h;obtain ⟨g,k,_⟩:=hx (by omega);have l:a=some ⟨g,0,none⟩:=by
   injection j with h1;rw[h1];exact k
  subst l;refine (TA f g b.length c _ w h i).mono ?_;rintro e w' ⟨rfl,d,m⟩;have hs:=Fa b;rw[← Abv] at d
  change Cw b ((Nf b).map AB) at hs
  have e3:(Lib.compact ((b.map Ap).mergeSort fun x y=>decide (x≤y)))=Nf b:=rfl;rw[e3] at d ⊢;have e4:(Nf b).length=((Nf b).map AB).length:=(zV _).symm;rw[e4] at d ⊢;exact ⟨_,hs,rfl,d,m⟩
theorem DO {w:World}{B a n size:Nat}{e:TypeId}{v:Value}{b:List Value}(h:w.ownsRow B e size v n b)(hB:a≤B):w.ownsRow a e size v n b:=by
 refine ⟨h.1, ?_⟩;rcases h.2 with h0 | ⟨g,cap,c,d,h1,h2⟩
 ·exact .inl h0
 ·exact .inr ⟨g,cap,c,d,zD hB h1,h2⟩
theorem Aj.grown0 {lo hi:Nat}{w b w2:World}{row:Option Nat}(t:Aj lo hi w b)(a:b.grownBy w2 row)(c:∀ k,row=some k→w.heap.size≤k):Aj lo hi w w2:=
 ⟨a.os.trans t.os,a.tape.trans t.tape,a.output.trans t.output,zD t.size a.size,fun k h1 h2=>(a.block k (zM h1 t.size) (fun e=>by have:=c k e.symm;omega)).trans (t.block k h1 h2)⟩
theorem Pp.grown0 {w w2:World}{k:Nat}{ts:List Af}{lo n:Nat}{v:Value}{d:List Value}(h:Pp w pb g c T tl ts k)(f:w.grownBy w2 v.ownBlock)(a:w.ownsRow lo 9 1 v n d):Pp w2 pb g c T tl ts k:=by
 have b:∀ q,q < w.heap.size→v.ownBlock≠some q→w2.heap[q]? =w.heap[q]? :=fun q h1 h2=>f.block q h1 (fun e=>h2 e.symm);exact ⟨⟨(b pb h.row.lt (Ae h.row a (by decide))).trans h.row.out⟩,Ac h.toks (fun q hq=>b q (h.toks.lt q hq).2 (fun e=>Ai a h.toks (by decide) q e hq)),h.drop,h.len,h.small⟩
theorem Z8 (hp: 20≤pb)(t:Af)(r:List Af)(w:World)(k:Nat)(h:Pp w pb g c T tl (t ::r) k)(B:Gy w aY):
  Calls Tryz.prog 190 #[.pointer (some ⟨pb,0,none⟩)] w (Gd aY pb g c T tl (Lh t (GT r)) w):=by
 have O:=Ab (BZ h);have C:=Ab B;have ae:=CW (.int .i64 t.kind) (.int .i64 t.num) (.string t.text) (.int .i64 (t.at_:Int));have nz:=h.row.lt;rcases hR:GT r with ⟨f,af,q⟩
 have P:=Ab hR;clear h B hR;go_enter Tryz.func190,Tryz.ntmps190
 go_wp2_with fail
 refine (Aa O).mono ?_;rintro e p ⟨rfl,E,T1⟩;have F:=Ab (Vx (aY:=aY) hp r p _ E ((Aa C).touch T1 hp));have ag:=T1.size;rw[Aa P] at F;clear E;dsimp only[Dq];go_wp2_with fail
 refine (Aa F).mono ?_;rintro e w2 ⟨⟨i,a,j,ah,rfl,l,s,Q⟩ | ⟨i,b,rfl,m⟩,H⟩
 ·dsimp only at i l s Q;subst i;have I:=T1.trans H;have R:=Ab (AbZ p.heap.size j a f w2 l (by omega));have S:=Ab s;clear s;dsimp only;go_wp2_with fail
  refine (Aa R).mono ?_;rintro e U ⟨rfl,n,v⟩;have V:=Ab ((Aa S).grown0 v l);have J:=I.grown0 v (fun q hq=>by have:=(l.lt q hq).1;omega);have W:=Ab (Ab0 p.heap.size j a f U n (by omega));clear l v I;dsimp only;go_wp2_with fail
  refine (Aa W).mono ?_;rintro e X ⟨K,L,rfl,M,x⟩;have o:=(Aa V).grown0 x n;have y:=J.grown0 x (fun q hq=>by have:=(n.lt q hq).1;omega);have Y:=Ab ((Aa C).touch y hp);have Z:=Ab L;have aa:X.ownsRow (pb+1) 9 1 (.slice a K.length j) K.length (K.map Value.string):=DO M (by omega);clear L n M x J;cases hq:AM BJ q
  ·have z:=Ab (ED o (Aa Y) BJ hq);have A:=Ab (show Lh t (f,true,q)= .bad q by
    rw[Lh,if_pos rfl];cases q with
    |nil=>rfl
    |cons u q=>exact if_neg (by rw[show see BJ u=false from hq];decide))
   clear o hq;dsimp only;go_wp2_with fail
   refine (Aa z).mono ?_;rintro e ab ⟨b,rfl,m,ac⟩;dsimp only[Ci];go_wp2_with fail
   go_ret2
   rw[Aa A];exact ⟨⟨_,b,rfl,.inr ⟨_,_,rfl⟩,m⟩,y.allP ac⟩
  ·obtain ⟨u,d,rfl⟩:∃ u d,q=u ::d:=by
    cases q with
    |nil=>cases hq
    |cons u d=>exact ⟨u,d,rfl⟩
   have z:=Ab (Dw o BJ hq);have A:=Ab (show Lh t (f,true,u ::d)= .ok (.set t.at_ f) d by rw[Lh,if_pos rfl];exact if_pos hq);clear o hq;dsimp only;go_wp2_with fail
   refine (Aa z).mono ?_;rintro e ab ⟨rfl,ad,N⟩;dsimp only;go_wp2_with fail
   go_ret2
   rw[Aa A];exact ⟨⟨.set t.at_ a K.length j K,_,rfl,⟨rfl,Aa Z⟩,Ex.own_touch N (.set t.at_ a K.length j K) aa,ad⟩,y.trans N⟩
 ·dsimp only at i m;subst i;dsimp only[Ci];go_wp2_with fail
  go_ret2
  exact ⟨⟨.nilIface,b,rfl,.inl rfl,m⟩,T1.trans H⟩
end Go.Proofs.YtchakjeegneeoaaGreatDoor
