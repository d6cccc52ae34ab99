import Derived.Test.YteiieikcjcfkkaaGreatDoorJV
import Derived.Test.YteiieikcjcfkkaaGreatDoorMXAL
import Derived.Deep.RegionLaw
open Go.Proofs.Tryz
open Option renaming none->T,some->X
open Go.Value renaming int->U,slice->Y,string->Q,iface->jB,agg->jG,pointer->jK,tuple->jO,ownBlock->ja
open Go.IntKind renaming i64->V
open Go renaming World->Z,Value->R,Addr->jD,Calls->jE,TypeId->jJ,bodyPost_ret->jN,results->jR,wpList_append_lies->jj,run_underlying->jl
open Go.Obj renaming cells->jF
open Go.Ending renaming returned->jH
open Go.World renaming ownsRow_nil->jX
open Go.RowKit.Below renaming heap_alloc->jt
open Go.Proofs.Tryz renaming prog->j4
namespace Go.Proofs.YteiieikcjcfkkaaGreatDoor
open Go.RowKit
set_option linter.unusedVariables false
set_option maxRecDepth 100000
set_option maxHeartbeats 1600000
variable {t:Int}{ns:List ByteArray}{ts tt ks:List Int}{p:List R}{B b g cap:Nat}{a:Option jD}{c lv d i:R}{w w' f:Z}
structure Ck (B cb:Nat) (ts tt:List Int) (mv lv tv:R) (w:Z):Prop where
 row:Ag w cb #[mv,lv,tv] 102
 lets:w.ownsRow B 3 1 lv ts.length (Aq ts)
 types:w.ownsRow B 3 1 tv tt.length (Aq tt)
 low:B<=cb
 apart:∀q,lv.ownBlock=X q->tv.ownBlock≠X q
structure Kt (B cb:Nat) (tv:R) (w:Z) (tv':R) (w':Z):Prop where
 low:Below B w w'
 keep:∀k,k<w.heap.size->k≠cb->X k≠tv.ownBlock->w'.heap[k]? =w.heap[k]?
 new:∀q,tv'.ownBlock=X q->tv.ownBlock=X q\/w.heap.size<=q
theorem Kt.trans {B a:Nat}{c b d:R}{w f g:Z}(h:Kt B a c w b f)(k:Kt B a b f d g):Kt B a c w d g:=
 ⟨h.low.trans k.low,fun q h1 h2 h3=>by
  have i:X q≠b.ownBlock:=fun e=>by
   rcases h.new q e.symm with e2|e2
   ·exact h3 e2.symm
   ·omega
  exact(k.keep q (zE h1 h.low.size) h2 i).trans (h.keep q h1 h2 h3),fun q hq=>by
  rcases k.new q hq with e|e
  ·exact h.new q e
  ·exact .inr (zB h.low.size e)⟩
theorem Kt.of_all {a:R}(h:Ah w w')(hB:B<=w.heap.size):Kt B b a w a w':=
 ⟨h.mono hB,fun k c _ _=>h.block k c,fun q hq=> .inl hq⟩
theorem Ck.below (h:Ck B b ts tt c lv d w)(a:Ah w w'):Ck B b ts tt c lv d w':=
 ⟨h.row.after a NLN,Ak h.lets (fun q hq=>a.block q (h.lets.lt q hq).2),Ak h.types (fun q hq=>a.block q (h.types.lt q hq).2),h.low,h.apart⟩
theorem Kt.row {a:Nat}{b c:Value}(h:Kt B a b w c w'){cs:Array Value}{t:jJ}(R:Ag w g cs t)(hg:g≠a)(hv:b.ownBlock≠X g):Ag w' g cs t:=
 ⟨(h.keep g R.lt hg (fun e=>hv e.symm)).trans R.out⟩
theorem Ck.push {a:Nat}{d c:R}{b:Z}{o:Obj}(h:Ck B a ts tt d lv c w)(hB:B<=w.heap.size)
  (j:b.ownsRow B 3 1 (Y (X ⟨g,0,T⟩) (tt.length+1) cap) (tt.length+1) (Aq tt++[U V t]))(f:(w.alloc o).grownBy b c.ownBlock)(hat:c.ownBlock=X g\/g=w.heap.size+1):
  Ag b a #[d,lv,c] 102/\Ck B a ts (tt++[t]) d lv (Y (X ⟨g,0,T⟩) (tt.length+1) cap) (b.setCell ⟨a,2,T⟩ (Y (X ⟨g,0,T⟩) (tt.length+1) cap))/\Kt B a c w (Y (X ⟨g,0,T⟩) (tt.length+1) cap) (b.setCell ⟨a,2,T⟩ (Y (X ⟨g,0,T⟩) (tt.length+1) cap)):=by
 have n1:=Ac h.row h.lets (by decide);have n2:=Ac h.row h.types (by decide);have i:=(h.row.alloc o).grown f (fun e=>n2 e.symm);have n3:=Ac i j (by decide);have n:g≠a:=fun e=>n3 (by rw[e];rfl);have l:(w.alloc o).heap.size=w.heap.size+1:=by simp
 have m:∀k,k<w.heap.size->k≠a->X k≠c.ownBlock->(b.setCell ⟨a,2,T⟩ (Y (X ⟨g,0,T⟩) (tt.length+1) cap)).heap[k]? =w.heap[k]? :=fun k h1 h2 h3=>
  (heap_setCell_other b ⟨a,2,T⟩ k _ h2).trans ((f.block k (by rw[l];omega) h3).trans (jt w o k h1))
 refine⟨i,⟨i.set 2 (Y (X ⟨g,0,T⟩) (tt.length+1) cap),Ak h.lets (fun q hq=>m q (h.lets.lt q hq).2 (fun e=>n1 (e ▸ hq)) (fun e=>h.apart q hq e.symm)),?_,h.low,fun q hq e=>?_⟩,⟨?_,m,fun q hq=>?_⟩⟩
 ·rw[Aq,zR,zC];refine AW j ⟨a,2,T⟩ _ (fun q hq=>?_);have:g=q:=by simpa[ja]using hq
  subst this;exact n
 ·have:g=q:=by simpa[ja]using e
  subst this;rcases hat with hat|hat
  ·exact h.apart g hq hat
  ·have:=(h.lets.lt g hq).2;omega
 ·exact(((Below.refl B w).alloc hB o).grown f (by rw[l];omega) (fun q hq=>(h.types.lt q hq).1)).setCell (p:=⟨a,2,T⟩) h.low _
 ·have:g=q:=by simpa[ja]using hq
  subst this;rcases hat with hat|hat
  ·exact .inl hat
  ·right;omega
def TyO (B cb:Nat) (ts tt:List Int) (mv lv tv:R) (o:Option Int) (ys:List Int) (w:Z) (r:Ending) (w':Z):Prop:=
 (∃t tv',o=X t/\r=jH (jO #[U V t,.nilIface])/\Ck B cb ts (tt++ys) mv lv tv' w'/\Kt B cb tv w tv' w')\/(o=T/\(∃z t u,r=jH (jO #[U V z,jB t u]))/\Below B w w')
def TyV (B cb:Nat) (ts:List Int) (mv lv:R) (w0:Z) (v:R) (o:Option Int) (ys:List Int):Prop:=
 ∀(tt:List Int) (tv:R) (w:Z),Below B w0 w->Ck B cb ts tt mv lv tv w->tt.length+ys.length<=4000->jE j4 134 #[jK (X ⟨cb,0,T⟩),v] w (TyO B cb ts tt mv lv tv o ys w)
theorem Fz (i:Int)(t:jJ)(u:R)(w:Z):jE j4 136 #[U V i,jB t u] w fun a w'=>(∃b c,a=jH (jB b c))/\Ah w w':=by
 go_enter func136,ntmps136
 go_wp2
 go_ret
 exact⟨⟨_,_,rfl⟩,BRN.alloc NLN _⟩
set_option maxRecDepth 100000
set_option maxHeartbeats 3200000
theorem Ck.other {a:Nat}{f b:R}{c:Z}{o:Obj}{row:Option Nat}(h:Ck B a ts tt f lv b w)(g:(w.alloc o).grownBy c row)(h1:row≠X a)(h2:∀q,lv.ownBlock=X q->row≠X q)(h3:∀q,b.ownBlock=X q->row≠X q):Ck B a ts tt f lv b c:=by
 have i:(w.alloc o).heap.size=w.heap.size+1:=by simp
 have d:∀k,k<w.heap.size->row≠X k->c.heap[k]? =w.heap[k]? :=fun k j l=>(g.block k (by rw[i];omega) (fun e=>l e.symm)).trans (jt w o k j);exact⟨⟨(d a h.row.lt h1).trans h.row.out⟩,Ak h.lets (fun q hq=>d q (h.lets.lt q hq).2 (h2 q hq)),Ak h.types (fun q hq=>d q (h.types.lt q hq).2 (h3 q hq)),h.low,h.apart⟩
theorem Kt.other {d:R}{a:Z}{o:Obj}{row:Option Nat}(K:Kt B b c w d a)(g:(a.alloc o).grownBy f row)(hB:B<=w.heap.size)(h:∀q,row=X q->w.heap.size<=q):Kt B b c w d f:=by
 have i:(a.alloc o).heap.size=a.heap.size+1:=by simp
 have j:=K.low.size;refine⟨(K.low.alloc (zB hB j) o).grown g (by rw[i];omega) (fun q hq=>zB hB (h q hq)),fun k h1 h2 h3=>?_,K.new⟩;refine(g.block k (by rw[i];omega) (fun e=>?_)).trans ((jt a o k (by omega)).trans (K.keep k h1 h2 h3));have:=h k e.symm;omega
def AbL (o:Option Int):Prop:=∀a,o=X a->1<=a/\a<=4
structure Kj where
 v:R
 o:Option Int
 ys:List Int
def Qb:List Kj->Option (List Int)
 |[]=>X []
 |k ::K=>k.o.bind fun a=>(Qb K).bind fun s=>X (a ::s)
def YP:List Kj->List Int
 |[]=> []
 |k ::K=>k.ys++YP K
theorem Ux:∀(A B:List Kj),Qb (A++B)=(Qb A).bind (fun a=>(Qb B).bind fun b=>X (a++b))/\YP (A++B)=YP A++YP B
 |[],B=>⟨by cases h:Qb B<;>simp[Qb,Option.bind,h],rfl⟩
 |k ::A,B=>by
  obtain⟨h1,h2⟩:=Ux A B;refine⟨?_,by simp[YP,h2]⟩;rw[List.cons_append,Qb,Qb,h1];cases k.o<;>cases Qb A<;>cases Qb B<;>simp[Option.bind]
structure Kz (B cb:Nat) (a:Option jD) (w:Z) (tv:R) (ts tt:List Int) (mv lv tv1 kv:R) (ks:List Int) (vs:List R) (w2:Z):Prop where
 C:Ck B cb ts tt mv lv tv1 w2
 K:Kt B cb tv w tv1 w2
 Rr:KdR w.heap.size w2 a vs
 O:w2.ownsRow B 3 1 kv ks.length (Aq ks)
 hB:B<=w.heap.size
 cbw:cb<w.heap.size
 lvw:∀q,lv.ownBlock=X q->q<w.heap.size
 k0:∀q,kv.ownBlock=X q->w.heap.size<=q/\tv1.ownBlock≠X q
theorem Kz.call {k d:Z}{m n f lv o:R}{ys ks:List Int}(h:Kz B b a w m ts tt i lv n o ks p k)(t:Ck B b ts (tt++ys) i lv f d)(c:Kt B b n k f d):Kz B b a w m ts (tt++ys) i lv f o ks p d:=by
 have u:=h.cbw;refine⟨t,h.K.trans c,h.Rr.keep fun g cs l r=>c.row r (by omega) (Ac r h.C.types (by decide)),Ak h.O (fun q hq=>?_),h.hB,u,h.lvw,fun q hq=>?_⟩
 ·obtain⟨s,j⟩:=h.k0 q hq;exact c.keep q (h.O.lt q hq).2 (by omega) (fun e=>j e.symm)
 ·obtain⟨s,j⟩:=h.k0 q hq;refine⟨s,fun e=>?_⟩;rcases c.new q e with e2|e2
  ·exact j e2
  ·have:=(h.O.lt q hq).2;omega
theorem Kz.app {x:Option jD}{c d:Z}{j k m lv f:R}{n:List R}{o:Obj}{a:Int}{gk:Nat}(h:Kz B b x w j ts tt m lv k f ks n c)
  (r:d.ownsRow B 3 1 (Y (X ⟨gk,0,T⟩) (ks.length+1) cap) (ks.length+1) (Aq ks++[U V a]))(i:(c.alloc o).grownBy d f.ownBlock)(hat:f.ownBlock=X gk\/gk=c.heap.size+1):
  Kz B b x w j ts tt m lv k (Y (X ⟨gk,0,T⟩) (ks.length+1) cap) (ks++[a]) n d:=by
 have s:=h.cbw;have t:=h.K.low.size;refine⟨h.C.other i (fun e=>?_) (fun q hq e=>?_) (fun q hq e=>?_),h.K.other i h.hB (fun q hq=>(h.k0 q hq).1),h.Rr.keep fun g cs l p=>(p.alloc o).grown i (fun e=>Ac p h.O (by decide) e.symm),?_,h.hB,s,h.lvw,fun q hq=>?_⟩
 ·have:=(h.k0 b e).1;omega
 ·have:=(h.k0 q e).1;have:=h.lvw q hq;omega
 ·exact(h.k0 q e).2 hq
 ·rw[Aq,zR,zC];exact r
 ·obtain rfl:gk=q:=by simpa[ja]using hq
  rcases hat with e|e
  ·exact h.k0 gk e
  ·refine⟨by omega,fun e2=>?_⟩;have:=(h.C.types.lt gk e2).2;omega
theorem AbM (B c:Nat)(ts:List Int)(A lv:R)(w0:Z)(T:jJ)(v:R)(i:Int)(f:List Int->Option Int)(K:List Kj)(ac:KdX T v (K.map Kj.v))(hp:PlX T v i)(aT:K.length<=3)(aU:Hid (∀k∈K,(∃t u,k.v=jB t u)/\AbL k.o/\TyV B c ts A lv w0 k.v k.o k.ys))
  (aV:Hid (∀tt n w ka kc s,Below B w0 w->Ck B c ts tt A lv n w->AK w ka s.length kc s->s.length=K.length->(∀a∈s,1<=a/\a<=4)->jE j4 167 #[jK (X ⟨c,0,none⟩),jB T v,Y ka s.length kc] w fun p w'=>Gs (f s) p/\Ah w w')):
  TyV B c ts A lv w0 (jB T v) ((Qb K).bind f) (YP K++[((Qb K).bind f).getD 0]):=by
 intro tt n w ar r aW;obtain⟨bp,bq,br,ac,I,D⟩:=ac;obtain⟨bs,bt,bu,hp,J,ad⟩:=hp;have aX:=Ab (Bm I.1 I.2.1 I.2.2);have aY:=Ab (Bm J.1 J.2.1 J.2.2);have D:=Ab D;have ad:=Ab ad;have au:=Ab ar;have aZ:=r.row.lt;have L:B<=w.heap.size:=by have:=r.low;omega
 have x:=r.types.lt;have av:=r.lets.lt;simp only[zC,List.length_cons,List.length_nil]at aW;obtain⟨aw,ax,ay,az,aA⟩:=info_parts Kr;obtain⟨m,hm⟩:∃m,m=K.length:=⟨_,rfl⟩
 have aB:(K.map Kj.v).length=m:=by rw[ze,hm]
 unfold KdA at D;rw[aB]at D;have bv:m<=3:=by omega
 have ae:=Ab hm;clear ar hm I J aB aT;go_enter func134,ntmps134
 go_wp2_with fail
 rw[Aa aX,Oper.upon_enter];refine(Aa D _).mono ?_;rintro p a0 ⟨a,rfl,aC,af⟩;have a2:Kz B c a w n ts (tt++[]) A lv n (Y none 0 0) [] (K.map Kj.v) a0:=⟨by rw[Z3];exact r.below af,Kt.of_all af L,aC,jX _ _ _ _,L,aZ,fun q hq=>(av q hq).2,fun q hq=>by cases hq⟩
 clear af aC x av r;dsimp only;go_wp2_with fail
 go_loopw [6,16] (fun a3 j wr=>∃ (k:Nat) (M:R) (l ks:List Int),k<=m/\j=U V k/\Hid (Qb (K.take k)=X ks/\l=YP (K.take k)/\ks.length=k/\∀a∈ks,1<=a/\a<=4)/\Kz B c a w n ts (tt++l) A lv M a3 ks (K.map Kj.v) wr) (fun _ j _=>m-(intOf j).toNat)
 case atStart=>exact⟨0,n,[],[],zD _,rfl,Ab ⟨rfl,rfl,rfl,fun a h=>absurd h (by simp)⟩,a2⟩
 case round=>
  obtain⟨k,M,l,ks,ac,rfl,N,X1⟩:=hrel;by_cases x:k<m
  ·have bw:(k:Int)<(m:Int):=by omega
   have P:k<K.length:=by rw[<-Aa ae];exact x
   obtain⟨⟨t,u,ag⟩,aD,ah⟩:=Aa aU _ (zH P);obtain⟨g,rfl,aE⟩:=X1.Rr.at (k:=k) (by rw[ze];exact P);rw[List.getElem_map,ag]at aE;rw[ag]at ah;obtain⟨e1,e2,e3,e4⟩:=Aa N;have aF:=zQ P;obtain⟨S,W⟩:=Ux (K.take k) [K[k]];obtain⟨ai,aj⟩:=Ux (K.take (k+1)) (K.drop (k+1));rw[<-aF]at S W;rw[yN]at ai aj;have hy:l.length+K[k].ys.length<=(YP K).length:=by rw[aj,W,<-e2];simp[YP]
   have aG:=Ab (show ∀b,K[k].o=X b->Qb (K.take (k+1))=X (ks++[b])from fun b ak=>by rw[S,e1];simp[Qb,ak,Option.bind]);have aH:=Ab (show K[k].o=none->Qb K=none from fun he=>by rw[ai,S,e1];simp[Qb,he,Option.bind]);have aI:=Ab (show l++K[k].ys=YP (K.take (k+1)) by rw[W,<-e2];simp[YP]);have al:=Ab (And.intro e3 (And.intro e4 aD));have aJ:=Ab x;obtain⟨bx,o2,eo,_⟩:=Ae X1.O;have ao:=Ab ah;clear e1 e2 e3 e4 S W ai aj aF N x aD ah ag;generalize K[k].ys=a4 at ao hy aI;generalize K[k].o=bz at ao aG aH al;clear P;subst eo;have bA:ks.length<=3:=by have:=(Aa al).1;omega
   have a5:(tt++l).length+a4.length<=4000:=by rw[zC];omega
   go_wp2_with fail
   refine(Aa ao _ _ _ ((Aa au).trans X1.K.low) X1.C a5).mono ?_;rintro p ap (⟨a1,a6,E,rfl,aK,Kz⟩|⟨E,⟨z,t,u,rfl⟩,a7⟩)
   ·have F:=X1.call aK Kz;have d:=Ab E;have zl:B<=ap.heap.size:=zB L F.K.low.size;rw[zT]at F;clear aK Kz X1 aE E;dsimp only;go_wp2_with (at_builtin;refine jj _ rfl _ _ 24 rfl B 3 aw (U V 0) 1 8 underlying24 ax ay az aA rfl (by decide) _ _ _ rfl (World.ownsRow.alloc F.O _) ⟨ap.heap.size,0,none⟩ 1 1 [U V a1] rfl rfl ?c1 ?c2 (by decide) ?c3 ?c4 ?c5 (ap.heap.size+1) (by simp) ?_)
    case c1=>exact A5 _ _ _ _ (by simp)
    case c2=>intro u G;simp at G;subst G;rfl
    case c3=>unfold maxLen;omega
    case c4=>omega
    case c5=>simp;omega
    intro bB bC bD aL aM aN a8;have X2:=F.app aL aM aN;clear F aL aM aN a8;go_wp2_with fail
    go_roundw
    case rel=>
     obtain⟨a9,ba,bb⟩:=Aa al;exact⟨k+1,a6,_,_,Aa aJ,by go_num,Ab ⟨Aa aG _ (Aa d),Aa aI,by simp[a9],fun b ak=>(zN.1 ak).elim (ba b) fun h=>by rw[zS.1 h];exact bb _ (Aa d)⟩,X2⟩
    case measure=>have:=Aa aJ;simp[intOf];omega
   ·have d:=Ab E;clear E;dsimp only;go_wp2_with fail
    exact jN (v:= jO #[U V 0,jB t u]) (by simp[jR,results134,go_sem]) rfl (.inr ⟨by rw[Aa aH (Aa d)];rfl,⟨_,_,_,rfl⟩,X1.K.low.trans a7⟩)
  ·obtain rfl:k=m:=by omega
   obtain⟨e1,e2,e3,e4⟩:=Aa N;rw[Aa ae,Z2]at e1 e2;have bc:(tt++l).length<=3999:=by rw[zC,e2];omega
   have aq:=Ab (And.intro e1 e2);have bd:=Ab (show ks.length=K.length by rw[e3];exact Aa ae);have bf:=Ab e4;have h3:ks.length<=3:=by omega
   obtain⟨ka,kc,rfl,_⟩:=Ae X1.O;clear e1 e2 e3 e4 N x;go_wp2_with fail
   refine(Aa aV _ _ _ _ _ ks ((Aa au).trans X1.K.low) X1.C (BS X1.O (by omega)) (Aa bd) (Aa bf)).mono ?_;rintro p aa ⟨bg,y⟩;have H:=X1.C.below y;generalize aO:tt++l=bE at H bc;have bh:=Ab aO;have ab:B<=wr.heap.size:=zB L X1.K.low.size;have aP:Kt B c n w M aa:=X1.K.trans (Kt.of_all y ab);clear aO;rcases bg with⟨t,hf,rfl⟩|⟨hf,z,t,u,rfl⟩
   ·have c2:aa.cell? ⟨c,2,none⟩=X M:=H.row.cell 2;have d:=Ab (show(Qb K).bind f=X t by rw[(Aa aq).1];exact hf);clear hf;obtain⟨bF,bG,rfl,_⟩:=Ae H.types;dsimp only;go_wp2_with (at_builtin;refine jj _ rfl _ _ 24 rfl B 3 aw (U V 0) 1 8 underlying24 ax ay az aA rfl (by decide) _ _ _ rfl (World.ownsRow.alloc H.types _) ⟨aa.heap.size,0,none⟩ 1 1 [U V t] rfl rfl ?c1 ?c2 (by decide) ?c3 ?c4 ?c5 (aa.heap.size+1) (by simp) ?_)
    case c1=>exact A5 _ _ _ _ (by simp)
    case c2=>intro u G;simp at G;subst G;rfl
    case c3=>unfold maxLen;omega
    case c4=>omega
    case c5=>have:=y.size;simp;omega
    intro bH bI aQ bi bj hat bJ;obtain⟨aR,bk,bl⟩:=H.push (zB ab y.size) bi bj hat;have d2:aQ.cell? ⟨c,2,none⟩=X _:=aR.cell 2;have bK:=aR.frozen 2;go_wp2_with fail
    refine jN (v:= jO #[U V t,.nilIface]) (by simp[jR,results134,go_sem]) rfl (.inl ⟨t,_,Aa d,rfl,?_,aP.trans bl⟩)
    rw[Aa d,<-(Aa aq).2,<-zT,Aa bh];exact bk
   ·have d:=Ab (show(Qb K).bind f=none by rw[(Aa aq).1];exact hf);clear hf;dsimp only;go_wp2_with fail
    rw[Aa aY,Oper.upon_enter];refine(Aa ad _).mono ?_;rintro p aQ ⟨rfl,aS⟩;dsimp only;go_wp2_with fail
    refine(Fz i t u _).mono ?_;rintro p bL ⟨⟨bm,bn,rfl⟩,bo⟩;dsimp only;go_wp2_with fail
    exact jN (v:= jO #[U V 0,jB bm bn]) (by simp[jR,results134,go_sem]) rfl (.inr ⟨Aa d,⟨_,_,_,rfl⟩,(aP.low.trans (aS.mono (zB ab y.size))).trans (bo.mono (zB (zB ab y.size) aS.size))⟩)
theorem AdI (op a:Int):AbL (nz (Ba op [a])):=fun t h=>by
 obtain⟨h1,h2⟩:=EU h;rw[Ba]at h1
 repeat' split at h1
 all_goals omega
theorem AdJ (op a b:Int):AbL (nz (Ba op [a,b])):=fun t h=>by
 obtain⟨h1,h2⟩:=EU h;rw[Ba]at h1;clear h
 repeat' split at h1
 all_goals
  subst h1
  first
   |decide
   |exact absurd rfl h2
theorem AdK (a b c:Int)(d: 1<=b/\b<=4):AbL (nz (Ba 27 [a,b,c])):=fun t h=>by
 obtain⟨h1,h2⟩:=EU h;rw[Ba]at h1
 repeat' split at h1
 all_goals omega
theorem Ah0 (ts:List Int)(i op:Int)(k:Ex):Al ts (.un i op k)=(Al ts k).bind fun a1=>nz (Ba op [a1]):=by rw[Al];cases Al ts k<;>rfl
theorem Agk (ts:List Int)(i op:Int)(k l:Ex):Al ts (.bin i op k l)=(Al ts k).bind fun a1=>(Al ts l).bind fun a2=>nz (Ba op [a1,a2]):=by rw[Al];cases Al ts k<;>cases Al ts l<;>rfl
theorem Agl (ts:List Int)(i:Int)(k l m:Ex):Al ts (.ite i k l m)=(Al ts k).bind fun a1=>(Al ts l).bind fun a2=>(Al ts m).bind fun a3=>nz (Ba 27 [a1,a2,a3]):=by rw[Al];cases Al ts k<;>cases Al ts l<;>cases Al ts m<;>rfl
theorem MV {ts:List Int}(h:∀t∈ts,1<=t/\t<=4):∀(e:Ex),AbL (Al ts e)
 |.int ..,a,k=>by cases k;omega
 |.text ..,a,k=>by cases k;omega
 |.bool ..,a,k=>by cases k;omega
 |.set ..,a,k=>by cases k;omega
 |.name ..,a,k=>by cases k
 |.attr _ n,a,k=>by cases k;exact YK n
 |.lett _ n,a,k=>by
  rw[Al]at k;split at k
  ·exact h a (zp k)
  ·cases k
 |.un i op e,a,k=>by
  rw[Ah0]at k;cases he:Al ts e with
  |none=>rw[he]at k;cases k
  |some b=>rw[he]at k;exact AdI op b a k
 |.bin i op e f,a,k=>by
  rw[Agk]at k;cases he:Al ts e with
  |none=>rw[he]at k;cases k
  |some b=>
   rw[he]at k;cases hf:Al ts f with
   |none=>rw[hf]at k;cases k
   |some c=>rw[hf]at k;exact AdJ op b c a k
 |.ite i e f g,a,k=>by
  rw[Agl]at k;cases he:Al ts e with
  |none=>rw[he]at k;cases k
  |some b=>
   rw[he]at k;cases hf:Al ts f with
   |none=>rw[hf]at k;cases k
   |some c=>
    rw[hf]at k;cases hg:Al ts g with
    |none=>rw[hg]at k;cases k
    |some d=>rw[hg]at k;exact AdK b c d (MV h f c hf) a k
def Ex.kj (ts:List Int) (e:Ex):Kj:=⟨e.val,Al ts e,A7 ts e⟩
theorem AdL (ts:List Int)(e:Ex):Al ts e=(Qb (e.kids.map (Ex.kj ts))).bind (abv ts e)/\A7 ts e=YP (e.kids.map (Ex.kj ts))++[(Al ts e).getD 0]:=by
 cases e with
 |un i op k=>exact⟨by cases h1:Al ts k<;>simp[Al,Qb,Ex.kids,Ex.kj,abv,h1],by simp[A7,YP,Ex.kids,Ex.kj]⟩
 |bin i op k l=>exact⟨by cases h1:Al ts k<;>cases h2:Al ts l<;>simp[Al,Qb,Ex.kids,Ex.kj,abv,h1,h2],by simp[A7,YP,Ex.kids,Ex.kj]⟩
 |ite i k l m=>exact⟨by cases h1:Al ts k<;>cases h2:Al ts l<;>cases h3:Al ts m<;>simp[Al,Qb,Ex.kids,Ex.kj,abv,h1,h2,h3],by simp[A7,YP,Ex.kids,Ex.kj]⟩
 |_=>exact⟨rfl,rfl⟩
theorem Ex.typed_kid {e:Ex}(h:e.typed):∀k∈e.kids,k.typed:=by
 cases e<;>simp[Ex.kids]<;>simp_all[Ex.typed]
theorem Ah1 (aT A B:jD)(f:Nat)(ts:List Int)(j:Option jD)(o p:Nat)(e:Ex)(he:e.typed)(w:Z)(g:N9 w aT)(C:RL w A B)(ka:Option jD)(kc:Nat)(s:List Int)(q:AK w ka s.length kc s)(r:s.length=e.kids.length)(h:∀a∈s,1<=a/\a<=4)(hc:w.cell? ⟨f,1,T⟩=X (Y j o p))(D:f<w.heap.size)(E:AK w j o p ts):jE j4 167 #[jK (X ⟨f,0,T⟩),e.val,Y ka s.length kc] w fun F w'=>Gs (abv ts e s) F/\Ah w w':=by
 cases e with
 |int i n=>exact Iy f _ i _ 2 (.inl ⟨rfl,rfl,_,rfl⟩) ka _ kc w
 |text i n=>exact Iy f _ i _ 3 (.inr (.inl ⟨rfl,rfl,_,rfl⟩)) ka _ kc w
 |bool i n=>exact Iy f _ i _ 1 (.inr (.inr (.inl ⟨rfl,rfl,_,rfl⟩))) ka _ kc w
 |set i a n c ss=>exact Iy f _ i _ 4 (.inr (.inr (.inr ⟨rfl,rfl,_,_,_,rfl⟩))) ka _ kc w
 |name=>exact absurd he id
 |attr i n=>exact YN f i n ka _ kc aT w g he
 |lett i n=>exact YO f i n j o p ts ka _ kc A B w C hc D E
 |un i op k=>
  obtain⟨a,rfl⟩:=List.length_eq_one_iff.1 r;obtain⟨t,u,hv⟩:=k.form;rw[Ex.val,hv];exact AdH f i op t u ka _ kc a aT w g q he.1 (h a (by simp))
 |bin i op k l=>
  rcases s with _|⟨a,_|⟨b,_|⟨x,s⟩⟩⟩<;>simp[Ex.kids]at r
  obtain⟨t,u,hv⟩:=k.form;obtain⟨v,y,z⟩:=l.form;rw[Ex.val,hv,z];exact AbJ f i op t u v y ka _ kc a b aT w g q he.1 (h a (by simp)) (h b (by simp))
 |ite i k l m=>
  rcases s with _|⟨a,_|⟨b,_|⟨d,_|⟨x,s⟩⟩⟩⟩<;>simp[Ex.kids]at r
  obtain⟨t,u,hv⟩:=k.form;obtain⟨v,y,z⟩:=l.form;obtain⟨G,H,I⟩:=m.form;rw[Ex.val,hv,z,I];exact AbK f i t u v y G H ka _ kc a b d aT w g q (h b (by simp))
theorem KI (B a:Nat)(ts:List Int)(b lv:R)(w0:Z)(aT f g:jD)(i:N9 w0 aT)(j:RL w0 f g)(hB:w0.heap.size<=B)(l:∀t∈ts,1<=t/\t<=4)(m:ts.length<=1048576)(e:Ex)(he:e.typed):TyV B a ts b lv w0 e.val (Al ts e) (A7 ts e):=by
 obtain⟨T,v,n,h,hp⟩:=e.mth;have q:∀k∈e.kids.map (Ex.kj ts),(∃t u,k.v=jB t u)/\AbL k.o/\TyV B a ts b lv w0 k.v k.o k.ys:=fun k h=>by
  obtain⟨x,hx,rfl⟩:=zg.1 h;have:=e.kids_lt x hx;exact⟨x.form,MV l x,KI B a ts b lv w0 aT f g i j hB l m x (Ex.typed_kid he x hx)⟩
 have:=AbM B a ts b lv w0 T v e.pos (abv ts e) (e.kids.map (Ex.kj ts)) (by rw[z7];exact h) hp (by rw[ze];exact e.kids_3) (Ab q) (Ab fun tt z w ka kc s p d r hs y=>by
  obtain⟨x,c,rfl,_⟩:=Ae d.lets;rw[<-n];exact Ah1 aT f g a ts x ts.length c e he w (i.below p hB) (j.below p hB) ka kc s r (by rw[hs,ze]) y (d.row.cell 1) d.row.lt (BS d.lets m))
 rw[<-n,<-(AdL ts e).1,<-(AdL ts e).2]at this;exact this
termination_by e.cnt
def LN (w:Z) (mb:Nat) (ns:List ByteArray):Prop:=∃ (es:Array MapEntry) (cl:Nat),w.heap[mb]? =X (.map es cl)/\es.toList.map (·.key)=ns.map Q/\∀m∈es.toList,∃b n t,m.val=jG #[.bool b,U V n,U V t]
theorem LN.keep {a:Nat}(h:LN w a ns)(b:w'.heap[a]? =w.heap[a]?):LN w' a ns:=by
 obtain⟨c,cl,h1,h2,h3⟩:=h;exact⟨c,cl,b.trans h1,h2,h3⟩
theorem LN.lt {a:Nat}(h:LN w a ns):a<w.heap.size:=by
 obtain⟨b,cl,h1,_⟩:=h;exact(z4.1 h1).1
theorem LS {a:Array MapEntry}(h:a.toList.map (·.key)=ns.map Q):∀x∈a.toList,∃s∈ns,x.key=Q s:=fun x hx=>by
 have:x.key∈a.toList.map (·.key):=zg.2 ⟨x,hx,rfl⟩;rw[h]at this;obtain⟨s,hs,e⟩:=zg.1 this;exact⟨s,hs,e.symm⟩
theorem AdF (w:Z)(g:Nat)(ns:List ByteArray)(s:ByteArray)(h:LN w g ns)(hs:s∈ns):
  ∃b n t,(Instr.lookup 100 (.map (X g)) (Q s) true).run j4 w= .ok (jO #[jG #[.bool b,U V n,U V t],.bool true]) w:=by
 obtain⟨a,cl,h1,h2,h3⟩:=h;have i:∀x∈a.toList,MapKept.IsKey .string x.key:=fun x hx=>by
  obtain⟨s,_,e⟩:=LS h2 x hx;rw[e];trivial
 rcases MapKept.findNow_spec (d:= .string) (k:= Q s) trivial a.toList 0 i with⟨c,f⟩|⟨j,e,c,f,m⟩
 ·exfalso;have:Q s∈a.toList.map (·.key):=by rw[h2];exact zg.2 ⟨s,hs,rfl⟩
  obtain⟨x,hx,ex⟩:=zg.1 this;exact f x hx ex
 ·have hm:e∈a.toList:=zp f;obtain⟨b,n,t,l⟩:=h3 e hm;refine⟨b,n,t,?_⟩;rw[l]at c;simp[Instr.lookup,jl underlying100,MapKept.run_getObj_map h1,MapKept.run_checkKey underlying9 (k:= .string s) trivial,MapKept.run_findKey underlying9 c]
theorem Agi (w:Z)(c:Nat)(ns:List ByteArray)(s:ByteArray)(h:LN w c ns)(hs:s ∉ ns):
  ∃b n t,(Instr.lookup 100 (.map (X c)) (Q s) true).run j4 w= .ok (jO #[jG #[.bool b,U V n,U V t],.bool false]) w:=by
 obtain⟨a,cl,h1,h2,h3⟩:=h;have i:∀x∈a.toList,MapKept.IsKey .string x.key:=fun x hx=>by
  obtain⟨s,_,e⟩:=LS h2 x hx;rw[e];trivial
 rcases MapKept.findNow_spec (d:= .string) (k:= Q s) trivial a.toList 0 i with⟨f,g⟩|⟨j,e,f,g,l⟩
 ·refine⟨false,0,0,?_⟩;simp[Instr.lookup,jl underlying100,MapKept.run_getObj_map h1,MapKept.run_checkKey underlying9 (k:= .string s) trivial,MapKept.run_findKey underlying9 f,zeroValue154]
 ·exfalso;have hm:e∈a.toList:=zp g;obtain⟨o,m,e'⟩:=LS h2 e hm;rw[l]at e';cases e';exact hs m
theorem Aax (w:Z)(a:Nat)(ns:List ByteArray)(s:ByteArray)(b:Bool)(n t:Int)(h:LN w a ns)(hs:s ∉ ns):
  ∃w',(Instr.mapUpdate 100 (.map (X a)) (Q s) (jG #[.bool b,U V n,U V t])).run j4 w= .ok () w'/\LN w' a (ns++[s])/\(∀k,k≠a->w'.heap[k]? =w.heap[k]?)/\w'.heap.size=w.heap.size/\∀B,B<=a->Below B w w':=by
 obtain⟨c,cl,h1,h2,h3⟩:=h;have f:∀x∈c.toList,MapKept.IsKey .string x.key:=fun x hx=>by
  obtain⟨s,_,e⟩:=LS h2 x hx;rw[e];trivial
 rcases MapKept.findNow_spec (d:= .string) (k:= Q s) trivial c.toList 0 f with⟨g,i⟩|⟨j,e,g,i,l⟩
 ·obtain⟨g1,g2⟩:=MapKept.heap_set (o':= .map (c.push ⟨Q s,jG #[.bool b,U V n,U V t],cl⟩) (cl+1)) h1;refine⟨{ w with heap:=w.heap.setIfInBounds a (.map (c.push ⟨Q s,jG #[.bool b,U V n,U V t],cl⟩) (cl+1)) },?_,⟨_,_,g1,?_,?_⟩,g2,by simp,fun B hB=>⟨rfl,rfl,rfl,by simp,fun k f=>g2 k (by omega)⟩⟩
  ·simp[Instr.mapUpdate,jl underlying100,MapKept.run_getObj_map h1,MapKept.run_checkKey underlying9 (k:= .string s) trivial,MapKept.run_findKey underlying9 g,MapKept.run_setObj_map _ h1]
  ·simp[h2]
  ·intro m hm;simp at hm;rcases hm with hm|rfl
   ·exact h3 m (by simpa using hm)
   ·exact⟨_,_,_,rfl⟩
 ·exfalso;have hm:e∈c.toList:=zp i;obtain⟨p,o,e'⟩:=LS h2 e hm;rw[l]at e';cases e';exact hs o
set_option maxHeartbeats 1600000
def AO:List ByteArray:= [⟨#[99,108,105,101,110,116]⟩,⟨#[117,115,101,114]⟩,⟨#[108,101,118,101,108]⟩,⟨#[110,111,119]⟩,⟨#[97,115,107,101,100]⟩,⟨#[97,103,114,101,101,100]⟩]
theorem AdC (w:Z)(o:Obj):(w.alloc o).heap[w.heap.size]? =X o:=by
 show(w.heap.push o)[w.heap.size]? =X o;exact Array.getElem?_push_size
theorem AdD:∀k,k<6->PZ.extract (k*2) (k*2+2)= #[Q (AO.getD k ⟨#[]⟩),U V (Bw k)]
 |0,_=>rfl
 |1,_=>rfl
 |2,_=>rfl
 |3,_=>rfl
 |4,_=>rfl
 |5,_=>rfl
 |n+6,h=>absurd h (by omega)
theorem AdE:∀k,k<6->AO.getD k ⟨#[]⟩ ∉ AO.take k
 |0,_=>by simp
 |1,_=>by simp[AO]
 |2,_=>by simp[AO]
 |3,_=>by simp[AO]
 |4,_=>by simp[AO]
 |5,_=>by simp[AO]
 |n+6,h=>absurd h (by omega)
theorem AbF:∀k,k<6->AO.take (k+1)=AO.take k++[AO.getD k ⟨#[]⟩]
 |0,_=>rfl
 |1,_=>rfl
 |2,_=>rfl
 |3,_=>rfl
 |4,_=>rfl
 |5,_=>rfl
 |n+6,h=>absurd h (by omega)
theorem Jm (aT:jD)(w:Z)(d:N9 w aT):
  jE j4 53 #[] w fun y w'=>∃s f,y=jH (jK (X ⟨s,0,T⟩))/\w.heap.size<=f/\Ck w.heap.size s [] [] (.map (X f)) (Y T 0 0) (Y T 0 0) w'/\LN w' f AO/\Ah w w':=by
 have J:=@run_makeMap j4;have g:=(Av w (.map #[] 0)).alloc (by simp) (jF #[.map (X w.heap.size),Y T 0 0,Y T 0 0] 102);have h:=Ag.new (w.alloc (.map #[] 0)) #[.map (X w.heap.size),Y T 0 0,Y T 0 0] 102;simp only[World.size_alloc]at h;have t:LN ((w.alloc (.map #[] 0)).alloc (jF #[.map (X w.heap.size),Y T 0 0,Y T 0 0] 102)) w.heap.size []:=by
  refine⟨#[],0,?_,rfl,fun m hm=>by simp at hm⟩;rw[jt _ _ _ (by simp)];exact AdC w _
 have u:=Ab (fun j=>(g.cell (p:=⟨0,j,T⟩) d.a).trans (d.ac j));clear d;go_enter func53,ntmps53
 go_wp2_with (refine Ek rfl 152 _ rfl 0 rfl PZ _ (Aa u) underlying152 rfl (by kernel_rfl) ?_)
 clear u;go_loopw [8] (fun i wr=>∃k:Nat,k<=6/\i=U V k/\LN wr w.heap.size (AO.take k)/\Ag wr (w.heap.size+1) #[.map (X w.heap.size),Y T 0 0,Y T 0 0] 102/\Ah w wr) (fun i _=>6-(intOf i).toNat)
 case atStart=>exact⟨0,by omega,rfl,t,h,g⟩
 case round=>
  clear t h g;obtain⟨k,K,rfl,l,c,n⟩:=hrel;by_cases b:k<6
  ·have L:(k:Int)<6:=by omega
   have o:=Ab (AdD k b);have v:=Ab (AdE k b);have x:=Ab (AbF k b);have r:=Ab b;generalize AO.getD k ⟨#[]⟩=nm at o v x;generalize Bw (k:Int)=ty at o;have M:wr.cell? ⟨w.heap.size+1,0,T⟩=X (.map (X w.heap.size)):=c.cell 0;have zl:=c.lt;have z:=l.lt;have A:LN (wr.alloc (jF #[Q nm,U V ty] 151)).drew w.heap.size (AO.take k):=l.keep (jt _ _ _ z);have B:=c.alloc (jF #[Q nm,U V ty] 151);have C:=n.alloc n.size (jF #[Q nm,U V ty] 151);clear b;go_wp2_with (refine Bq rfl 152 _ _ rfl PZ rfl k rfl 6 151 underlying152 (Aa r) _ underlying151 rfl 2 (by kernel_rfl) _ (Aa o) ?_)
   obtain⟨D,N,E,F,O,G⟩:=Aax _ w.heap.size (AO.take k) nm false k ty A (Aa v);have H:Ag D (w.heap.size+1) #[.map (X w.heap.size),Y T 0 0,Y T 0 0] 102:=⟨(F _ (by omega)).trans B.out⟩
   have I:=C.drew.trans (G _ NLN);go_region
   all_goals
    go_wp2_with fail
    go_roundw
    case rel=>exact⟨k+1,Aa r,by go_num,by rw[Aa x];exact E,H,I⟩
    case measure=>have:=Aa r;simp[intOf];omega
  ·have e:k=6:=by omega
   subst e;go_wp2_with fail
   go_ret
   exact⟨_,_,rfl,NLN,⟨c,jX _ _ _ _,jX _ _ _ _,zj _,fun q hq=>by cases hq⟩,l,n⟩
section
open Classical in
noncomputable def DE (s:ByteArray):List ByteArray->Int->Int
 |[],_=>-1
 |x ::r,k=>if x=s then k else DE s r (k+1)
theorem Ip (s:ByteArray):∀(L:List ByteArray) (k:Int),0<=k->(0<=DE s L k↔s∈L)
 |[],k,h=>by simp[DE]
 |x ::r,k,h=>by
  rw[DE];by_cases e:x=s
  ·rw[if_pos e];simp[e,h]
  ·rw[if_neg e,Ip s r (k+1) (by omega)];simp[Ne.symm e]
theorem Ye {s:ByteArray}{L:List ByteArray}{k:Nat}(h:k<L.length):DE s (L.drop k) k=if L[k]=s then (k:Int)else DE s (L.drop (k+1)) ((k+1 :Nat):Int):=by
 rw[z5 h,DE];rfl
theorem Abl (x s:ByteArray):(x.toList==s.toList)=true↔x=s:=by
 rw[zM];constructor
 ·intro h;rw[zw,zw]at h;cases x;cases s;simp only[ByteArray.mk.injEq];exact Array.toList_inj.1 h
 ·rintro rfl;rfl
def Nms (w:Z) (a:Option jD) (L:List ByteArray):Prop:=∀j,(h:j<L.length)->∃b off,a=X ⟨b,off,T⟩/\b<w.heap.size/\w.cell? ⟨b,off+j,T⟩=X (Q L[j])
theorem Nms.below {L:List ByteArray}(h:Nms w a L)(c:Below B w w')(hB:w.heap.size<=B):Nms w' a L:=fun j f=>by
 obtain⟨b,d,g,i,k⟩:=h j f;exact⟨b,d,g,zE i c.size,(c.cell (p:=⟨b,d+j,T⟩) (by show b<B;omega)).trans k⟩
theorem Ahw (w:Z)(t:jJ)(L:List ByteArray):Nms (w.alloc (jF (L.map Q).toArray t)) (X ⟨w.heap.size,0,T⟩) L:=fun j a=>by
 refine⟨w.heap.size,0,rfl,by simp,?_⟩;rw[zU,(Ag.new w (L.map Q).toArray t).cell j];simp[a]
theorem Ly (s:ByteArray)(w:Z):
  jE j4 47 #[Q s] w fun r w'=>r=jH (U V (DE s AO 0))/\Ah w w':=by
 have j:=Av w (jF (AO.map Q).toArray 9);have l:=Ahw w 9 AO;have m:=Ab (show AO.length=6 from rfl);have n:=Ab (show w.alloc (jF (AO.map Q).toArray 9)=w.alloc (jF #[Q ⟨#[99,108,105,101,110,116]⟩,Q ⟨#[117,115,101,114]⟩,Q ⟨#[108,101,118,101,108]⟩,Q ⟨#[110,111,119]⟩,Q ⟨#[97,115,107,101,100]⟩,Q ⟨#[97,103,114,101,101,100]⟩] 9)from rfl);go_enter func47,ntmps47
 go_wp2_with fail
 rw[<-Aa n];clear n;generalize w.alloc (jF (AO.map Q).toArray 9)=t at j l|-;go_loopw [7] (fun i wr=>∃k:Nat,k<=6/\i=U V k/\Ah w wr/\Ah t wr/\Hid (DE s AO 0=DE s ((AO:List ByteArray).drop k) k)) (fun i _=>6-(intOf i).toNat)
 case atStart=>exact⟨0,by omega,rfl,j,BRN,Ab rfl⟩
 case round=>
  obtain⟨k,z,rfl,d,o,f⟩:=hrel;by_cases g:k<6
  ·have A:(k:Int)<(6 :Int):=by omega
   have h1:k<(AO:List ByteArray).length:=by rw[Aa m];exact g
   obtain⟨b1,v,x,B,p⟩:=(l.below o NLN) k h1;obtain⟨rfl,rfl⟩:b1=w.heap.size/\v=0:=by simpa[eq_comm]using x
   simp only[zU]at p;have b:=Ab ((Aa f).trans (Ye h1));have q:=Ab g;generalize (AO:List ByteArray)[k]=u at p b;clear g h1 f;by_cases a:u=s
   ·have y:(u.toList==s.toList)=true:=(Abl u s).2 a;have c:=Ab ((Aa b).trans (if_pos a));clear b a;go_wp2_with fail
    go_ret
    exact⟨by rw[Aa c];rfl,d⟩
   ·have y:(u.toList==s.toList)=false:=by rw[zv];exact fun h=>a ((Abl u s).1 h)
    have c:=Ab ((Aa b).trans (if_neg a));clear b a;go_wp2_with fail
    go_roundw
    case rel=>exact⟨k+1,Aa q,by go_num,d,o,c⟩
    case measure=>have:=Aa q;simp[intOf];omega
  ·have e:k=6:=by omega
   subst e;have c:=Ab (show DE s AO 0= -1 by rw[Aa f,List.drop_of_length_le (by rw[Aa m];omega)];rfl);go_wp2_with fail
   go_ret
   exact⟨by rw[Aa c];rfl,d⟩
theorem Yf (lb:Nat)(a:Option jD)(n c:Nat)(L:List ByteArray)(s:ByteArray)(w:Z)(h0:w.cell? ⟨lb,0,T⟩=X (Y a n c))(E:lb<w.heap.size)(p:L.length=n)(F:n<=1048576)(q:Nms w a L):
  jE j4 48 #[jK (X ⟨lb,0,T⟩),Q s] w fun y w'=>y=jH (U V (DE s L 0))/\Ah w w':=by
 have r:=Ab p;obtain⟨d,j⟩:∃d,d=w:=⟨_,rfl⟩
 have z:Ah w d:=by rw[j];exact BRN
 have A:Nms d a L:=by rw[j];exact q
 have t:=Ab j;clear j p q;go_enter func48,ntmps48
 go_wp2_with fail
 rw[<-Aa t];clear t;go_loopw [12] (fun i wr=>∃k:Nat,k<=n/\i=U V k/\Ah w wr/\Ah d wr/\Hid (DE s L 0=DE s ((L:List ByteArray).drop k) k)) (fun i _=>n-(intOf i).toNat)
 case atStart=>exact⟨0,by omega,rfl,z,BRN,Ab rfl⟩
 case round=>
  obtain⟨k,G,rfl,l,v,m⟩:=hrel;by_cases o:k<n
  ·have H:(k:Int)<(n:Int):=by omega
   have h1:k<(L:List ByteArray).length:=by rw[Aa r];exact o
   obtain⟨b1,I,B,J,C⟩:=(A.below v NLN) k h1;subst B;have f:=Ab ((Aa m).trans (Ye h1));have x:=Ab o;generalize (L:List ByteArray)[k]=u at C f;clear o h1 m;by_cases b:u=s
   ·have D:(u.toList==s.toList)=true:=(Abl u s).2 b;have g:=Ab ((Aa f).trans (if_pos b));clear f b;go_wp2_with fail
    go_ret
    exact⟨by rw[Aa g];rfl,l⟩
   ·have D:(u.toList==s.toList)=false:=by rw[zv];exact fun h=>b ((Abl u s).1 h)
    have g:=Ab ((Aa f).trans (if_neg b));clear f b;go_wp2_with fail
    go_roundw
    case rel=>exact⟨k+1,Aa x,by go_num,l,v,g⟩
    case measure=>have:=Aa x;simp[intOf];omega
  ·have e:k=n:=by omega
   subst e;have g:=Ab (show DE s L 0= -1 by rw[Aa m,List.drop_of_length_le (by rw[Aa r];omega)];rfl);go_wp2_with fail
   go_ret
   exact⟨by rw[Aa g];rfl,l⟩
end
end Go.Proofs.YteiieikcjcfkkaaGreatDoor
