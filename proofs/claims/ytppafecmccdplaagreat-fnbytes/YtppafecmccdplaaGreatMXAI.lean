import Derived.Test.YtppafecmccdplaaGreatMXAG
open Go.Proofs.Tryz
open Option renaming none->T,some->Y
open Go.Value renaming int->U,slice->X,string->Q,agg->jE,pointer->jH
open Go.IntKind renaming i64->V
open Go renaming World->Z,Value->jB,Addr->jD
open Go.Proofs.Tryz renaming prog->jL
namespace Go.Proofs.YtppafecmccdplaaGreat
open Go.RowKit
set_option linter.unusedVariables false
variable {wild:Bool}{L:List (ByteArray×Int)}{zs:List Int}{N:List Nd}{f g:List jB}{B c a n c7 p q:Nat}{nd:jB}{w w':Z}
def ndG (x:Nd):Prop:=okN x/\x.text.size<=1000000/\x.num<=9223372036854775807/\x.names.length<=64/\(∀s∈x.names,s.size<=1000)/\x.kids.length<=3
def SH (L:List (ByteArray×Int)):List jB:=L.flatMap fun x=> [Q x.1,U V x.2]
theorem AaW (L:List (ByteArray×Int))(x:ByteArray×Int):SH (L++[x])=SH L++[Q x.1,U V x.2]:=by simp[SH]
theorem ZB:∀(L:List (ByteArray×Int)) (j:Nat) (h:j<L.length),(SH L)[j*2]? =Y (Q L[j].1)/\(SH L)[j*2+1]? =Y (U V L[j].2)
 |x ::L,0,_=>⟨rfl,rfl⟩
 |x ::L,j+1,h=>by
  have a:=ZB L j (by simpa using h);have e1:(j+1)*2=j*2+2:=by omega
  rw[e1];exact a
structure Wn (w:Z) (B R gb:Nat) (a:Option jD) (n c:Nat) (zs:List Int) (p:Nat) (N:List Nd) (L:List (ByteArray×Int)) (nd lt:jB) (nv kv:List jB) (wild:Bool):Prop where
 row:Ah w gb #[jH (Y ⟨R,0,T⟩),nd,lt,.bool wild] 126
 rd:KL w R a n c zs p
 nodes:Du w B nd N nv kv
 lets:w.ownsRow B 130 2 lt L.length (SH L)
 low:(B<=gb/\B<=R)/\(0<n->∀q,a=Y q->q.block<B)
 good:(∀x∈N,ndG x)/\∀x∈L,x.1.size<=1000
structure Gk (B R gb:Nat) (lt nd:jB) (w:Z) (nd':jB) (w':Z):Prop where
 low:Below B w w'
 block:∀k,k<w.heap.size->k≠gb->k≠R->nd.ownBlock≠Y k->lt.ownBlock≠Y k->w'.heap[k]? =w.heap[k]?
 newN:∀q,nd'.ownBlock=Y q->nd.ownBlock=Y q\/w.heap.size<=q
theorem Gk.trans {B R a:Nat}{lt nd b c:jB}{w d w2:Z}(h:Gk B R a lt nd w b d)(k:Gk B R a lt b d c w2):Gk B R a lt nd w c w2:=by
 refine⟨h.low.trans k.low,fun q h1 f g i h5=>?_,fun q j=>?_⟩
 ·refine(k.block q (zR h1 h.low.size) f g (fun e=>?_) h5).trans (h.block q h1 f g i h5);rcases h.newN q e with e|e
  ·exact i e
  ·omega
 ·rcases k.newN q j with e|e
  ·exact h.newN q e
  ·have:=h.low.size;exact .inr (by omega)
theorem Gk.of_below {R:Nat}{lt nd:jB}(h:An w w')(b:B<=w.heap.size):Gk B R a lt nd w nd w':=
 ⟨h.mono b,fun k h1 _ _ _ _=>h.block k h1,fun q c=> .inl c⟩
theorem Gk.of_touch {R:Nat}{lt nd:jB}(h:Al R (R+1) w w')(c:B<=R)(d:R<w.heap.size):Gk B R a lt nd w nd w':=
 ⟨⟨h.os,h.tape,h.output,h.size,fun k hk=>h.block k (by omega) (.inl (by omega))⟩,fun k h1 _ f _ _=>h.block k h1 (by omega),fun q b=> .inl b⟩
theorem Wn.below {R d:Nat}{a:Option jD}{c:Nat}{lt:jB}(h:Wn w B R d a n c zs p N L nd lt f g wild)(b:An w w'):Wn w' B R d a n c zs p N L nd lt f g wild:=
 ⟨h.row.after b NLN,h.rd.after b h.rd.lt,h.nodes.blocks (fun k _ hk=>b.block k hk),Ad h.lets (fun q i=>b.block q (h.lets.lt q i).2),h.low,h.good⟩
theorem Bk {b:Nat}{f g:Array jB}{t u:TypeId}(h:Ah w b f t)(k:Ah w c g u)(i:t≠u):b≠c:=fun e=>by
 have d:=h.out;have a:=k.out;rw[e]at d;rw[d]at a;injection a with a;injection a with _ a;exact i a
theorem Wn.touch {R i:Nat}{a:Option jD}{c:Nat}{lt:jB}{k l:List jB}(h:Wn w B R i a n c zs p N L nd lt k l wild)(t:Al R (R+1) w w')(s:KL w' R a n c zs q):Wn w' B R i a n c zs q N L nd lt k l wild:=by
 have r:=h.rd;have f:∀q,q<w.heap.size->q≠R->w'.heap[q]? =w.heap[q]? :=fun q h1 y=>t.block q h1 (by omega);have g:∀{e size m:Nat} {v:jB} {u:List jB},w.ownsRow B e size v m u->56≠e->∀q,v.ownBlock=Y q->q≠R:=fun o x q b e=>Ac r.row o x (by rw[b,e]);exact⟨⟨(f i h.row.lt (Bk h.row r.row (by decide))).trans h.row.out⟩,s,
  h.nodes.upto (fun q b=>f q (h.nodes.lts.1 q b).2 (g h.nodes.own (by decide) q b)) (fun j d q b=>f q (h.nodes.lts.2.1 j d q b).2 (g (h.nodes.names j (by rw[<-h.nodes.len];exact d) d) (by decide) q b)) (fun j d q b=>f q (h.nodes.lts.2.2 j d q b).2 (g (h.nodes.kids j (by rw[<-h.nodes.lenk];exact d) d) (by decide) q b)),
  Ad h.lets (fun q b=>f q (h.lets.lt q b).2 (g h.lets (by decide) q b)),h.low,h.good⟩
theorem Wn.pushN {g i:Z}{R f g7:Nat}{a:Option jD}{n c:Nat}{p:Nat}{lt u k:jB}{t v:List jB}{x:Nd}(C:Wn g B R f a n c zs p N L nd lt t v wild)(o:Obj)(F:B<=g.heap.size)(hu:g.ownsRow B 9 1 u x.names.length (x.names.map Value.string))(hk:g.ownsRow B 3 1 k x.kids.length (Aw x.kids))
  (G:∀j,(l:j<t.length)->∀q,t[j].ownBlock=Y q->u.ownBlock≠Y q)(H:∀j,(l:j<v.length)->∀q,v[j].ownBlock=Y q->k.ownBlock≠Y q)(hx:ndG x)
  (hg:(g.alloc o).grownBy i nd.ownBlock)(I:i.ownsRow B 134 5 (X (Y ⟨g7,0,T⟩) (N.length+1) c7) (N.length+1) (XA N t v++nd5 x u k))(hat:nd.ownBlock=Y g7\/g7=g.heap.size+1):
  Wn (i.setCell ⟨f,1,T⟩ (X (Y ⟨g7,0,T⟩) (N.length+1) c7)) B R f a n c zs p (N++[x]) L (X (Y ⟨g7,0,T⟩) (N.length+1) c7) lt (t++[u]) (v++[k]) wild/\Gk B R f lt nd g (X (Y ⟨g7,0,T⟩) (N.length+1) c7) (i.setCell ⟨f,1,T⟩ (X (Y ⟨g7,0,T⟩) (N.length+1) c7)):=by
 have z:=AN g o;have J:=C.below z;have K:=Ad (w':=g.alloc o) hu (fun q d=>z.block q (hu.lt q d).2);have M:=Ad (w':=g.alloc o) hk (fun q d=>z.block q (hk.lt q d).2);have n1:nd.ownBlock≠Y f:=Ac C.row C.nodes.own (by decide);have w:Ah i f #[jH (Y ⟨R,0,T⟩),nd,lt,.bool wild] 126:=⟨(BJ hg f C.row.lt n1).trans C.row.out⟩
 have r:=J.nodes.snoc K M G H I hg;have A:i.ownsRow B 130 2 lt L.length (SH L):=Ad C.lets (fun q d=>BJ hg q (C.lets.lt q d).2 (fun e=>Ak C.lets C.nodes.own (by decide) q d e));have s:∀q,q≠f->(i.setCell ⟨f,1,T⟩ (X (Y ⟨g7,0,T⟩) (N.length+1) c7)).heap[q]? =i.heap[q]? :=fun q d=>heap_setCell_other i ⟨f,1,T⟩ q _ d;have m:=C.rd;have O:R≠f:=Bk m.row C.row (by decide);have D:Below B g (i.setCell ⟨f,1,T⟩ (X (Y ⟨g7,0,T⟩) (N.length+1) c7)):=((z.mono F).grown hg (by simp;omega) (fun q d=>(C.nodes.lts.1 q d).1)).setCell (p:=⟨f,1,T⟩) C.low.1.1 _;refine⟨⟨w.set 1 _,?_,r.upto (fun q d=>s q (fun e=>Ac w r.own (by decide) (by rw[d,e]))) (fun j l q d=>s q (fun e=>Ac w (r.names j (by rw[<-r.len];exact l) l) (by decide) (by rw[d,e]))) (fun j l q d=>s q (fun e=>Ac w (r.kids j (by rw[<-r.lenk];exact l) l) (by decide) (by rw[d,e]))),Ad A (fun q d=>s q (fun e=>Ac w A (by decide) (by rw[d,e]))),C.low,⟨fun y hy=>?_,C.good.2⟩⟩,⟨?_,fun q h1 P _ S _=>(s q P).trans (BJ hg q h1 S),fun q d=>?_⟩⟩
 ·refine⟨⟨((s R O).trans (BJ hg R m.row.lt (Ac m.row C.nodes.own (by decide)))).trans m.row.out⟩,m.len,m.le,m.small,fun j l=>?_⟩;obtain⟨b,E,e1,e2,e3,e4⟩:=m.cells j l;exact⟨b,E,e1,e2,(D.cell (p:=⟨b,E+j,T⟩) (show b<B from C.low.2 (by omega) _ e1)).trans e3,e4⟩
 ·rcases zM.1 hy with h|h
  ·exact C.good.1 y h
  ·rw[zO.1 h];exact hx
 ·exact D
 ·have e:g7=q:=by simpa[Value.ownBlock]using d
  subst e;exact hat.imp id (fun e=>by omega)
theorem Ac0 (n k:Nat)(h:k<n):n-(intOf (U V ((k:Int)+1))).toNat<n-(intOf (U V (k:Int))).toNat:=by
 simp[intOf];omega
set_option maxRecDepth 100000
set_option maxHeartbeats 6400000
theorem QY {R i:Nat}{a:Option jD}{c:Nat}{lt:jB}{s t:List jB}(D:Wn w B R i a n c zs p N L nd lt s t wild)(aE:N.length+1<=1000000)
  (x:Nd)(hx:ndG x)(b:Option jD)(d:Nat)(f:Option jD)(g:Nat)(hu:w.ownsRow B 9 1 (X b x.names.length d) x.names.length (x.names.map Value.string))(hk:w.ownsRow B 3 1 (X f x.kids.length g) x.kids.length (Aw x.kids))
  (P:∀j,(ao:j<s.length)->∀q,s[j].ownBlock=Y q->(Value.slice b x.names.length d).ownBlock≠Y q)(S:∀j,(ao:j<t.length)->∀q,t[j].ownBlock=Y q->(Value.slice f x.kids.length g).ownBlock≠Y q):
  Calls jL 111 #[jH (Y ⟨i,0,T⟩),jE #[U V x.op,U V x.num,Q x.text,X b x.names.length d,X f x.kids.length g]] w fun r w'=>r= .returned (U V (N.length:Int))/\∃W,Wn w' B R i a n c zs p (N++[x]) L W lt (s++[X b x.names.length d]) (t++[X f x.kids.length g]) wild/\Gk B R i lt nd w W w':=by
 have ap:=D.row.lt;have aa:B<=w.heap.size:=by have:=D.low.1.1;omega
 obtain⟨aq,ar,au,av,aw⟩:=info_parts Ym;have ab:=Ab (And.intro P S);have ax:=Ab hx;have v:=AN w (EV x.op x.num x.text b x.names.length d f x.kids.length g);have A:=Ah.new w #[U V x.op,U V x.num,Q x.text,X b x.names.length d,X f x.kids.length g] 134;have l:=D.below v;have E:Gk B R i lt nd w nd (w.alloc (EV x.op x.num x.text b x.names.length d f x.kids.length g)):=Gk.of_below v aa;have F:=Ad (w':=w.alloc (EV x.op x.num x.text b x.names.length d f x.kids.length g)) hu (fun q G=>v.block q (hu.lt q G).2);have H:=Ad (w':=w.alloc (EV x.op x.num x.text b x.names.length d f x.kids.length g)) hk (fun q G=>v.block q (hk.lt q G).2);have ac:w.heap.size<(w.alloc (EV x.op x.num x.text b x.names.length d f x.kids.length g)).heap.size:=by simp
 clear P S hu hk v hx;go_enter func111,ntmps111
 go_wp2_with fail
 generalize w.alloc (EV x.op x.num x.text b x.names.length d f x.kids.length g)=h at l E F H A ac|-;generalize w.heap.size=y at A ac ap aa|-;obtain⟨z,cn,m,-⟩:=Ae l.nodes.own;have I:=Ab m;have m:=Aa I;obtain⟨e0,e1,e2,e3,e4⟩:=DM A;have J:h.cell? ⟨i,1,T⟩=Y (nd):=l.row.cell 1;rw[m]at J;have ad:=l.row.frozen 1;have ae:=World.news_of_block (heap_alloc_new h (EV x.op x.num x.text b x.names.length d f x.kids.length g));have ay:h.drew.cell? ⟨i,1,T⟩=Y (X z (N).length cn)/\h.drew.frozen? ⟨i,1,T⟩=false:=⟨J,ad⟩
 have d1:h.drew.cell? ⟨y,0,T⟩=Y (U V x.op):=e0;have d2:h.drew.cell? ⟨y,1,T⟩=Y (U V x.num):=e1;have d3:h.drew.cell? ⟨y,2,T⟩=Y (Q x.text):=e2;have d4:h.drew.cell? ⟨y,3,T⟩=Y (X b x.names.length d):=e3;have d5:h.drew.cell? ⟨y,4,T⟩=Y (X f x.kids.length g):=e4;have af:(h.alloc (EV x.op x.num x.text b x.names.length d f x.kids.length g)).drew.ownsRow B 134 5 (X z (N).length cn) (N).length (XA (N) (s) (t)):=by
  have:=l.nodes.own;rw[m]at this;exact(World.ownsRow.alloc this _).drew
 have C:Ah (h.alloc (EV x.op x.num x.text b x.names.length d f x.kids.length g)).drew i #[jH (Y ⟨R,0,T⟩),nd,lt,.bool wild] 126:=⟨(l.row.alloc (EV x.op x.num x.text b x.names.length d f x.kids.length g)).out⟩
 have az:(h.alloc (EV x.op x.num x.text b x.names.length d f x.kids.length g)).drew.cell? ⟨i,1,T⟩=Y (X z (N).length cn):=by
  have:=C.cell 1;rw[m]at this;exact this
 have ag:(Value.slice z (N).length cn).ownBlock≠Y i:=by rw[<-m];exact Ac l.row l.nodes.own (by decide)
 have aA:B<=h.heap.size:=by have:=l.row.lt;have:=l.low.1.1;omega
 clear e0 e1 e2 e3 e4 J ad m;go_region_law (refine step_append_lies _ rfl _ _ 65 rfl B 134 aq (jE #[U V 0,U V 0,Q ByteArray.empty,X T 0 0,X T 0 0]) 5 80 underlying65 ar au av aw rfl (by decide) (X z (N).length cn) (N).length (XA (N) (s) (t)) rfl af ⟨h.heap.size,0,T⟩ 1 1 [U V x.op,U V x.num,Q x.text,X b x.names.length d,X f x.kids.length g] rfl rfl ae (by intro u hu;simp at hu;rcases hu with rfl|rfl|rfl|rfl|rfl<;>rfl) (by decide) (by unfold maxLen;omega) (by omega) (by simp;omega) _ rfl ?_;intro g7 c7 K ah o hat aB;have M:Ah K i #[jH (Y ⟨R,0,T⟩),nd,lt,.bool wild] 126:=⟨(o.block i C.lt (fun e=>ag e.symm)).trans C.out⟩;have ai:=M.cell 1;have aC:=M.frozen 1)
 all_goals
  have aj:(h.alloc (EV x.op x.num x.text b x.names.length d f x.kids.length g)).grownBy K (nd).ownBlock:=by rw[Aa I];exact⟨o.os,o.tape,o.output,o.size,o.block⟩
  obtain⟨O,ak⟩:=l.pushN (g7:=g7) (c7:=c7) (x:=x) (u:= X b x.names.length d) (k:= X f x.kids.length g) _ aA F H (Aa ab).1 (Aa ab).2 (Aa ax) aj ah (by rw[Aa I];exact hat.imp id (fun e=>by rw[e];show(h.alloc _).heap.size=_;simp));have al:=E.trans ak;clear ah o hat aB M C az ay d1 d2 d3 d4 d5 ae af aj ak;clear ai aC;generalize K.setCell ⟨i,1,T⟩ (X (Y ⟨g7,0,T⟩) ((N).length+1) c7)=aD at O al|-;clear ag A l E F H;have ai:aD.cell? ⟨i,1,T⟩=Y (X (Y ⟨g7,0,T⟩) ((N).length+1) c7):=O.row.cell 1;go_wp2
  go_ret
  exact⟨by simp,_,O,al⟩
def Ka (B R gb:Nat) (a:Option jD) (n c:Nat) (zs:List Int) (wild:Bool) (p:Nat) (N:List Nd) (L:List (ByteArray×Int)) (nd lt:jB) (w:Z):Prop:=
 ∃nv kv,Wn w B R gb a n c zs p N L nd lt nv kv wild
def ZC (B R gb:Nat) (a:Option jD) (n c:Nat) (zs:List Int) (wild:Bool) (N:List Nd) (top:Nat) (X:Nat->List Nd->Prop) (L:List (ByteArray×Int)) (nd lt:jB) (w:Z) (r:Ending) (w':Z):Prop:=
 ∃q N' nd',r= .returned (U V (Fn N'))/\Hid (X q N')/\N.length<=N'.length/\N'.length<=N.length+top/\Ka B R gb a n c zs wild q N' L nd' lt w'/\Gk B R gb lt nd w nd' w'
theorem ZC.to {R b:Nat}{a:Option jD}{c:Nat}{top d:Nat}{X Y:Nat->List Nd->Prop}{lt:jB}{f:Z}{r:Ending}{w':Z}(h:ZC B R b a n c zs wild N top X L nd lt f r w')(K:Gk B R b lt nd w nd f)(g:∀q M,X q M->Y q M)(m:top<=d):ZC B R b a n c zs wild N d Y L nd lt w r w':=by
 obtain⟨q,M,i,h1,j,k,o,h5,l⟩:=h;exact⟨q,M,i,h1,Ab (g q M (Aa j)),k,by omega,h5,K.trans l⟩
theorem Ka.below {B R b:Nat}{a:Option jD}{n c:Nat}{zs:List Int}{wild:Bool}{p:Nat}{N:List Nd}{L:List (ByteArray×Int)}{nd lt:jB}{w:Z}{w':Z}(h:Ka B R b a n c zs wild p N L nd lt w)(d:An w w'):Ka B R b a n c zs wild p N L nd lt w':=by
 obtain⟨f,g,C⟩:=h;exact⟨f,g,C.below d⟩
theorem Ka.touch {B R b:Nat}{a:Option jD}{n c:Nat}{zs:List Int}{wild:Bool}{p:Nat}{N:List Nd}{L:List (ByteArray×Int)}{nd lt:jB}{w:Z}{w':Z}{q:Nat}(h:Ka B R b a n c zs wild p N L nd lt w)(t:Al R (R+1) w w')(d:KL w' R a n c zs q):Ka B R b a n c zs wild q N L nd lt w':=by
 obtain⟨f,g,C⟩:=h;exact⟨f,g,C.touch t d⟩
theorem Ka.lt {B R b:Nat}{a:Option jD}{n c:Nat}{zs:List Int}{wild:Bool}{p:Nat}{N:List Nd}{L:List (ByteArray×Int)}{nd lt:jB}{w:Z}(h:Ka B R b a n c zs wild p N L nd lt w):(B<=w.heap.size/\b<w.heap.size/\R<w.heap.size)/\(B<=b/\B<=R)/\KL w R a n c zs p:=by
 obtain⟨g,i,C⟩:=h;have h1:=C.row.lt;have d:=C.rd.lt;have f:=C.low.1;exact⟨⟨by omega,h1,d⟩,f,C.rd⟩
theorem Ka.cells {R b:Nat}{a:Option jD}{c:Nat}{lt:jB}(h:Ka B R b a n c zs wild p N L nd lt w):∃d cn f cl,nd=X d N.length cn/\lt=X f L.length cl/\w.cell? ⟨b,0,T⟩=Y (jH (Y ⟨R,0,T⟩))/\w.cell? ⟨b,1,T⟩=Y nd/\w.cell? ⟨b,2,T⟩=Y lt/\w.cell? ⟨b,3,T⟩=Y (.bool wild):=by
 obtain⟨i,j,C⟩:=h;obtain⟨d,cn,h1,-⟩:=Ae C.nodes.own;obtain⟨f,cl,g,-⟩:=Ae C.lets;exact⟨d,cn,f,cl,h1,g,C.row.cell 0,C.row.cell 1,C.row.cell 2,C.row.cell 3⟩
theorem QZ (N:List Nd)(x:Nd):Fn (N++[x])=(N.length:Int):=by simp[Fn]
def Snc (p:Nat) (N:List Nd) (x:Nd) (q:Nat) (M:List Nd):Prop:=q=p/\M=N++[x]
theorem Ec {R d:Nat}{a:Option jD}{c:Nat}{lt:jB}(h:Ka B R d a n c zs wild p N L nd lt w)(hm:N.length+1<=1000000)(op num:Int)(b:ByteArray)(f:num<=9223372036854775807)(g:b.size<=1000000):
  Calls jL 111 #[jH (Y ⟨d,0,T⟩),jE #[U V op,U V num,Q b,X T 0 0,X T 0 0]] w (ZC B R d a n c zs wild N 1 (Snc p N ⟨op,num,b,[],[]⟩) L nd lt w):=by
 obtain⟨t,u,C⟩:=h;refine(QY C (by omega) ⟨op,num,b,[],[]⟩ ⟨⟨by simp,by simp,fun s hs=>by cases hs⟩,g,f,by simp,fun s hs=>(by cases hs),by simp⟩ T 0 T 0 (World.ownsRow_nil _ _ _ _) (World.ownsRow_nil _ _ _ _) (fun j i q k e=>by cases e) (fun j i q k e=>by cases e)).mono ?_;rintro r w' ⟨rfl,l,m,o⟩;exact⟨p,_,l,by rw[QZ],Ab ⟨rfl,rfl⟩,by simp,by simp,⟨_,_,m⟩,o⟩
theorem Ac1 {R f:Nat}{a:Option jD}{c:Nat}{lt:jB}{w0 w:Z}(h0:Ka B R f a n c zs wild p N L nd lt w0)(T:Al R (R+1) w0 w)(i:KL w R a n c zs q)(hm:N.length+1<=1000000)(K:List ByteArray)(x:Option jD)(cx:Nat)(b:DJ w w0.heap.size x K cx)(k:K.length<=64):
  Calls jL 111 #[jH (Y ⟨f,0,none⟩),jE #[U V 4,U V 0,Q ⟨#[]⟩,X x K.length cx,X none 0 0]] w (ZC B R f a n c zs wild N 1 (Snc q N ⟨4,0,⟨#[]⟩,K,[]⟩) L nd lt w):=by
 obtain⟨u,v,d⟩:=h0;have C:=d.touch T i;have l:B<=w0.heap.size:=by have:=d.row.lt;have:=d.low.1.1;omega
 refine(QY C (by omega) ⟨4,0,⟨#[]⟩,K,[]⟩ ⟨⟨by show K.length<=1048576;omega,by simp,fun s hs=>by have:=b.small s hs;unfold maxLen;omega⟩,by show(⟨#[]⟩:ByteArray).size<=1000000;decide,by show(0 :Int)<=9223372036854775807;decide,k,b.small,by simp⟩ x cx none 0 (Aj b.own l) (World.ownsRow_nil _ _ _ _) (fun j g q h e=>?_) (fun j g q h e=>by cases e)).mono ?_
 ·have h1:=(d.nodes.lts.2.1 j g q h).2;have y:=(b.own.lt q e).1;omega
 ·rintro r w' ⟨rfl,m,o,t⟩;exact⟨q,_,m,by rw[QZ],Ab ⟨rfl,rfl⟩,by simp,by simp,⟨_,_,o⟩,t⟩
theorem AaY (w:Z)(b:List Int)(a:Array jB)(n:Nat)(hv:a.toList=Aw b)(h:a.size=n)(hm:n<=maxLen):(w.alloc (.cells a 3)).ownsRow w.heap.size 3 1 (X (Y ⟨w.heap.size,0,T⟩) n n) n (Aw b):=by
 refine⟨by rw[<-hv];simp[h],.inr ⟨w.heap.size,n,a,rfl,NLN,heap_alloc_new w _,NLN,hm,by omega,?_⟩⟩;rw[Nat.mul_one,zf (by simp;omega),hv]
theorem AaZ {R l:Nat}{a:Option jD}{c:Nat}{lt:jB}(h:Ka B R l a n c zs wild p N L nd lt w)(hm:N.length+1<=1000000)(b:List Int)(d:Array jB)(j:Nat)(hv:d.toList=Aw b)(f:d.size=j)(A:j<=3)(op:Int)(g:Z)(m:Below (w.alloc (.cells d 3)).heap.size (w.alloc (.cells d 3)) g):
  Calls jL 111 #[jH (Y ⟨l,0,T⟩),jE #[U V op,U V 0,Q ⟨#[]⟩,X T 0 0,X (Y ⟨w.heap.size,0,T⟩) j j]] g (ZC B R l a n c zs wild N 1 (Snc p N (opN op b)) L nd lt g):=by
 obtain⟨D,E,i⟩:=h;have o:=AN w (.cells d 3);have C:=(i.below o).below m;have t:B<=w.heap.size:=by have:=i.row.lt;have:=i.low.1.1;omega
 have u:b.length=j:=by
  have:=congrArg List.length hv;simp[Aw]at this;omega
 subst u;have ok:=AaY w b d b.length hv f (by unfold maxLen;omega);have v:=Ad (w':=g) ok (fun q k=>m.block q (ok.lt q k).2);refine(QY C (by omega) ⟨op,0,⟨#[]⟩,[],b⟩ ⟨⟨by simp,by show b.length<=1048576;omega,fun s hs=>by cases hs⟩,by show(⟨#[]⟩:ByteArray).size<=1000000;decide,by show(0 :Int)<=9223372036854775807;decide,by simp,fun s hs=>(by cases hs),by show b.length<=3;omega⟩ T 0 (Y ⟨w.heap.size,0,T⟩) b.length (World.ownsRow_nil _ _ _ _) (Aj v t) (fun j f q k e=>by cases e) (fun j f q k e=>?_)).mono ?_
 ·have h1:w.heap.size=q:=by simpa[Value.ownBlock]using e
  have:=(i.nodes.lts.2.2 j f q k).2;omega
 ·rintro r w' ⟨rfl,x,y,z⟩;exact⟨p,_,x,by rw[QZ],Ab ⟨rfl,rfl⟩,by simp,by simp,⟨_,_,y⟩,z⟩
end Go.Proofs.YtppafecmccdplaaGreat
