import Derived.Test.YtppafecmccdplaaGreatBTC
import Derived.Test.YtppafecmccdplaaGreatMXAR
import Derived.Deep.DeepCutAuto
open Go.Proofs.Tryz
open Option renaming none->T,some->Y
open Go.Value renaming int->U,slice->X,string->Q,agg->jE,pointer->jH
open Go.IntKind renaming i64->V
open Go renaming World->Z,Value->jB,Addr->jD,TypeId->jI
open Bool renaming true->R,false->jA
open Go.Obj renaming cells->jC
open Go.Ending renaming returned->jF
open Go.Proofs.Tryz renaming prog->jL
namespace Go.Proofs.YtppafecmccdplaaGreat
open Go.RowKit
set_option linter.unusedVariables false
set_option maxRecDepth 100000
set_option maxHeartbeats 6400000
variable {tmps:Array jB}{st:Cs}{fc ft:Dm->Dm}{z:Ex}{j:Func}{t h1:Int}{k:K5}{l:List ByteArray}{Es:List Ex}{zs:List Int}{N:List Nd}{L:List St}{d:List jB}{b hi c hi':Nat}{x:Nd}{o:Obj}{a:Option jD}{s:St}{v lt f g i:jB}{wz:Z}
structure SV (w:Z) (B:Nat) (v:jB) (P:List Vl) (nv:List jB):Prop where
 len:nv.length=P.length
 own:w.ownsRow B 44 4 v P.length (Iz P nv)
 names:∀j,(h:j<P.length)->(h':j<nv.length)->w.ownsRow 0 9 1 nv[j] P[j].names.length (P[j].names.map Value.string)
 ok:∀x∈P,Ps x
theorem BU.plo {w:Z}{B:Nat}{P:List Vl}{a:List jB}(h:BU w B v P a)(ok:∀x∈P,Ps x):SV w B v P a:=⟨h.len,h.own,fun j h1 b=>Aj (h.names j h1 b) (zE _),ok⟩
theorem SV.low {w:Z}{B B':Nat}{P:List Vl}{a:List jB}(h:SV w B v P a)(b:B'<=B):SV w B' v P a:=⟨h.len,Aj h.own b,h.names,h.ok⟩
theorem Uh {w:Z}{B:Nat}{e:jI}{size n:Nat}{b:List jB}(h:w.ownsRow B e size v n b){q:Nat}(a:v.ownBlock=Y q):∃c,Ah w q c e:=by
 rcases h.2 with⟨hv,_⟩|⟨g,cap,d,hv,_,hg,_⟩
 ·rw[hv]at a;cases a
 ·rw[hv]at a;obtain rfl:g=q:=by simpa[Value.ownBlock]using a
  exact⟨d,⟨hg⟩⟩
theorem SV.keep {w w':Z}{B:Nat}{P:List Vl}{c:List jB}(h:SV w B v P c)(hk:∀q a t,Ah w q a t->t= 44\/t= 9->w'.heap[q]? =w.heap[q]?):SV w' B v P c:=
 ⟨h.len,Ad h.own (fun q b=>by obtain⟨a,r⟩:=Uh h.own b;exact hk q a _ r (.inl rfl)),fun j h1 d=>Ad (h.names j h1 d) (fun q b=>by obtain⟨a,r⟩:=Uh (h.names j h1 d) b;exact hk q a _ r (.inr rfl)),h.ok⟩
theorem SV.vls {w:Z}{lo n:Nat}{P:List Vl}(h:SV w lo (X a n c) P d)(l:P.length=n)(hk:n<=100000):Vls w a n c P:=by
 refine⟨l,by omega,fun x hx=>by have:=(h.ok x hx).1;omega,fun j b=>?_⟩;have k:j<d.length:=by rw[h.len];exact b
 obtain⟨c0,c1,c2,c3⟩:=PR P d j b k;obtain⟨g,o⟩:∃g,a=Y ⟨g,0,T⟩:=by
  rcases h.own.2 with⟨_,h0⟩|⟨g,cap,p,hv,_⟩
  ·omega
  ·simp only[Value.slice.injEq]at hv;exact⟨g,hv.1⟩
 subst o;subst l;have f:∀i,i<4->w.cell? ⟨g,0+j*4+i,T⟩=(Iz P d)[j*4+i]? :=fun i hi=>by
  rw[zP];exact h.own.cellAt (g:=g) (n:=P.length) (j*4+i) (by omega)
 obtain⟨an,cn,hu⟩:=Au (h.names j b k);have m:=h.names j b k;rw[hu]at c3 m;refine⟨g,0,rfl,(h.own.lt g rfl).2,an,_,cn,(f 0 (by omega)).trans c0,(f 1 (by omega)).trans c1,(f 2 (by omega)).trans c2,(f 3 (by omega)).trans c3,AJ.of_owns m ?_⟩;intro i hi;have hm:=(h.ok P[j] (zH b)).2.2 _ (zH hi);rw[BM _ i hi];unfold maxLen;omega
def AbU (M:Nat) (X:List Vl->Int->List Cg->Prop) (w:Z) (r:Ending) (w':Z):Prop:=
 ∃P s I x cx y cy nv,r=jF (jE #[.slice x P.length cx,U V s,.slice y I.length cy])/\Hid (X P s I)/\SV w' w.heap.size (.slice x P.length cx) P nv/\w'.ownsRow w.heap.size 49 2 (.slice y I.length cy) I.length (Cm I)/\P.length<=100000/\I.length<=M
theorem Ui {w:Z}{lo c:Nat}{x:Option jD}{I:List Cg}(h:w.ownsRow lo 49 2 (X x I.length c) I.length (Cm I))(hk:I.length<=100000):Iss w x I.length c I:=by
 refine⟨rfl,by omega,fun j a=>?_⟩;obtain⟨b,c',e,hx⟩:=Ae h;cases e;obtain⟨g,rfl,-,hc⟩:=hx (by omega);exact⟨g,0,rfl,(h.lt g rfl).2,by rw[zP];exact hc _ _ (Hm I j a).1,by rw[zP];exact hc _ _ (Hm I j a).2⟩
section
structure L5 (w w':Z) (tl th B b0 b1:Nat) (kN:Int) (P:List Vl) (I:List Cg) (pv iv:jB) (nv:List jB):Prop where
 row:Ah w' b1 #[pv,U V kN,iv] 26
 pool:SV w' B pv P nv
 ins:w'.ownsRow B 49 2 iv I.length (Cm I)
 out:Ah w' b0 #[X T 0 0,U V 0,X T 0 0] 26
 bel:Al tl th w w'
 lo:w.heap.size<=b0/\b0<B/\b0≠b1/\w.heap.size<=b1/\B<=w'.heap.size
section
variable {w w' W w7 : Z} {tl th B b0 b1 : Nat} {kN : Int} {P : List Vl} {I : List Cg} {pv iv : jB} {nv : List jB}
theorem L5.far (h:L5 w w' tl th B b0 b1 kN P I pv iv nv)(hv:∀q,v.ownBlock=Y q->B<=q)(K:GW (fun q=>q=b1\/v.ownBlock=Y q) w' W):Ah W b0 #[X T 0 0,U V 0,X T 0 0] 26/\Al tl th w W/\B<=W.heap.size:=by
 have a:=h.lo;have b:∀q,q<B->q≠b1->¬ (q=b1\/v.ownBlock=Y q):=fun q h1 d t=>by
  rcases t with t|t
  ·exact d t
  ·have:=hv q t;omega
 exact⟨⟨(K.block b0 h.out.lt (b b0 a.2.1 a.2.2.1)).trans h.out.out⟩,⟨K.os.trans h.bel.os,K.tape.trans h.bel.tape,K.output.trans h.bel.output,zC h.bel.size K.size,fun q c hd=>(K.block q (zR c h.bel.size) (b q (by omega) (by omega))).trans (h.bel.block q c hd)⟩,zC a.2.2.2.2 K.size⟩
theorem L5.pk (h:L5 w w' tl th B b0 b1 kN P I pv iv nv)(K:GW (fun q=>q=b1\/iv.ownBlock=Y q) w' W):SV W B pv P nv:=
 h.pool.keep fun q b t r a=>K.block q r.lt (fun e=>by
  rcases e with e|e
  ·exact Bk r h.row (by rcases a with rfl|rfl<;>decide) e
  ·exact Ac r h.ins (by rcases a with rfl|rfl<;>decide) e)
theorem L5.ik (h:L5 w w' tl th B b0 b1 kN P I pv iv nv)(K:GW (fun q=>q=b1\/pv.ownBlock=Y q) w' W):W.ownsRow B 49 2 iv I.length (Cm I):=
 Ad h.ins fun q a=>K.block q (h.ins.lt q a).2 (fun e=>by
  rcases e with e|e
  ·exact Ac h.row h.ins (by decide) (by rw[<-e];exact a)
  ·exact Ak h.pool.own h.ins (by decide) q e a)
theorem L5.below (h:L5 w w' tl th B b0 b1 kN P I pv iv nv)(a:An w' W):L5 w W tl th B b0 b1 kN P I pv iv nv:=by
 have b:=h.lo;obtain⟨f1,f2,c⟩:=h.far (fun q d=>(h.ins.lt q d).1) (GW.of_below a);exact⟨h.row.after a NLN,h.pk (GW.of_below a),h.ik (GW.of_below a),f1,f2,⟨b.1,b.2.1,b.2.2.1,b.2.2.2.1,c⟩⟩
theorem L5.app (h:L5 w w' tl th B b0 b1 kN P I pv iv nv)(op arg:Int){b:jB}(hg:(w'.alloc (jC #[U V op,U V arg] 49)).grownBy w7 iv.ownBlock)(g:w7.ownsRow B 49 2 b (I.length+1) (Cm I++[U V op,U V arg])):
  L5 w (w7.setCell ⟨b1,2,T⟩ b) tl th B b0 b1 kN P (I++[⟨op,arg⟩]) pv b nv/\Ah w7 b1 #[pv,U V kN,iv] 26/\Ah w7 b0 #[X T 0 0,U V 0,X T 0 0] 26:=by
 have c:=h.lo;have d:=AN w' (jC #[U V op,U V arg] 49);have i:GW (fun q=>q=b1\/iv.ownBlock=Y q) w' w7:=⟨hg.os,hg.tape,hg.output,zC d.size hg.size,fun k hk j=>(hg.block k (zR hk d.size) (fun e=>j (.inr e.symm))).trans (d.block k hk)⟩
 have f:=Cr (h.row.after d NLN) hg (fun e=>Ac h.row h.ins (by decide) e.symm);have K:=i.setCell (p:=⟨b1,2,T⟩) (fun _=> .inl rfl) b;obtain⟨f1,f2,l⟩:=h.far (fun q a=>(h.ins.lt q a).1) K;refine⟨⟨f.set 2 _,h.pk K,?_,f1,f2,⟨c.1,c.2.1,c.2.2.1,c.2.2.2.1,l⟩⟩,f,(h.far (fun q a=>(h.ins.lt q a).1) i).1⟩;rw[Nj,zB,zg];exact Ai g ⟨b1,2,T⟩ _ (fun q a e=>Ac f g (by decide) (by have e:q=b1:=e;rw[<-e];exact a))
theorem L5.fin {xp xi:Option jD}{cp ci:Nat}(h:L5 w W tl th B b0 b1 kN P I (.slice xp P.length cp) (.slice xi I.length ci) nv){X:List Vl->Int->List Cg->Prop}(c:X P kN I)(h1:P.length<=100000){M:Nat}(d:I.length<=M){a:Z}(f:a=((W.setCell ⟨b0,0,T⟩ (.slice xp P.length cp)).setCell ⟨b0,1,T⟩ (U V kN)).setCell ⟨b0,2,T⟩ (.slice xi I.length ci)):
  (a.cell? ⟨b0,0,T⟩=Y (.slice xp P.length cp)/\a.cell? ⟨b0,1,T⟩=Y (U V kN)/\a.cell? ⟨b0,2,T⟩=Y (.slice xi I.length ci))/\AbU M X w (jF (jE #[.slice xp P.length cp,U V kN,.slice xi I.length ci])) a/\Al tl th w a:=by
 subst f;have i:=h.lo;have K:GW (fun q=>q=b0) W (((W.setCell ⟨b0,0,T⟩ (.slice xp P.length cp)).setCell ⟨b0,1,T⟩ (U V kN)).setCell ⟨b0,2,T⟩ (.slice xi I.length ci)):=(((GW.refl (fun q=>q=b0) W).setCell (p:=⟨b0,0,T⟩) (fun _=>rfl) _).setCell (p:=⟨b0,1,T⟩) (fun _=>rfl) _).setCell (p:=⟨b0,2,T⟩) (fun _=>rfl) _;exact⟨Ao (((h.out.set 0 _).set 1 _).set 2 _),⟨P,kN,I,xp,cp,xi,ci,nv,rfl,Ab c,(h.pool.keep fun q j t r g=>K.block q r.lt (fun e=>Bk r h.out (by rcases g with rfl|rfl<;>decide) e)).low (by omega),Aj (Ad h.ins fun q b=>K.block q (h.ins.lt q b).2 (fun e=>Ac h.out h.ins (by decide) (by rw[<-e];exact b))) (by omega),h1,d⟩,⟨K.os.trans h.bel.os,K.tape.trans h.bel.tape,K.output.trans h.bel.output,zC h.bel.size K.size,fun q b hd=>(K.block q (zR b h.bel.size) (by omega)).trans (h.bel.block q b hd)⟩⟩
theorem Fa (T:Al 0 0 w W):An w W:=⟨T.os,T.tape,T.output,T.size,fun q a=>T.block q a (.inr (zE _))⟩
end
theorem Af3 (m:Nat)(hm:m<=200)(w:Z):Calls jL 25 #[U V m] w fun r w'=>AbU 90000 (fun P s I=>P=[]/\s=0/\I=List.replicate m ⟨2,4⟩++[⟨25,0⟩]) w r w'/\An w w':=by
 obtain⟨y,z,A,B,C⟩:=info_parts IZ;have D:L5 w ((w.alloc (jC #[.slice T 0 0,U V 0,.slice T 0 0] 26)).alloc (jC #[.slice T 0 0,U V 0,.slice T 0 0] 26)) 0 0 (w.heap.size+2) w.heap.size (w.heap.size+1) 0 [] [] (.slice T 0 0) (.slice T 0 0) []:=
  ⟨by simpa using Ah.new (w.alloc (jC #[.slice T 0 0,U V 0,.slice T 0 0] 26)) #[.slice T 0 0,U V 0,.slice T 0 0] 26,⟨rfl,World.ownsRow_nil _ _ _ _,fun j K=>absurd K (by simp),fun v hv=>absurd hv (by simp)⟩,World.ownsRow_nil _ _ _ _,(Ah.new w #[.slice T 0 0,U V 0,.slice T 0 0] 26).alloc _,Al.of_below ((AN w _).alloc (by simp) _) NLN,⟨NLN,by omega,by omega,by omega,by simp⟩⟩
 go_enter func25,ntmps25
 go_wp2_with fail
 go_loopw [4] (fun l wr=>∃ (i:Nat) (E:jB),i<=m/\l=U V i/\Hid (L5 w wr 0 0 (w.heap.size+2) w.heap.size (w.heap.size+1) 0 [] (List.replicate i ⟨2,4⟩) (.slice T 0 0) E [])) (fun l _=>m-(RowKit.intOf l).toNat)
 case atStart=>exact⟨0,_,by omega,rfl,Ab D⟩
 case round=>
  obtain⟨i,E,hi,rfl,F⟩:=hrel;have h:=Aa F;obtain⟨I,g⟩:∃I,I=List.replicate i (⟨2,4⟩:Cg):=⟨_,rfl⟩
  rw[<-g]at h;have W:I.length<=200:=by rw[g,List.length_replicate];omega
  have G:=Ab g;clear F g D;obtain⟨xi,ci,rfl,-⟩:=Ae h.ins;obtain⟨aa,ab,ac⟩:=Ao h.row;have ad:=h.lo.2.2.2.2;by_cases n:i<m
  ·have ae:(i:Int)<(m:Int):=by omega
   have H:=Ab n;clear n;go_wp2_with (at_builtin;refine wpList_append_lies _ rfl _ _ 24 rfl (w.heap.size+2) 49 y (jE #[U V 0,U V 0]) 2 16 underlying24 z A B C rfl (by decide) (.slice xi I.length ci) I.length (Cm I) rfl (World.ownsRow.alloc h.ins _) ⟨wr.heap.size,0,T⟩ 1 1 [U V 2,U V 4] rfl rfl (World.news_of_block (heap_alloc_new wr (jC #[U V 2,U V 4] 49))) ?c1 (by decide) ?d1 ?e1 ?f1 (wr.heap.size+1) (by simp) ?_)
   case c1=>first|exact⟨rfl,rfl⟩|(intro u hu;simp at hu;rcases hu with rfl|rfl<;>rfl)
   case d1=>unfold maxLen;omega
   case e1=>omega
   case f1=>first|omega|(simp;omega)
   intro g7 k J b c hat o;obtain⟨d,a,f⟩:=h.app 2 4 c b;have L:=fun j=>a.frozen j;have af:=a.cell 2;have N:=Ab d;clear b c hat o d a f h;go_wp2
   go_roundw
   case rel=>exact⟨i+1,_,Aa H,by go_num,Ab (by rw[List.replicate_succ',<-Aa G];exact Aa N)⟩
   case measure=>have:=Aa H;simp[RowKit.intOf];omega
  ·have e:i=m:=by omega
   subst e;clear n;go_wp2_with (at_builtin;refine wpList_append_lies _ rfl _ _ 24 rfl (w.heap.size+2) 49 y (jE #[U V 0,U V 0]) 2 16 underlying24 z A B C rfl (by decide) (.slice xi I.length ci) I.length (Cm I) rfl (World.ownsRow.alloc h.ins _) ⟨wr.heap.size,0,T⟩ 1 1 [U V 25,U V 0] rfl rfl (World.news_of_block (heap_alloc_new wr (jC #[U V 25,U V 0] 49))) ?c2 (by decide) ?d2 ?e2 ?f2 (wr.heap.size+1) (by simp) ?_)
   case c2=>first|exact⟨rfl,rfl⟩|(intro u hu;simp at hu;rcases hu with rfl|rfl<;>rfl)
   case d2=>unfold maxLen;omega
   case e2=>omega
   case f2=>first|omega|(simp;omega)
   intro g7 k J b c hat o;obtain⟨d,a,f⟩:=h.app 25 0 c b;have L:=fun j=>a.frozen j;have ag:=fun j=>f.frozen j;obtain⟨ah,d1,d2⟩:=Ao a;obtain⟨e0,e1,e2⟩:=Ao f;have O:=Ab d;clear b c hat o d a f h;go_wp2_with fail
   have p:(I++[(⟨25,0⟩:Cg)]).length=I.length+1:=by simp
   have S:L5 w (J.setCell ⟨w.heap.size+1,2,T⟩ (.slice (Y ⟨g7,0,T⟩) (I.length+1) k)) 0 0 (w.heap.size+2) w.heap.size (w.heap.size+1) 0 [] (I++[⟨25,0⟩]) (.slice T ([]:List Vl).length 0) (.slice (Y ⟨g7,0,T⟩) (I++[(⟨25,0⟩:Cg)]).length k) []:=by rw[p];exact Aa O
   obtain⟨⟨q,t,x⟩,a1,a2⟩:=S.fin (M:=90000) (X:=fun P s I=>P=[]/\s=0/\I=List.replicate i ⟨2,4⟩++[⟨25,0⟩]) ⟨rfl,rfl,by rw[<-Aa G]⟩ (zE _) (by rw[p];omega) rfl;dsimp only[List.length_nil]at q t x a1 a2;rw[p]at q t x a1 a2;exact bodyPost_ret (v:= jE #[.slice T 0 0,U V 0,.slice (Y ⟨g7,0,T⟩) (I.length+1) k]) (by simp[results,results25,go_sem,q,t,x]) rfl ⟨a1,Fa a2⟩
end
def Uj (v:Int) (at_ n:Nat) (i:Cg):Cg:=
 if v % 12=0\/v % 12=1 then ⟨wrap64 (1+(wrap64 (i.op+v / 12)).tmod 26),i.arg⟩
 else if v % 12=2 then ⟨i.op,wrap64 (i.arg+1)⟩
 else if v % 12=3 then ⟨i.op,at_⟩
 else if v % 12=4 then ⟨i.op,n⟩
 else if v % 12=9 then ⟨4,0⟩
 else if v % 12=10 then ⟨2,v / 12 % 7⟩
 else if v % 12=11 then ⟨22,at_+1+v / 12 % 3⟩
 else i
def JI (zs:List Int) (p:Nat) (P:List Vl) (s:Int) (I:List Cg):List Vl×Int×List Cg:=
 let v:=(nx zs p).1
 let at_:=((nx zs (nx zs p).2).1*3).toNat % I.length
 if I.length=0 then (P,s,I)
 else if v % 12=7 then (P,s,I.take (I.length-1))
 else ((if v % 12=8/\0<P.length then P.modify (at_ % P.length) fun x=>⟨wrap64 (1+x.kind.tmod 5),x.num,x.text,x.names⟩else P),
  (if v % 12=5 then v / 12-1 else s),
  (I.modify at_ (Uj v at_ I.length))++(if v % 12=6 then [⟨24,0⟩]else []))
set_option maxRecDepth 100000
set_option maxHeartbeats 3200000
def DpI (B R gb:Nat) (a:Option jD) (n c:Nat) (zs:List Int) (wild:Bool) (p:Nat) (N:List Nd) (L:List (ByteArray×Int)) (nd lt:jB) (t:Nat) (w:Z) (vx vi:jB) (wr:Z):Prop:=
 ∃ (j q:Nat) (M:List Nd) (nd':jB),1<=j/\j<=t/\vi=U V (j:Int)/\vx=U V (Fn M)/\Hid (DpX zs L j p N q M)/\N.length<=M.length/\M.length<=N.length+j/\Ka B R gb a n c zs wild q M L nd' lt wr/\Gk B R gb lt nd w nd' wr
theorem Ac6 {L:List (ByteArray×Int)}{j p q a:Nat}{M b:List Nd}(h1: 1<=j)(h:DpX zs L j p N q M)(hs:Snc q M (opN 9 [Fn M]) a b):DpX zs L (j+1) p N a b:=by
 obtain⟨rfl,rfl⟩:=hs;obtain⟨k,rfl⟩:∃k,j=k+1:=⟨j-1,by omega⟩
 exact⟨M,h,rfl⟩
theorem Ac7 {B R b:Nat}{n c:Nat}{wild:Bool}{p:Nat}{L:List (ByteArray×Int)}{nd:jB}{w:Z}(h:Ka B R b a n c zs wild p N L nd lt w)(hm:N.length+80<=1000000)(x:L.length<=100)(t:Nat)(y: 1<=t)(S:t<=70):
  Calls jL 67 #[jH (Y ⟨b,0,T⟩),U V (t:Int)] w (ZC B R b a n c zs wild N 70 (DpX zs L t p N) L nd lt w):=by
 go_enter func67,ntmps67
 go_wp2_with fail
 refine(Kb h (by omega) x 1 (by omega)).mono ?_;rintro r z ⟨A,k,C,rfl,D,a1,a2,l,m⟩;have o:=Ab (show DpI B R b a n c zs wild p N L nd lt t w (U V (Fn k)) (U V 1) z from⟨1,A,k,C,by omega,y,rfl,rfl,D,a1,a2,l,m⟩);clear l m a1 a2 h;dsimp only;go_wp2_with fail
 go_loopw [5,6] (fun E d wr=>DpI B R b a n c zs wild p N L nd lt t w E d wr) (fun _ d _=>t-(intOf d).toNat)
 case atStart=>exact Aa o
 case round=>
  clear o;obtain⟨j,F,f,G,H,W,rfl,rfl,q,b1,b2,S2,K2⟩:=hrel;by_cases g:j<t
  ·have I:(j:Int)<(t:Int):=by omega
   have J:=Ab (Ac0 t j g);go_wp2_with fail
   refine(PF S2 (by omega) [Fn f] _ 1 rfl rfl (by omega) 9).mono ?_;rintro r K ⟨M,s,O,rfl,P,b3,b4,u,v⟩;have i:=Ab (show DpI B R b a n c zs wild p N L nd lt t w (U V (Fn s)) (U V ((j:Int)+1)) K from⟨j+1,M,s,O,by omega,by omega,by rw[yC];rfl,rfl,Ab (Ac6 H (Aa q) (Aa P)),by omega,by omega,u,K2.trans v⟩);clear S2 K2 u v g;dsimp only;go_wp2_with fail
   exact⟨Aa i,Aa J⟩
  ·have I: ¬ ((j:Int)<(t:Int)):=by omega
   have i:=Ab (show ZC B R b a n c zs wild N 70 (DpX zs L t p N) L nd lt w (jF (U V (Fn f))) wr from⟨F,f,G,rfl,by rw[show t=j by omega];exact q,b1,by omega,S2,K2⟩);clear S2 K2 g;go_wp2
   go_ret
   exact Aa i
structure AhG (w:Z) (a:Option jD) (n c:Nat) (L:List Int):Prop where
 len:L.length=n
 cap:n<=c
 small:c<=maxLen
 cells:∀j,(h:j<L.length)->∃b off,a=Y ⟨b,off,T⟩/\b<w.heap.size/\w.cell? ⟨b,off+j,T⟩=Y (U V L[j])
def Aiv (w:Z) (b o:Nat) (x:Nd):Prop:=∃an nn cn ak nk ck,w.cell? ⟨b,o,T⟩=Y (U V x.op)/\w.cell? ⟨b,o+1,T⟩=Y (U V x.num)/\w.cell? ⟨b,o+2,T⟩=Y (Q x.text)/\w.cell? ⟨b,o+3,T⟩=Y (X an nn cn)/\w.cell? ⟨b,o+4,T⟩=Y (X ak nk ck)/\AJ w an nn cn x.names/\AhG w ak nk ck x.kids
theorem Vr {w:Z}{base:Nat}{e:jI}{size g n c:Nat}{b:List jB}(h:w.ownsRow base e size (X (Y ⟨g,0,T⟩) n c) n b):∃a,Ah w g a e/\a.size=c*size:=by
 rcases h.2 with⟨hv,_⟩|⟨f,cap,a,hv,h1,d,i,j,h5,k⟩
 ·cases hv
 ·cases hv;exact⟨a,⟨d⟩,h5⟩
def NdX (w:Z) (g:Nat) (cs:Array jB) (o:Nat) (x:Nd):Prop:=∃x1 nn x2 nk,cs[o]? =Y (U V x.op)/\cs[o+1]? =Y (U V x.num)/\cs[o+2]? =Y (Q x.text)/\cs[o+3]? =Y (X (Y x1) nn nn)/\cs[o+4]? =Y (X (Y x2) nk nk)/\AJ w (Y x1) nn nn x.names/\Em w (Y x2) nk nk x.kids/\(Wd w x1 nn 9/\Wd w x2 nk 3)/\g<x1.block/\g<x2.block
def Hi (w:Z) (g:Nat) (N:List Nd):Prop:=∃cs,(Ah w g cs 134/\cs.size=N.length*5)/\∀j,(hj:j<N.length)->NdX w g cs (j*5) N[j]
def rvX (D:List Dc) (x:Nd):Nd:=if x.op=5 then (match JR D x.text with
 |some d=>⟨if d.isLet then 7 else 6,d.num,⟨#[]⟩,[],[]⟩
 |none=>⟨6,0,⟨#[]⟩,[],[]⟩)else x
theorem AcD (h:l.length=0):l=[]:=zj h
def Aas (N:List Nd) (L:List St) (r:CkR):Prop:=
 (GJ N L=jA/\r= .error (10,0))\/(GJ N L=R/\∃Es:List Ex,Es.length=N.length/\(∀j,(h:j<Es.length)->Bu N j Es[j])/\r=match EW Es (JE,[],[]) L with
  |.error f=> .error f
  |.ok st=> .ok (N.map (rvX st.1),L,st.2.2))
theorem AcE {a:List Ex}(h1:Es.length=N.length)(p:a.length=N.length)(i:∀j,(h:j<Es.length)->Bu N j Es[j])(l:∀j,(h:j<a.length)->Bu N j a[j]):∀(L:List St) (st:Cs),EW Es st L=EW a st L:=by
 have m:∀(k:Int),(BV Es k=T/\BV a k=T)\/∃e f,BV Es k=Y e/\BV a k=Y f/\e.pos=f.pos/\∀b,BF b e=BF b f/\Ds b e=Ds b f:=fun k=>by
  unfold BV;by_cases hk:k= -1
  ·rw[if_pos hk,if_pos hk];exact .inl ⟨rfl,rfl⟩
  ·rw[if_neg hk,if_neg hk];by_cases q:k.toNat<N.length
   ·have l1:k.toNat<Es.length:=by omega
    have d:k.toNat<a.length:=by omega
    refine .inr ⟨_,_,zL l1,zL d,?_,fun b=>(i _ l1).ty_oneX (l _ d) b⟩;rw[(i _ l1).pos,(l _ d).pos]
   ·exact .inl ⟨yB (by omega),yB (by omega)⟩
 have n:∀st s,ER Es st s=ER a st s:=fun st s=>by
  have c:Ic Es st s=Ic a st s:=by
   simp only[Ic,OM];rcases m s.cond with⟨e1,e2⟩|⟨e,f,e1,e2,e3,e4⟩
   ·rw[e1,e2]
   ·rw[e1,e2];dsimp only;rw[e3,(e4 st.1).1,(e4 st.1).2]
  have g:∀st,DL Es st s=DL a st s:=fun st=>by
   simp only[DL,Il];rcases m s.grant with⟨e1,e2⟩|⟨e,f,e1,e2,e3,e4⟩
   ·rw[e1,e2]
   ·rw[e1,e2];dsimp only;rw[e3,(e4 st.1).1,(e4 st.1).2]
  rw[ER,ER,c]
  congr 1
  funext s1
  exact g s1
 intro L
 induction L with
 |nil=>intro st;rfl
 |cons s L o=>
  intro st;rw[EW,EW,n]
  congr 1
  funext s1
  exact o s1
theorem Aas.one {r q:CkR}(h:Aas N L r)(k:Aas N L q):r=q:=by
 rcases h with⟨h1,rfl⟩|⟨h1,Es,b,c,rfl⟩
 ·rcases k with⟨_,rfl⟩|⟨a,_⟩
  ·rfl
  ·rw[h1]at a;cases a
 ·rcases k with⟨a,_⟩|⟨_,g,d,f,rfl⟩
  ·rw[h1]at a;cases a
  ·rw[AcE b d c f]
theorem V1:∀{os:List Rc} {f:Nat} {K:List Int},Ea f os= .ok K->∀o∈os,∃t,o= .ok t
 |.error c ::_,f,K,h,o,ho=>by cases h
 |.ok t ::r,f,K,h,o,ho=>by
  obtain⟨a,h1,_⟩:=Ny h;rcases zT.1 ho with e|e
  ·exact⟨t,e⟩
  ·exact V1 h1 o e
theorem Zw {c:Nat}{e:Ex}{a:List Dc}(h:AcB Es c e)(b:BF a e= .ok t){j:Nat}(h1:c<=j)(d:j<c+e.cnt):∃t,Gi Es a j= .ok t:=by
 have hs:=h a;rw[Gp,b]at hs;exact V1 hs _ (zn.2 ⟨j,by rw[List.mem_range'_1];exact⟨h1,d⟩,rfl⟩)
theorem AcG {b:Cs}(h:Ic Es st s= .ok b):st.1<+:b.1/\∀(a:Nat) (e:Ex),s.cond=a->Es[a]? =Y e->∃t,BF st.1 e= .ok t:=by
 obtain⟨d,nm,cd,f⟩:=s;refine⟨?_,fun a e hc he=>?_⟩
 ·simp only[Ic,OM]at h;cases c:BV Es cd with
  |none=>rw[c]at h;cases h;exact List.prefix_refl _
  |some e=>
   rw[c]at h;simp only[FZ]at h;split at h
   ·obtain⟨t,_,_,rfl⟩:=Uw h;exact List.prefix_append _ _
   ·obtain⟨_,rfl⟩:=IL h;exact List.prefix_refl _
 ·dsimp only at hc;subst hc;rw[QF he]at h;unfold FZ at h;split at h
  ·obtain⟨t,h1,_,_⟩:=Uw h;exact⟨t,h1⟩
  ·exact⟨_,(IL h).1⟩
theorem AaO {b:Cs}(h:DL Es st s= .ok b):b.1=st.1/\∀(a:Nat) (e:Ex),s.grant=a->Es[a]? =Y e->∃t,BF st.1 e= .ok t:=by
 obtain⟨f,nm,cd,d⟩:=s;refine⟨?_,fun a e hc he=>?_⟩
 ·simp only[DL,Il]at h;cases c:BV Es d with
  |none=>rw[c]at h;cases h;rfl
  |some e=>
   rw[c]at h;obtain⟨_,rfl⟩:=IL h;rfl
 ·dsimp only at hc;subst hc;rw[IM he]at h;exact⟨_,(IL h).1⟩
theorem JW {Es:List Ex}{L:List St}(hs:LB Es L):∀k,k<=L.length->∀{st:Cs},EW Es (JE,[],[]) (L.take k)= .ok st->∀j,j<Dq Es (L.take k)->∃b t,b<+:st.1/\Gi Es b j= .ok t
 |0,_,st,h,j,hj=>by simp[Dq]at hj
 |k+1,hk,st,h,j,hj=>by
  have n:k<L.length:=by omega
  obtain⟨s1,s2⟩:=hs k n;have q:∀(A:List St) (s:St),Dq Es (A++[s])=Dq Es A+(Bq Es s.cond+Bq Es s.grant):=fun A s=>by simp[Dq]
  rw[zc n]at h hj;rw[NB]at h;rw[q]at hj;cases h0:EW Es (JE,[],[]) (L.take k)with
  |error f=>rw[h0]at h;cases h
  |ok st0=>
   rw[h0]at h
   change (Ic Es st0 L[k]).bind (fun s1=>DL Es s1 L[k])= .ok st at h
   cases h1:Ic Es st0 L[k]with
   |error f=>rw[h1]at h;cases h
   |ok o=>
    rw[h1]at h
    change DL Es o L[k]= .ok st at h
    obtain⟨p,c1⟩:=AcG h1;obtain⟨c,c2⟩:=AaO h;by_cases r:j<Dq Es (L.take k)
    ·obtain⟨b,t,u,a⟩:=JW hs k (by omega) h0 j r;exact⟨b,t,u.trans (by rw[c];exact p),a⟩
    ·by_cases d:j<Dq Es (L.take k)+Bq Es L[k].cond
     ·rcases s1 with e0|⟨g,e,e0,he,hc,i⟩
      ·rw[e0,show Bq Es (-1)=0 from rfl]at d;omega
      ·obtain⟨t,a⟩:=c1 g e e0 he;rw[e0,Jg rfl he]at d;obtain⟨l,m⟩:=Zw i a (j:=j) (by omega) d;exact⟨st0.1,l,by rw[c];exact p,m⟩
     ·rcases s2 with e0|⟨g,e,e0,he,hc,i⟩
      ·rw[e0,show Bq Es (-1)=0 from rfl]at hj;omega
      ·obtain⟨t,a⟩:=c2 g e e0 he;rw[e0,Jg rfl he]at hj;obtain⟨l,m⟩:=Zw i a (j:=j) (by omega) (by omega);exact⟨o.1,l,by rw[c];exact List.prefix_refl _,m⟩
theorem Yn (h:GJ N L=R)(c:Es.length=N.length)(b:∀j,(h:j<Es.length)->Bu N j Es[j])(hc:EW Es (JE,[],[]) L= .ok st){j:Nat}(hx:N[j]? =Y x)(m:x.op=5):(JR st.1 x.text).isSome:=by
 have k:j<N.length:=(zZ.1 hx).1;obtain⟨f,t,⟨E,l⟩,a⟩:=JW (Tu h c b) L.length NLN (by rw[yA];exact hc) j (by rw[yA,Nz h c b];exact k);have g:j<Es.length:=by omega
 rw[Gi,zL g]at a;have hi:=b j g;have e:Es[j]= .name j x.text:=by
  rcases hi.inv hx with⟨o,r⟩|⟨o,r⟩|⟨o,r⟩|⟨o,r⟩|⟨o,r⟩|⟨o,r⟩|⟨o,r⟩|⟨o,r⟩|⟨o,r⟩|⟨o,r⟩<;>first|omega|exact r
 rw[e]at a
 change cR (BF f (.name j x.text))= .ok t at a
 rw[BF]at a;cases i:JR f x.text with
 |none=>rw[i]at a;cases a
 |some d=>rw[<-l,Ku,i];rfl
noncomputable def PE (ns:List ByteArray) (x:Nd):Nd:=if x.op=5 then (if AD x.text Bm 0<0 then ⟨7,AD x.text ns 0,⟨#[]⟩,x.names,x.kids⟩else ⟨6,AD x.text Bm 0,⟨#[]⟩,x.names,x.kids⟩)else x
theorem Agg {ns:List ByteArray}{ts:List Int}(c:ns.length=ts.length)(b:Bo x=R)(hs:x.op=5->(JR (CJ ns ts) x.text).isSome):PE ns x=rvX (CJ ns ts) x:=by
 unfold PE rvX;by_cases a:x.op=5
 ·rw[if_pos a,if_pos a];rw[Bo,zD,zG]at b;obtain⟨h1,b⟩:=b;rw[if_neg (by omega),if_neg (by omega),if_neg (by omega),if_neg (by omega),if_pos a]at b;simp only[zD,zG]at b;have d:=AcD b.2;have hk:x.kids=[]:=by
   rw[a]at h1;have:Cz 5=0:=by decide
   rw[this]at h1;exact zj (by omega)
  rw[d,hk];have hs:=hs a;rw[CJ,Ku]at hs|-;rcases PC x.text with⟨e1,e2⟩|⟨j,_,e1,e2⟩
  ·rw[e1,if_pos (by decide),e2];rw[e2]at hs;rcases Qw x.text ns ts 0 c with⟨_,e3⟩|⟨j,t,e3,_,e4⟩
   ·rw[e3]at hs;cases hs
   ·have f:AD x.text ns 0=((0+j:Nat):Int):=e3;rw[f,e4];rfl
  ·rw[e1,if_neg (by omega),e2];rfl
 ·rw[if_neg a,if_neg a]
def NmS (w:Z) (a:Option jD) (N:List Nd):Prop:=∀j,j<N.length->∀b off,a=Y ⟨b,off,T⟩->∀an nn cn,w.cell? ⟨b,off+j*5+3,T⟩=Y (X an nn cn)->ZS w an cn
theorem Du.nms {w:Z}{lo n:Nat}{f i:List jB}(h:Du w lo (X a n c) N f i)(p:N.length=n):NmS w a N:=fun j d b q l an nn cn hc=>by
 have m:j<f.length:=by rw[h.len];exact d
 have r:j<i.length:=by rw[h.lenk];exact d
 have o:=YB N f i j d m r 3 (by decide);simp only[nd5,z4,z1]at o;have e0:q=0:=by
  rcases h.own.2 with⟨_,h0⟩|⟨g,cap,s,hv,_⟩
  ·omega
  ·simp only[Value.slice.injEq]at hv;rw[l]at hv;simp only[Option.some.injEq,Addr.mk.injEq]at hv;exact hv.1.2.1
 subst l e0 p;rw[zP,h.own.cellAt (g:=b) (n:=N.length) (j*5+3) (by omega),o]at hc;have k:=h.names j d m;obtain⟨x,cx,hu⟩:=Au k;rw[hu]at hc k;simp only[Option.some.injEq,Value.slice.injEq]at hc;rw[<-hc.1,<-hc.2.2];exact ZS.of_owns k
theorem YI {w:Z}{v:Vv}(h:Tq w v.ex k)(hi:∀n,v= .int n->FJ n):MVx w k.num k.text k.an k.nn k.cn v:=by
 cases v with
 |bool b=>exact⟨⟨h.2.1.trans (by cases b<;>rfl),h.2.2.1⟩,h.2.2.2.2.1,h.2.2.2.2.2⟩
 |int n=>exact⟨⟨⟨h.2.1,hi n rfl⟩,h.2.2.1⟩,h.2.2.2.2.1,h.2.2.2.2.2⟩
 |text s=>exact⟨⟨h.2.1,h.2.2.1⟩,h.2.2.2.2.1,h.2.2.2.2.2⟩
 |set ss=>exact⟨⟨h.2.1,h.2.2.1⟩,h.2.2.2.2.1,h.2.2.2.2.2⟩
theorem Afq (i op:Int){w:Z}{a:Ex}{v:Vv}{b:K5}{ka:Option jD}{kc:Nat}(c:nz (Ca op [v.ty])=Y t)(h0:Tq w a b)(d:a.cv=Y v)(hi:∀n,v= .int n->FJ n)(f:AO w ka [b]):
  Calls jL 100 #[U V op,X ka 1 kc] w (PrA (AP (.un i op a)) w):=by
 have e:AP (.un i op a)=evX (KV op v):=by rw[Afp i op d];cases KV op v<;>rfl
 rw[e];have h:=Ft c;refine RL op (by omega) [b] 1 rfl NLN (by decide) f _ (fun u hu=>?_) (fun j g cap B O=>?_)
 ·rw[Zj c u hu];rcases h with⟨rfl,_,rfl⟩|⟨rfl,_,rfl⟩|⟨rfl,_,rfl⟩<;>simp
 ·exact WY op v t c b.num b.text b.an b.nn b.cn g 0 cap j ((YI (Pm d h0) hi).below B NLN) (O.cellAt 0 (by decide)) (O.cellAt 1 (by decide)) (O.cellAt 2 (by decide)) (O.cellAt 3 (by decide)) (O.lt g rfl).2
theorem Afr (i op:Int){w:Z}{a b:Ex}{v u:Vv}{c d:K5}{ka:Option jD}{kc:Nat}(f:nz (Ca op [v.ty,u.ty])=Y t)(h0:Tq w a c)(h1:Tq w b d)(h:a.cv=Y v)(j:b.cv=Y u)(hi:∀n,v= .int n->FJ n)(m:∀n,u= .int n->FJ n)(k:AO w ka [c,d]):
  Calls jL 100 #[U V op,X ka 2 kc] w (PrA (AP (.bin i op a b)) w):=by
 have r:=EP f;by_cases hc:op=25\/op=26
 ·have l:v.ty=1/\u.ty=1:=by omega
  obtain⟨x,rfl⟩:=Vv.bool_of l.1;obtain⟨y,rfl⟩:=Vv.bool_of l.2;exact Abb op hc i h0 h1 h j k
 ·have hd:SE op v=jA:=by
   cases v with
   |bool x=>cases x<;>simp[SE]<;>(intro q;omega)
   |_=>rfl
  have e:AP (.bin i op a b)=evX (Eu op v u):=by
   rw[WT i op h j,if_neg (by rw[hd];decide),if_neg hc];cases Eu op v u<;>rfl
  rw[e];refine RL op (by omega) [c,d] 2 rfl (by decide) NLN k _ (fun z o=>?_) (fun p g cap B O=>?_)
  ·rw[Vz f (by omega) z o];split
   ·omega
   ·split<;>omega
  ·exact WZ op v u t f (by omega) c.num c.text c.an c.nn c.cn d.num d.text d.an d.nn d.cn g 0 cap p ((YI (Pm h h0) hi).below B NLN) ((YI (Pm j h1) m).below B NLN) (O.cellAt 0 (by decide)) (O.cellAt 1 (by decide)) (O.cellAt 2 (by decide)) (O.cellAt 3 (by decide)) (O.cellAt 4 (by decide)) (O.cellAt 5 (by decide)) (O.cellAt 6 (by decide)) (O.cellAt 7 (by decide)) (O.lt g rfl).2
set_option maxHeartbeats 1600000
def RwA (z:Ex) (w:Z) (r:Ending) (w':Z):Prop:=
 (∃k:K5,r=jF (jE #[U V k.op,U V k.num,Q k.text,X k.an k.nn k.cn,X k.ka k.kn k.kc])/\Tq w' z k)/\An w w'
def LtQ (w:Z) (la:Option jD) (ls:List Ex):Prop:=∃vs:List K5,vs.length=ls.length/\AO w la vs/\∀j,(h1:j<ls.length)->(h2:j<vs.length)->Tq w ls[j] vs[j]
theorem LtQ.below {w w':Z}{B:Nat}{c:Option jD}{ls:List Ex}(h:LtQ w c ls)(d:Below B w w')(f:w.heap.size<=B):LtQ w' c ls:=by
 obtain⟨g,h1,i,k⟩:=h;exact⟨g,h1,i.below d f,fun j a b=>(k j a b).below d f⟩
theorem Gj {a:Tmp}(h:j.results= #[.cell a 101]){w:Z}{c:jB}(k:tmps.getD a undef=jH (Y ⟨b,0,T⟩))
  (R:Ah w b #[c,lt,f,g,i] 101):(results j tmps).run jL w= .ok (jE #[c,lt,f,g,i]) w:=by
 rw[yH]at k;have l:w.cell? ⟨b,0,T⟩=Y c:=R.cell 0;have m:w.cell? ⟨b,1,T⟩=Y lt:=R.cell 1;have n:w.cell? ⟨b,2,T⟩=Y f:=R.cell 2;have o:w.cell? ⟨b,3,T⟩=Y g:=R.cell 3;have p:w.cell? ⟨b,4,T⟩=Y i:=R.cell 4;simp[results,h,k,go_sem,l,m,n,o,p]
def Afs (k:K5):Array jB:=#[U V k.op,U V k.num,Q k.text,X k.an k.nn k.cn,X k.ka k.kn k.kc]
theorem IV {w:Z}{e:Ex}(c:Option jD)(d f:Nat)(he:Tq w e k)(hk:k.kn=0)(a:k.op≠7):
  Calls jL 73 #[jE #[U V k.op,U V k.num,Q k.text,X k.an k.nn k.cn,X k.ka k.kn k.kc],X c d f] w (RwA e w):=by
 have i:(k.op==7)=jA:=zA.2 a;have j:((k.kn:Int)==0)=R:=by rw[hk];rfl
 have b:=Ab ((AN w (jC (Afs k) 101)).alloc (by simp) (jC (Afs k) 101));have g:=Ab (he.below (Aa b) NLN);have h:=Ab (Ah.new (w.alloc (jC (Afs k) 101)) (Afs k) 101);clear he hk a;go_enter func73,ntmps73
 go_wp2
 exact bodyPost_ret (Gj results73 (by simp) (Aa h)) rfl ⟨⟨k,rfl,Aa g⟩,Aa b⟩
theorem Aft {w:Z}{i n:Int}{I:Option jD}{y:Nat}{ls:List Ex}(he:Tq w (.lett i n) k)(ab:LtQ w I ls)(ac:y=ls.length)(ad:y<=hi)(ae: 0<=n/\n<ls.length)(K:∀z∈ls,Bi z=R):
  Calls jL 73 #[jE #[U V k.op,U V k.num,Q k.text,X k.an k.nn k.cn,X k.ka k.kn k.kc],X I y hi] w (RwA (AX ls (.lett i n)) w):=by
 subst ac;obtain⟨m,rfl⟩:∃m:Nat,n=m:=⟨n.toNat,by omega⟩
 have hm:m<ls.length:=by omega
 obtain⟨L,af,M,N⟩:=ab;have E:m<L.length:=by omega
 have e1:k.op=7:=he.1;have e2:k.num=m:=he.2.1;have e3:k.kn=0:=he.2.2.2.1;obtain⟨aj,ak,o,q,s,t,u,al,v⟩:=k;dsimp only at e1 e2 e3;subst e1 e2 e3;obtain⟨g,a,rfl,hg,hc⟩:=Bp M (by omega);have O:=hc m E;have x:=N m hm E;have F:=K _ (zH hm);have f:AX ls (.lett i m)=if ls[m].con then ls[m]else .lett i m:=by
  simp only[AX,Ie,AP,Ex.kids,List.isEmpty_nil,if_true,AV,zb,zL hm];cases ls[m].con<;>rfl
 rw[f];generalize ls[m]=z at x F f|-;generalize L[m]=l at x O;obtain⟨A,a1,a2,a3,a4⟩:=O;have ag:(m:Int)<(ls.length:Int):=by omega
 generalize ls.length=y at ag ad|-;have c:=((AN w (Bs 7 m o q s t u 0 v)).alloc (by simp) Gm)
 have b:=Ah.new (w.alloc (Bs 7 m o q s t u 0 v)) #[U V 0,U V 0,Q ⟨#[]⟩,X T 0 0,X T 0 0] 101;have h:=(Ah.new w #[U V 7,U V m,Q o,X q s t,X u 0 v] 101).alloc Gm;replace A:=(c.cell (p:=⟨g,a+m*5,T⟩) hg).trans A;replace a1:=(c.cell (p:=⟨g,a+m*5+1,T⟩) hg).trans a1;replace a2:=(c.cell (p:=⟨g,a+m*5+2,T⟩) hg).trans a2;replace a3:=(c.cell (p:=⟨g,a+m*5+3,T⟩) hg).trans a3;replace a4:=(c.cell (p:=⟨g,a+m*5+4,T⟩) hg).trans a4;have P:=Ab (DX (x.below c NLN) F);have ah:=Ab he;have ai:=Ab x;clear he x hc N M K f af hm E ae F;have G:=Ab c;have S:=Ab b;have W:=Ab h;have j:g<((w.alloc (Bs 7 m o q s t u 0 v)).alloc Gm).heap.size:=by simp;omega
 clear c b h;generalize f:(if z.con then z else .lett i (m:Int))=aa;have B:=Ab f;clear f;go_enter func73,ntmps73
 go_wp2_with fail
 refine(Aa P).mono ?_;rintro r ao ⟨rfl,b2⟩;have C:=(Aa G).trans (b2.mono (Aa G).size);have b:=(Aa S).after b2 NLN;have h:=(Aa W).after b2 NLN;replace A:=(b2.cell (p:=⟨g,a+m*5,T⟩) j).trans A;replace a1:=(b2.cell (p:=⟨g,a+m*5+1,T⟩) j).trans a1;replace a2:=(b2.cell (p:=⟨g,a+m*5+2,T⟩) j).trans a2;replace a3:=(b2.cell (p:=⟨g,a+m*5+3,T⟩) j).trans a3;replace a4:=(b2.cell (p:=⟨g,a+m*5+4,T⟩) j).trans a4;simp only[World.size_alloc]at b;clear P G S W b2 j;dsimp only;obtain⟨ap,aq,ar,au,av,-⟩:=Aq h;obtain⟨aw,ax,ay,az,aA,-⟩:=Aq b;obtain⟨aB,f1,f2,aC,aD⟩:=Fl b;cases D:z.con with
 |false=>
  have d:=Ab (RH ⟨7,m,o,q,s,t,u,0,v⟩ C b (zh _));have H:=Ab (show aa= .lett i m by rw[<-Aa B,D];rfl);clear C b h D B;go_wp2
  exact bodyPost_ret (Gj results73 rfl (Aa d).2) rfl (by rw[Aa H];exact⟨⟨_,rfl,(Aa ah).below (Aa d).1 NLN⟩,(Aa d).1⟩)
 |true=>
  have d:=Ab (RH l C b (zh _));have H:=Ab (show aa=z by rw[<-Aa B,D];rfl);clear C b h D B;go_wp2
  exact bodyPost_ret (Gj results73 rfl (Aa d).2) rfl (by rw[Aa H];exact⟨⟨_,rfl,(Aa ai).below (Aa d).1 NLN⟩,(Aa d).1⟩)
theorem RM {e c:Ex}(h:AP e=Y c):c.kids=[]:=by
 unfold AP at h;split at h
 ·cases h
 ·split at h
  ·split at h
   ·cases h;rename_i v _;cases v<;>rfl
   ·cases h
  ·cases h
theorem Xa {P:Program}{ops:Array Oper}{o:Oper}{a:Act}{w:Z}{K:Act->Z->Prop}{Q:Exit->Act->Z->Prop}{E:Prop}(j:o.guard=T)(f:FuncId)(b:Func)(k:P.funcs[f]? =Y b)(l:(b.name== "runtime.NumGoroutine")=jA)(i:b.body.isNone=jA)(x y z:Operand)(m:Array jI)
  (n:o.op= .call { callee:= .value (.func f),args:=#[x,y,z],argTypes:=m })(c d g:jB)(hx:a.eval x=c)(hy:a.eval y=d)(p:a.eval z=g)
  (R:jB->Z->Prop)(hc:Calls P f #[c,d,g] w fun e w'=>∃v,e=jF v/\R v w')(h:∀v w',R v w'->K (a.put o.dst v) w'):
  if Region.wanted o (yielded ops a.tmps)=true then Oper.wp P o a w K Q else E:=by
 have q:Region.wanted o (yielded ops a.tmps)=true:=by simp[Region.wanted,j]
 rw[if_pos q];unfold Oper.wp;have r:(execOp a.eval o).run P w= .ok (.enter f #[c,d,g]) w:=by
  subst hx hy p;have h1:b.name≠ "runtime.NumGoroutine" :=by simpa using l
  have s:(callFunc f #[a.eval x,a.eval y,a.eval z]).run P w= .ok (.enter f #[a.eval x,a.eval y,a.eval z]) w:=by
   have t:b.body≠T:=fun e=>by rw[e]at i;cases i
   simp[callFunc,k,h1,t]
  simpa[execOp,n,resolve,invoke,Act.eval,Result.andThen,go_sem]using s
 rw[r,Oper.upon_enter];refine hc.mono ?_;rintro e w' ⟨v,rfl,u⟩;exact h v w' u
theorem Tt.kid {w0:Z}{B:Nat}{c:jB}{a:List K5}{w:Z}(h:Tt w0 B c a Es w)(j:Nat)(h1:j<a.length)(d:j<Es.length):Py w0 B w.heap.size w a[j] Es[j]:=by
 obtain⟨l,i,a1,a2,a3,a4⟩:=h.each j h1 d;exact a4.mono (fun b f=>by omega)
theorem Cp.trans {w0 w a w2:Z}{lo hi:Nat}(h:Cp w0 lo hi w a)(k:Cp w0 lo hi a w2):Cp w0 lo hi w w2:=
 ⟨zC h.1 k.1,fun b c hs=>(k.2.1 b c (zR hs h.1)).trans (h.2.1 b c hs),fun b d r=>k.2.2 b d (h.2.2 b d r)⟩
theorem Cp.zW {w0 d:Z}{lo hi a:Nat}{f:Array jB}(R:Ah d a f 101)(h0:w0.heap.size<=a)(h1:a<lo\/hi<=a)(m:K5):Cp w0 lo hi d (zW d a m):=by
 have o:∀(w:Z) (j:Nat) (u:jB) (q:Nat),q≠a->(w.setCell ⟨a,j,T⟩ u).heap[q]? =w.heap[q]? :=fun w j u q h=>heap_setCell_other w ⟨a,j,T⟩ q u h;refine⟨by simp[Go.Proofs.YtppafecmccdplaaGreat.zW],fun b n _=>?_,?_⟩
 ·have g:b≠a:=by omega
  simp only[Go.Proofs.YtppafecmccdplaaGreat.zW,o _ _ _ _ g]
 ·have i:=CW.set R (by decide) 0 (U V m.op);have s1:=CW.set (R.set 0 (U V m.op)) (by decide) 1 (U V m.num);have s2:=CW.set ((R.set 0 (U V m.op)).set 1 (U V m.num)) (by decide) 2 (Q m.text);have k:=CW.set (((R.set 0 (U V m.op)).set 1 (U V m.num)).set 2 (Q m.text)) (by decide) 3 (X m.an m.nn m.cn);have l:=CW.set ((((R.set 0 (U V m.op)).set 1 (U V m.num)).set 2 (Q m.text)).set 3 (X m.an m.nn m.cn)) (by decide) 4 (X m.ka m.kn m.kc);exact fun b c r=>l b c (k b c (s2 b c (s1 b c (i b c r))))
theorem Ef {w0 w a:Z}{d B:Nat}{c:K5}{g i j k:jB}(o:w0.heap.size<=w.heap.size)(l:An w a)(f:Ah a d #[g,lt,i,j,k] 101)(h1:w.heap.size<=d)(m:d<B)(n:Py w0 B a.heap.size a c z):
  An w (zW a d c)/\Ah (zW a d c) d #[U V c.op,U V c.num,Q c.text,X c.an c.nn c.cn,X c.ka c.kn c.kc] 101/\Py w0 w.heap.size (zW a d c).heap.size (zW a d c) c z:=by
 have e:=RH c l f h1;have zs:(zW a d c).heap.size=a.heap.size:=by simp[zW]
 exact⟨e.1,e.2,(n.keep (Cp.zW f (by omega) (.inl m) c)).mono (fun b p=>by rw[zs];omega)⟩
def RwC (wz:Z):Prop:=∀(ls:List Ex) (ts:List Int),Ki ts ls->ls.length=ts.length->(∀c∈ls,Ix c)->(∀c∈ls,Bi c=R)->∀(la:Option jD) (lc:Nat),ls.length<=lc->∀(e:Ex) (t:Int) (k:K5) (w:Z),AE ts e=Y t->Ix e->wz.heap.size<=w.heap.size->Tq w e k->LtQ w la ls->
  Calls jL 73 #[jE #[U V k.op,U V k.num,Q k.text,X k.an k.nn k.cn,X k.ka k.kn k.kc],X la ls.length lc] w (XB wz (AX ls e) w)
structure S5 where
 kind:Int
 name:ByteArray
 n:Int
 ca:Option jD
 cn:Nat
 cc:Nat
 ga:Option jD
 gn:Nat
 gc:Nat
def S5.cs (s:S5):List jB:= [U V s.kind,Q s.name,U V s.n,X s.ca s.cn s.cc,X s.ga s.gn s.gc]
theorem Py.monoI {lo lo':Nat}{w:Z}{e:Ex}(h:Py wz lo hi w k e)(h1:lo'<=lo)(a:hi<=hi'):Py wz lo' hi' w k e:=Tl.mono (fun b c=>by omega) h
def LV (wz:Z) (lo hi:Nat) (w:Z) (o:Option Ex) (a:Option jD) (n:Nat):Prop:=match o with
 |none=>n=0
 |some e=>n=1/\(∀b o,a=Y ⟨b,o,T⟩->b<wz.heap.size\/(lo<=b/\b<hi))/\∃k,AO w a [k]/\Py wz lo hi w k e
theorem LV.keep {wz:Z}{lo hi:Nat}{w w':Z}{o:Option Ex}{a:Option jD}{n:Nat}(h:LV wz lo hi w o a n)(hk:Cp wz lo hi w w'):LV wz lo hi w' o a n:=by
 cases o with
 |none=>exact h
 |some e=>
  obtain⟨h1,c,k,d,f⟩:=h;exact⟨h1,c,k,Gw hk.1 d (fun b o e g=>hk.2.1 b (c b o e) g),f.keep hk⟩
theorem LV.mono {lo lo':Nat}{w:Z}{o:Option Ex}{n:Nat}(h:LV wz lo hi w o a n)(c:lo'<=lo)(d:hi<=hi'):LV wz lo' hi' w o a n:=by
 cases o with
 |none=>exact h
 |some e=>
  obtain⟨h1,f,k,g,i⟩:=h;exact⟨h1,fun b o e=>by have:=f b o e;omega,k,g,i.monoI c d⟩
def StQ (wz:Z) (lo hi:Nat) (w:Z) (s:S5) (q:Sx×Int):Prop:=s.kind=q.1.kind/\s.name=q.1.name/\s.n=q.2/\LV wz lo hi w q.1.cond s.ca s.cn/\LV wz lo hi w q.1.grant s.ga s.gn
theorem StQ.keep {wz:Z}{lo hi:Nat}{w w':Z}{s:S5}{q:Sx×Int}(h:StQ wz lo hi w s q)(hk:Cp wz lo hi w w'):StQ wz lo hi w' s q:=
 ⟨h.1,h.2.1,h.2.2.1,h.2.2.2.1.keep hk,h.2.2.2.2.keep hk⟩
def Iv (B:Nat) (lv ov:jB) (w:Z) (lo hi:Nat):Prop:=B<=lo/\hi<=w.heap.size/\(∀q,lv.ownBlock=Y q->q<lo\/hi<=q)/\∀q,ov.ownBlock=Y q->q<lo\/hi<=q
structure Su (wz:Z) (B:Nat) (lv ov:jB) (vs:List K5) (ls:List Ex) (ss:List S5) (D:List (Sx×Int)) (w:Z):Prop where
 lets:w.ownsRow B 101 5 lv vs.length (vs.flatMap K5.cs)
 out:w.ownsRow B 99 5 ov ss.length (ss.flatMap S5.cs)
 lenL:ls.length=vs.length
 lenD:D.length=ss.length
 eachL:∀j,(h1:j<vs.length)->(h2:j<ls.length)->∃lo hi,Iv B lv ov w lo hi/\Py wz lo hi w vs[j] ls[j]
 eachD:∀j,(h1:j<ss.length)->(h2:j<D.length)->∃lo hi,Iv B lv ov w lo hi/\StQ wz lo hi w ss[j] D[j]
theorem Su.nil (wz:Z)(B:Nat)(w:Z):Su wz B (X T 0 0) (X T 0 0) [] [] [] [] w:=
 ⟨World.ownsRow_nil _ _ _ _,World.ownsRow_nil _ _ _ _,rfl,rfl,fun j h=>absurd h (by simp),fun j h=>absurd h (by simp)⟩
theorem Iv.below {B:Nat}{a:jB}{w w':Z}{lo hi:Nat}(h:Iv B v a w lo hi)(b:w.heap.size<=w'.heap.size):Iv B v a w' lo hi:=⟨h.1,zC h.2.1 b,h.2.2.1,h.2.2.2⟩
theorem Su.below {wz:Z}{B:Nat}{lv c:jB}{d:List K5}{ls:List Ex}{ss:List S5}{f:List (Sx×Int)}{w w':Z}(h:Su wz B lv c d ls ss f w)(a:An w w'):Su wz B lv c d ls ss f w':=
 ⟨Af h.lets a NLN,Af h.out a NLN,h.lenL,h.lenD,fun j h1 b=>by
  obtain⟨lo,hi,a1,a2⟩:=h.eachL j h1 b;exact⟨lo,hi,a1.below a.size,a2.keep (Cp.of_below a)⟩,fun j h1 b=>by
  obtain⟨lo,hi,a1,a2⟩:=h.eachD j h1 b;exact⟨lo,hi,a1.below a.size,a2.keep (Cp.of_below a)⟩⟩
theorem Su.ltq {B:Nat}{b:Option jD}{c f:Nat}{g:jB}{a:List K5}{ls:List Ex}{ss:List S5}{i:List (Sx×Int)}{w:Z}(h:Su wz B (X b c f) g a ls ss i w)(d:a.length=c):LtQ w b ls:=
 ⟨a,h.lenL.symm,Et (by have:=h.lets;rw[d]at this;exact this) d,fun j h1 k=>by
  obtain⟨lo,hi,_,a2⟩:=h.eachL j k h1;exact Tl.tq a2⟩
theorem Su.pushL {B:Nat}{lv:jB}{a:List K5}{ls:List Ex}{ss:List S5}{t:List (Sx×Int)}{w c:Z}{g cap lo hi:Nat}{e:Ex}(h:Su wz B lv lt a ls ss t w)(G:wz.heap.size<=B)(u:Iv B lv lt w lo hi)(hs:Py wz lo hi w k e)
  (z:c.ownsRow B 101 5 (X (Y ⟨g,0,T⟩) (a.length+1) cap) (a.length+1) (a.flatMap K5.cs++k.cs))(p:(w.alloc o).grownBy c lv.ownBlock)(hat:lv.ownBlock=Y g\/g=w.heap.size+1):
  Su wz B (X (Y ⟨g,0,T⟩) (a.length+1) cap) lt (a++[k]) (ls++[e]) ss t c/\(∀lo hi,Iv B lv lt w lo hi->Cp wz lo hi w c):=by
 have A:(w.alloc o).heap.size=w.heap.size+1:=by simp
 have v:w.heap.size<=c.heap.size:=by have:=p.size;omega
 have x:∀q,q<w.heap.size->lv.ownBlock≠Y q->c.heap[q]? =w.heap[q]? :=fun q h1 f=>(p.block q (by rw[A];omega) (fun e=>f e.symm)).trans (Below.heap_alloc w o q h1);have C:CW w c:=fun b H r=>(r.alloc o).grown p (fun e=>Ac r h.lets (by decide) e.symm);have m:∀lo hi,Iv B lv lt w lo hi->Cp wz lo hi w c:=fun lo hi q=>⟨v,fun b I D=>x b D (fun e=>by have:=(h.lets.lt b e).1;have:=q.2.2.1 b e;omega),C⟩
 have s:∀lo hi,Iv B lv lt w lo hi->Iv B (X (Y ⟨g,0,T⟩) (a.length+1) cap) lt c lo hi:=fun lo hi q=>⟨q.1,zC q.2.1 v,fun b E=>by
  have e:g=b:=by simpa[Value.ownBlock]using E
  subst e;rcases hat with e|e
  ·exact q.2.2.1 g e
  ·right;have:=q.2.1;omega,q.2.2.2⟩
 refine⟨⟨?_,Ad h.out (fun q y=>x q (h.out.lt q y).2 (fun e=>Ak h.out h.lets (by decide) q y e)),by simp[h.lenL],h.lenD,fun j h1 f=>?_,fun j h1 f=>?_⟩,m⟩
 ·rw[Z3,zB];simpa using z
 ·by_cases n:j<a.length
  ·obtain⟨l,i,a1,a2⟩:=h.eachL j n (by rw[h.lenL];exact n);rw[zi n,zi (by rw[h.lenL];exact n)];exact⟨l,i,s l i a1,a2.keep (m l i a1)⟩
  ·have F:j=a.length:=by simp at h1;omega
   subst F;have e1:(a++[k])[a.length]=k:=by simp
   have e2:(ls++[e])[a.length]=e:=by simp[<-h.lenL]
   rw[e1,e2];exact⟨lo,hi,s lo hi u,hs.keep (m lo hi u)⟩
 ·obtain⟨l,i,a1,a2⟩:=h.eachD j h1 f;exact⟨l,i,s l i a1,a2.keep (m l i a1)⟩
theorem Su.pushD {B:Nat}{lv c:jB}{t:List K5}{ls:List Ex}{ss:List S5}{k:List (Sx×Int)}{w a:Z}{g cap lo hi:Nat}{s:S5}{q:Sx×Int}(h:Su wz B lv c t ls ss k w)(G:wz.heap.size<=B)(u:Iv B lv c w lo hi)(hs:StQ wz lo hi w s q)
  (z:a.ownsRow B 99 5 (X (Y ⟨g,0,T⟩) (ss.length+1) cap) (ss.length+1) (ss.flatMap S5.cs++s.cs))(m:(w.alloc o).grownBy a c.ownBlock)(hat:c.ownBlock=Y g\/g=w.heap.size+1):
  Su wz B lv (X (Y ⟨g,0,T⟩) (ss.length+1) cap) t ls (ss++[s]) (k++[q]) a:=by
 have A:(w.alloc o).heap.size=w.heap.size+1:=by simp
 have v:w.heap.size<=a.heap.size:=by have:=m.size;omega
 have x:∀q,q<w.heap.size->c.ownBlock≠Y q->a.heap[q]? =w.heap[q]? :=fun q h1 d=>(m.block q (by rw[A];omega) (fun e=>d e.symm)).trans (Below.heap_alloc w o q h1);have C:CW w a:=fun b H r=>(r.alloc o).grown m (fun e=>Ac r h.out (by decide) e.symm);have n:∀lo hi,Iv B lv c w lo hi->Cp wz lo hi w a:=fun lo hi q=>⟨v,fun b I D=>x b D (fun e=>by have:=(h.out.lt b e).1;have:=q.2.2.2 b e;omega),C⟩
 have p:∀lo hi,Iv B lv c w lo hi->Iv B lv (X (Y ⟨g,0,T⟩) (ss.length+1) cap) a lo hi:=fun lo hi q=>⟨q.1,zC q.2.1 v,q.2.2.1,fun b E=>by
  have e:g=b:=by simpa[Value.ownBlock]using E
  subst e;rcases hat with e|e
  ·exact q.2.2.2 g e
  ·right;have:=q.2.1;omega⟩
 refine⟨Ad h.lets (fun q y=>x q (h.lets.lt q y).2 (fun e=>Ak h.out h.lets (by decide) q e y)),?_,h.lenL,by simp[h.lenD],fun j h1 d=>?_,fun j h1 d=>?_⟩
 ·rw[Z3,zB];simpa using z
 ·obtain⟨l,i,a1,a2⟩:=h.eachL j h1 d;exact⟨l,i,p l i a1,a2.keep (n l i a1)⟩
 ·by_cases f:j<ss.length
  ·obtain⟨l,i,a1,a2⟩:=h.eachD j f (by rw[h.lenD];exact f);rw[zi f,zi (by rw[h.lenD];exact f)];exact⟨l,i,p l i a1,a2.keep (n l i a1)⟩
  ·have F:j=ss.length:=by simp at h1;omega
   subst F;have e1:(ss++[s])[ss.length]=s:=by simp
   have e2:(k++[q])[ss.length]=q:=by simp[<-h.lenD]
   rw[e1,e2];exact⟨lo,hi,p lo hi u,hs.keep (n lo hi u)⟩
set_option maxHeartbeats 3200000
theorem Tt.all2 {w0:Z}{B lo:Nat}{ka:Option jD}{m kc:Nat}{k:List K5}{w:Z}(h:Tt w0 B (X ka m kc) k Es w)(d:k.length=m)(f:lo<=B)(op num:Int)(text:ByteArray)(an:Option jD)(nn cn:Nat)(ss:List ByteArray)(n:Es=[]->SQ w an nn cn ss)(g:nn=ss.length)(e:Ex)(o:Rx op num text ss Es e):Py w0 lo w.heap.size w ⟨op,num,text,an,nn,cn,ka,m,kc⟩ e:=by
 cases o with
 |leaf e hk hx=>exact h.all d f op num text an nn cn ss (n rfl) e (.leaf e hk hx)
 |un i e0 a=>
  obtain⟨_,_,b,_,h5,c⟩:=h.all d f op num text T 0 0 ss (by rw[a.2.2];exact⟨⟨rfl,NLN,zE _,fun j h=>absurd h (by simp),fun j h=>absurd h (by simp)⟩,zE _,fun _=>rfl,fun l e=>by cases e⟩) _ (.un i e0 a);exact⟨rfl,a.1,b,by rw[g,a.2.2];rfl,h5,c⟩
 |bin i e0 e1 a=>
  obtain⟨_,_,b,_,h5,c⟩:=h.all d f op num text T 0 0 ss (by rw[a.2.2];exact⟨⟨rfl,NLN,zE _,fun j h=>absurd h (by simp),fun j h=>absurd h (by simp)⟩,zE _,fun _=>rfl,fun l e=>by cases e⟩) _ (.bin i e0 e1 a);exact⟨rfl,a.1,b,by rw[g,a.2.2];rfl,h5,c⟩
 |ite i e0 e1 e2 p a=>
  obtain⟨h1,_,b,_,h5,c⟩:=h.all d f op num text T 0 0 ss (by rw[a.2.2];exact⟨⟨rfl,NLN,zE _,fun j h=>absurd h (by simp),fun j h=>absurd h (by simp)⟩,zE _,fun _=>rfl,fun l e=>by cases e⟩) _ (.ite i e0 e1 e2 p a);exact⟨h1,a.1,b,by rw[g,a.2.2];rfl,h5,c⟩
theorem SQ.below {w w':Z}{B:Nat}{a:Option jD}{n c:Nat}{ss:List ByteArray}(h:SQ w a n c ss)(b:Below B w w')(d:w.heap.size<=B):SQ w' a n c ss:=⟨h.1.below b d,h.2.1,h.2.2.below b d⟩
theorem Jr (wz w0:Z)(bv:wz.heap.size<=w0.heap.size)(aB:Option jD)(aC aD:Nat)(w:Z)(aE:An w0 w)(d l:Int)(n:ByteArray)(o:Option jD)(f r:Nat)(P:Option jD)(m S:Nat)(t:List K5)(aY:AO w0 P t)(aZ:t.length=m)(b6:m<=3)(a0:d≠7)(bs:List Ex)(a1:bs.length=m)(ss:List ByteArray)(a2:bs=[]->SQ w0 o f r ss)(a3:f=ss.length)(e:Ex)(a4:Rx d l n ss bs e)
  (a5:∀j,(h:j<t.length)->(b7:j<bs.length)->∀aF,An w aF->Calls jL 49 #[jE #[U V t[j].op,U V t[j].num,Q t[j].text,X t[j].an t[j].nn t[j].cn,X t[j].ka t[j].kn t[j].kc],X aB aC aD] aF (XB wz bs[j] aF)):
  Calls jL 49 #[jE #[U V d,U V l,Q n,X o f r,X P m S],X aB aC aD] w (XB wz e w):=by
 obtain⟨bw,bx,bz,bA,bB⟩:=info_parts Nq;have b8:(d==7)=jA:=zA.2 a0;have aG:=((AN w (Bs d l n o f r P m S)).alloc (by simp) Gm).alloc (by simp;omega) (Bs d l n o f r T 0 0);have aH:=((Ah.new w #[U V d,U V l,Q n,X o f r,X P m S] 101).alloc Gm).alloc (Bs d l n o f r T 0 0);have aj:=(Ah.new (w.alloc (Bs d l n o f r P m S)) #[U V 0,U V 0,Q ⟨#[]⟩,X T 0 0,X T 0 0] 101).alloc (Bs d l n o f r T 0 0);have ad:=Ah.new ((w.alloc (Bs d l n o f r P m S)).alloc Gm) #[U V d,U V l,Q n,X o f r,X T 0 0] 101;have aI:(((w.alloc (Bs d l n o f r P m S)).alloc Gm).alloc (Bs d l n o f r T 0 0)).heap.size=w.heap.size+3:=by simp
 simp only[World.size_alloc]at aj ad;have bC:=Ab a5;have bD:=Ab aY;have bE:=Ab aZ;have a6:=Ab a1;have bF:=Ab a2;have bG:=Ab a3;have bH:=Ab a4;have ar:=Ab aE;have bI:wz.heap.size<=w.heap.size:=zC bv aE.size;clear a5 aY aZ a1 a2 a3 a4 aE a0;go_enter func49,ntmps49
 go_wp2_with fail
 generalize ((w.alloc (Bs d l n o f r P m S)).alloc Gm).alloc (Bs d l n o f r T 0 0)=bJ at aG aH aj ad aI|-;have aJ:Tt wz (w.heap.size+3) (X T 0 0) [] [] bJ:=⟨World.ownsRow_nil _ _ _ _,rfl,fun j h=>absurd h (by simp)⟩
 generalize a7:w.heap.size=W at aG aH aj ad aI aJ bI|-;have aK:=Ab a7;generalize bK:W+1=ae at aj ad|-;generalize bL:ae+1=s at ad|-;generalize bM:W+3=B at aI aJ|-;have bN:W<ae/\ae<s/\s<B:=by omega
 clear a7 bK bL bM;go_loopw [32] (fun i wr=>∃ (j:Nat) (aL:jB) (a:List K5),j<=m/\i=U V j/\Hid (a.length=j)/\Ah wr s #[U V d,U V l,Q n,X o f r,aL] 101/\Ah wr W #[U V d,U V l,Q n,X o f r,X P m S] 101/\Ah wr ae #[U V 0,U V 0,Q ⟨#[]⟩,X T 0 0,X T 0 0] 101/\Tt wz B aL a (bs.take j) wr/\Below W w wr/\B<=wr.heap.size) (fun i _=>m-(intOf i).toNat)
 case atStart=>exact⟨0,_,[],zE _,rfl,Ab rfl,ad,aH,aj,aJ,aG,by omega⟩
 case round=>
  obtain⟨j,aL,a,b9,rfl,aM,au,aN,ak,ab,al,ca⟩:=hrel;obtain⟨af,ag,rfl,_⟩:=Ae ab.own;by_cases av:j<m
  ·have cb:(j:Int)<(m:Int):=by omega
   have aO:j<t.length:=by rw[Aa bE];exact av
   have aP:j<bs.length:=by rw[Aa a6];exact av
   have aw:An w wr:=by show Below _ _ _;rw[Aa aK];exact al
   have ao:=(Aa ar).trans (aw.mono (Aa ar).size);obtain⟨g,cc,rfl,hg,a8⟩:=Bp ((Aa bD).below ao NLN) (by omega);obtain⟨c0,c1,c2,c3,c4⟩:=a8 j aO;have ap:=Ab (Aa bC j aO aP);have a9:=Ab (show bs.take (j+1)=bs.take j++[bs[j]]from zc aP);have ba:=Ab av;generalize t[j]=k at c0 c1 c2 c3 c4 ap;generalize bs[j]=bO at ap a9;obtain⟨v,x,y,z,A,C,D,E,F⟩:=k;dsimp only at c0 c1 c2 c3 c4 ap;have cd:a.length<=1048576:=by have:=Aa aM;omega
   clear av aO aP a8 ao;go_upto_region 13 with fail
   have RT:=au.alloc (Bs v x y z A C D E F);have bb:=aN.alloc (Bs v x y z A C D E F);have bc:=ak.alloc (Bs v x y z A C D E F);have ax:=ab.below (AN wr (Bs v x y z A C D E F));have bd:=al.alloc (by omega) (Bs v x y z A C D E F);have bP:B<=(wr.alloc (Bs v x y z A C D E F)).heap.size:=by simp;omega
   have aQ:=Ah.new wr #[U V v,U V x,Q y,X z A C,X D E F] 101;have aR:=aw.alloc aw.size (Bs v x y z A C D E F);generalize wr.alloc (Bs v x y z A C D E F)=w2 at RT bb bc ax bd bP aQ aR|-;generalize wr.heap.size=ce at aQ|-;have bQ:=Ab (Fd (Aa ap w2.drew aR.drew) (fun e w' ⟨k,h,_⟩=>⟨_,h⟩));clear au aN ak ab al aw aR ap c0 c1 c2 c3 c4;obtain⟨bR,bS,bT,bU,bf,cf⟩:=Aq RT;obtain⟨c0,c1,c2,c3,c4,-⟩:=Aq aQ;have bg:=RT.after BRN.drew NLN;have bh:=ax.below BRN.drew;have sd:w2.drew.cell? ⟨s,4,T⟩=Y (X af a.length ag):=bf;have bV:(Tryz.f49.name== "runtime.NumGoroutine")=jA:=by kernel_rfl
   have bW: Tryz.f49.body.isNone=jA:=by kernel_rfl
   have ay:∀q,(Value.slice af a.length ag).ownBlock=Y q->B<=q/\q<w2.heap.size:=fun q ah=>ax.own.lt q ah;go_region_law (first
    |(refine Bf rfl 49 _ func49 bV bW _ _ _ rfl (jE #[U V v,U V x,Q y,X z A C,X D E F]) (X aB aC aD) rfl rfl _ (Aa bQ) ?_;rintro cg bi ⟨bX,bj,aS,ai⟩;obtain rfl:=AS bj;obtain⟨G,H,I,J,K,L,M,N,O⟩:=bX;dsimp only at bj aS|-;have aT:=bg.after ai NLN;obtain⟨e0,e1,e2,e3,e4,ch⟩:=Aq aT;have aU:=bh.below ai;have bk:=World.ownsRow.alloc aU.own (Bs G H I J K L M N O);have az:=aT.alloc (Bs G H I J K L M N O);obtain⟨ci,cj,ck,cl,cm,co⟩:=Aq az;have bl:=World.news_of_block (heap_alloc_new bi (Bs G H I J K L M N O));have cp:=ai.size)
    |(refine step_append_lies _ rfl _ _ 97 rfl B 101 bw (jE #[U V 0,U V 0,Q ByteArray.empty,X T 0 0,X T 0 0]) 5 80 underlying97 bx bz bA bB rfl (by decide) (X af a.length ag) a.length (a.flatMap K5.cs) rfl bk ⟨bi.heap.size,0,T⟩ 1 1 (K5.cs ⟨G,H,I,J,K,L,M,N,O⟩) rfl rfl bl (by intro u hu;simp[K5.cs]at hu;rcases hu with rfl|rfl|rfl|rfl|rfl<;>rfl) (by decide) (by unfold maxLen;omega) (by omega) (by have:w2.drew.heap.size=w2.heap.size:=rfl;simp;omega) _ rfl ?_;intro g7 aa aA bm ac hat cq;have aq:Ah aA s _ _:=⟨(ac.block s az.lt (fun e=>by have:=(ay _ e.symm).1;omega)).trans az.out⟩;have cr:aA.cell? ⟨s,4,T⟩=Y (X af a.length ag):=aq.cell 4;have ct:=aq.frozen 4))
   all_goals
    have cu:w2.drew.heap.size=w2.heap.size:=rfl;have bn:=aU.snoc (lo:=w2.drew.heap.size) (k:=⟨G,H,I,J,K,L,M,N,O⟩) (b:=bO) (by omega) (by omega) (fun q ah=>by have:=(ay q ah).2;omega) aS bm ac (hat.imp id (fun e=>by rw[e];simp));have bo:=bn.set ⟨s,4,T⟩ (X (Y ⟨g7,0,T⟩) (a.length+1) aa) bN.2.2 (by show wz.heap.size<=s;omega) (CW.set aq (by decide) _ _);have bp:=aq.set 4 (X (Y ⟨g7,0,T⟩) (a.length+1) aa);simp only[zV,zX,zQ]at bp;have br:∀q,q<B->Y q≠(Value.slice af a.length ag).ownBlock:=fun q ah e=>by have:=(ay q e.symm).1;omega
    have bY:=(((((bb.after BRN.drew NLN).after ai NLN).alloc (Bs G H I J K L M N O)).grown ac (br W (by omega))).setFar (p:=⟨s,4,T⟩) (by show W≠s;omega) (X (Y ⟨g7,0,T⟩) (a.length+1) aa))
    have bZ:=(((((bc.after BRN.drew NLN).after ai NLN).alloc (Bs G H I J K L M N O)).grown ac (br ae (by omega))).setFar (p:=⟨s,4,T⟩) (by show ae≠s;omega) (X (Y ⟨g7,0,T⟩) (a.length+1) aa))
    have b0:=((((bd.drew).trans (ai.mono (by omega))).alloc (by omega) (Bs G H I J K L M N O)).grown ac (by simp;omega) (fun q ah=>by have:=(ay q ah).1;omega)).setCell (p:=⟨s,4,T⟩) (by show W<=s;omega) (X (Y ⟨g7,0,T⟩) (a.length+1) aa);have b1:B<=(aA.setCell ⟨s,4,T⟩ (X (Y ⟨g7,0,T⟩) (a.length+1) aa)).heap.size:=by have:=ac.size;simp at this|-;omega
    have b2:=Ab (show(a++[(⟨G,H,I,J,K,L,M,N,O⟩:K5)]).length=j+1 by rw[zB,Aa aM];rfl);have b3:=Ab (show Tt wz B (X (Y ⟨g7,0,T⟩) (a.length+1) aa) (a++[(⟨G,H,I,J,K,L,M,N,O⟩:K5)]) (bs.take (j+1)) (aA.setCell ⟨s,4,T⟩ (X (Y ⟨g7,0,T⟩) (a.length+1) aa)) by rw[Aa a9];exact bo);clear ac hat bm bn bo aU bh ax RT bg aT az aq bk bl aS;go_wp2
    go_roundw
    case rel=>exact⟨j+1,_,_,Aa ba,by go_num,b2,bp,bY,bZ,Aa b3,b0,b1⟩
    case measure=>have:=Aa ba;simp[intOf];omega
  ·have b4:j=m:=by omega
   subst b4;have aV:An w wr:=by show Below _ _ _;rw[Aa aK];exact al
   have bt:bs.take j=bs:=zf (by rw[Aa a6];exact NLN);rw[bt]at ab;have aW:a.length=j:=Aa aM;rw[aW]at ab au;have ao:=(Aa ar).trans (aV.mono (Aa ar).size);have bu:=ab.all2 aW NLN d l n o f r ss (fun h=>(Aa bF h).below ao NLN) (Aa bG) e (Aa bH);have b5:=Aa aK;have aX:=Ab (Ef (w0:=wz) (B:=B) (c:=⟨d,l,n,o,f,r,af,j,ag⟩) (by omega) aV ak (by omega) (by omega) bu);obtain⟨bR,bS,bT,bU,bf,-⟩:=Aq au;obtain⟨cv,n1,cw,cx,cy,-⟩:=Aq aN;obtain⟨cz,cA,cB,cC,cD,-⟩:=Aq ak;obtain⟨cE,f1,f2,cF,cG⟩:=Fl ak;clear bu ao b5 bt ab aV aW al;go_wp2
   exact bodyPost_ret (Gj results49 rfl (Aa aX).2.1) rfl ⟨_,rfl,(Aa aX).2.2,(Aa aX).1⟩
set_option linter.unusedSimpArgs false
def CR (N:List Nd) (L:List St):Bool:=decide (N.length<=4000)&&(decide (1<=L.length/\L.length<=600)&&EM L)&&N.all Bb&&GK N L
abbrev MB:=List ByteArray×List Int×List Int
open Classical in
noncomputable def Wf (kd:Int) (nm:ByteArray) (st:MB) (ot:Option Int) (ys:List Int):Option MB:=
 if kd=1 then (match ot with|some t=>if nm∈st.1 then T else Y (st.1++[nm],st.2.1++[t],st.2.2++ys)|none=>T)
 else (match ot with|some t=>if t=1 then Y (st.1,st.2.1,st.2.2++ys)else T|none=>T)
def ckG (st:MB) (ot:Option Int) (ys:List Int):Option MB:=match ot with|some t=>if t=4 then Y (st.1,st.2.1,st.2.2++ys)else T|none=>T
noncomputable def CA (Es:List Ex) (st:MB) (s:St):Option MB:=if s.cond= -1 then Y st else match Es[s.cond.toNat]? with
 |some e=>Wf s.kind s.name st (AE st.2.1 e) (CB st.2.1 e)
 |none=>T
def Cc (Es:List Ex) (st:MB) (s:St):Option MB:=if s.grant= -1 then Y st else match Es[s.grant.toNat]? with
 |some e=>ckG st (AE st.2.1 e) (CB st.2.1 e)
 |none=>T
noncomputable def LG (Es:List Ex) (st:MB) (s:St):Option MB:=(CA Es st s).bind fun st1=>Cc Es st1 s
noncomputable def CT (Es:List Ex):MB->List St->Option MB
 |st,[]=>Y st
 |st,s ::L=>(LG Es st s).bind fun st1=>CT Es st1 L
theorem Yq {st b:MB}(h:CA Es st s=Y b):b.2.2.length=st.2.2.length+Bq Es s.cond/\b.2.1.length<=st.2.1.length+1/\((∀t∈st.2.1,1<=t/\t<=4)->∀t∈b.2.1,1<=t/\t<=4):=by
 rw[CA]at h;rw[Bq];by_cases e1:s.cond= -1
 ·rw[if_pos e1]at h|-;cases h;exact⟨rfl,zh _,id⟩
 ·rw[if_neg e1]at h|-;cases he:Es[s.cond.toNat]? with
  |none=>rw[he]at h;cases h
  |some e=>
   rw[he]at h;simp only[Wf]at h;have c:=Fg st.2.1 e;by_cases hk:s.kind=1
   ·rw[if_pos hk]at h;cases a:AE st.2.1 e with
    |none=>rw[a]at h;cases h
    |some t=>
     rw[a]at h;dsimp only at h;split at h
     ·cases h
     ·cases h;refine⟨by simp[c],by simp,fun d x hx=>?_⟩;rcases zM.1 hx with hx|hx
      ·exact d x hx
      ·simp at hx;subst hx;exact AcN d e x a
   ·rw[if_neg hk]at h;cases a:AE st.2.1 e with
    |none=>rw[a]at h;cases h
    |some t=>
     rw[a]at h;dsimp only at h;split at h
     ·cases h;exact⟨by simp[c],zh _,id⟩
     ·cases h
theorem Wg {st a:MB}(h:Cc Es st s=Y a):a.2.2.length=st.2.2.length+Bq Es s.grant/\a.2.1=st.2.1:=by
 rw[Cc]at h;rw[Bq];by_cases e1:s.grant= -1
 ·rw[if_pos e1]at h|-;cases h;exact⟨rfl,rfl⟩
 ·rw[if_neg e1]at h|-;cases he:Es[s.grant.toNat]? with
  |none=>rw[he]at h;cases h
  |some e=>
   rw[he]at h;simp only[ckG]at h;have c:=Fg st.2.1 e;cases b:AE st.2.1 e with
   |none=>rw[b]at h;cases h
   |some t=>
    rw[b]at h;dsimp only at h;split at h
    ·cases h;exact⟨by simp[c],rfl⟩
    ·cases h
theorem TB {Es:List Ex} :∀{L:List St} {st a:MB},CT Es st L=Y a->a.2.2.length=st.2.2.length+Dq Es L/\a.2.1.length<=st.2.1.length+L.length/\((∀t∈st.2.1,1<=t/\t<=4)->∀t∈a.2.1,1<=t/\t<=4)
 |[],st,a,h=>by cases h;exact⟨by simp[Dq],by simp,id⟩
 |s ::L,st,a,h=>by
  rw[CT,LG]at h;cases h1:CA Es st s with
  |none=>rw[h1]at h;cases h
  |some s1=>
   rw[h1]at h
   change ((Cc Es s1 s).bind fun a=>CT Es a L)=Y a at h
   cases b:Cc Es s1 s with
   |none=>rw[b]at h;cases h
   |some s2=>
    rw[b]at h;obtain⟨a1,a2,a3⟩:=Yq h1;obtain⟨b1,b2⟩:=Wg b;obtain⟨c1,c2,c3⟩:=TB (show CT Es s2 L=Y a from h);have e:Dq Es (s ::L)=Bq Es s.cond+Bq Es s.grant+Dq Es L:=by simp[Dq]
    refine⟨by rw[e];omega,by rw[b2]at c2;simp;omega,fun c=>c3 (by rw[b2];exact a3 c)⟩
structure UB (N:List Nd) (L:List St):Prop where
 n:N.length<=4000
 m0: 1<=L.length
 m:L.length<=600
 fields:∀x∈N,Bb x=R
 kids:∀(i:Nat) (x:Nd),N[i]? =Y x->∀k∈x.kids,0<=k/\k<(i:Int)
 roots:∀s∈L,(s.cond= -1\/(0<=s.cond/\s.cond<N.length))/\(s.grant= -1\/(0<=s.grant/\s.grant<N.length))
 stm:∀s∈L,(s.kind=1/\s.name.size<=32/\0<=s.cond/\s.grant= -1)\/(s.kind=2/\0<=s.cond)\/(s.kind=3/\s.cond= -1)
 cnt:∀(Es:List Ex),Es.length=N.length->(∀j,(h:j<Es.length)->Bu N j Es[j])->∀s∈L,∀k,(k=s.cond\/k=s.grant)->0<=k->∀e,Es[k.toNat]? =Y e->e.cnt<=4000
theorem BP (h:CR N L=R):UB N L:=by
 simp only[CR,zD,zG]at h;obtain⟨⟨⟨h1,⟨o,v⟩,w⟩,h5⟩,b⟩:=h;obtain⟨S,y,z⟩:∃S,EK (N.map Nd.kids) N.length [] 0=Y S/\As S=L.flatMap Ap:=by
  rw[GK]at b;cases d:EK (N.map Nd.kids) N.length [] 0 with
  |none=>rw[d]at b;cases b
  |some S=>rw[d]at b;exact⟨S,rfl,of_decide_eq_true b⟩
 obtain⟨c,_⟩:=Dd N.length (.nil 0) (fun p hp=>(by cases hp)) y;rw[zP]at c;have r:∀s∈L,∀k∈Ap s,∃p∈S,k=(p.1:Int):=fun s hs k hk=>by
  have:k∈As S:=by rw[z];exact Z2.2 ⟨s,hs,hk⟩
  rw[As]at this;obtain⟨p,hp,rfl⟩:=zn.1 this;exact⟨p,hp,rfl⟩
 have f:∀s∈L,∀k∈Ap s,0<=k/\k<N.length:=fun s hs k hk=>by
  obtain⟨p,hp,rfl⟩:=r s hs k hk;have:=(c.lt p hp).2;omega
 have l:∀s∈L,s.kind≠3->s.cond∈Ap s:=fun s _ h=>by rw[Ap,if_pos h];simp
 have t:∀s∈L,s.grant≠-1->s.grant∈Ap s:=fun s _ h=>by rw[Ap,if_pos h];simp
 have A:=LH w;have stm:∀s∈L,(s.kind=1/\s.name.size<=32/\0<=s.cond/\s.grant= -1)\/(s.kind=2/\0<=s.cond)\/(s.kind=3/\s.cond= -1):=fun s hs=>by
  have h:=A s hs;rw[J0]at h;by_cases m:s.kind=1
  ·rw[if_pos m]at h;simp only[zD,zG]at h;exact .inl ⟨m,J2 h.1,(f s hs _ (l s hs (by omega))).1,h.2⟩
  rw[if_neg m]at h;by_cases u:s.kind=2
  ·exact .inr (.inl ⟨u,(f s hs _ (l s hs (by omega))).1⟩)
  rw[if_neg u]at h;by_cases a:s.kind=3
  ·rw[if_pos a]at h;simp only[zD,zG]at h;exact .inr (.inr ⟨a,h.2⟩)
  ·rw[if_neg a]at h;cases h
 refine⟨h1,o,v,fun x hx=>zt.1 h5 x hx,fun i x hx k hk=>?_,fun s hs=>⟨?_,?_⟩,stm,fun Es B C s hs k hk h0 e he=>?_⟩
 ·have hi:i<N.length:=(zZ.1 hx).1;obtain⟨D,e1,e2⟩:=OZ c i (zE _) hi;rw[zk,hx]at e1;have e3:x.kids=As D:=Option.some.inj e1;rw[e3,As]at hk;obtain⟨p,hp,rfl⟩:=zn.1 hk;have:=e2 p hp;omega
 ·by_cases a:s.kind=3
  ·rcases stm s hs with h|h|h
   ·omega
   ·omega
   ·exact .inl h.2
  ·exact .inr (f s hs _ (l s hs a))
 ·by_cases g:s.grant= -1
  ·exact .inl g
  ·exact .inr (f s hs _ (t s hs g))
 ·have E:k∈Ap s:=by
   rcases hk with rfl|rfl
   ·apply l s hs;intro a;rcases stm s hs with h|h|h<;>omega
   ·exact t s hs (by omega)
  obtain⟨p,hp,rfl⟩:=r s hs k E;have n:∀q∈S,q.1<Es.length:=fun q d=>by rw[B];exact(c.lt q d).2
  have F:=Jf c (S.attach.map (fun q=>Es[q.1.1]'(n q.1 q.2))) (by simp) (fun j h1 o=>by
   have:=C (S[j]).1 (n _ (zH h1));simpa using this)
  rw[zb]at he;have hm:e∈S.attach.map (fun q=>Es[q.1.1]'(n q.1 q.2)):=by
   refine zn.2 ⟨⟨p,hp⟩,List.mem_attach _ _,?_⟩;exact(zZ.1 he).2
  have:=Yr hm;omega
theorem AeQ {i:Nat}{an:Option jD}{nn cn:Nat}(hx:N[i]? =Y x)(b:Bb x=R)(hk:∀k∈x.kids,0<=k/\k<i)(q:Es.length=i)
  (r:∀j,(h:j<Es.length)->Bu N j Es[j])(J:∀e∈Es,e.typed):∃e,MkT Es i x an nn cn e/\Bu N i e/\e.typed:=by
 rw[Bb,zD,zG]at b;obtain⟨K,b⟩:=b;have z:∀n:Nat,Cz x.op=n->x.kids.length=n:=fun n e=>by omega
 have s:(1<=x.op/\x.op<=7)->x.kids=[]:=fun h=>zj (z 0 (by rw[Cz,if_pos h];rfl));have t:∀{m:Nat} {e:Ex},Es[m]? =Y e->e.typed:=fun h=>J _ (zu h);by_cases h1:x.op=1
 ·exact⟨_,.int h1,.int hx h1 (s (by omega)),trivial⟩
 by_cases E:x.op=2
 ·exact⟨_,.text E,.text hx E (s (by omega)),trivial⟩
 by_cases F:x.op=3
 ·exact⟨_,.bool F,.bool hx F (s (by omega)),trivial⟩
 by_cases G:x.op=4
 ·exact⟨_,.set G,.set hx G (s (by omega)) an nn cn,trivial⟩
 by_cases h5:x.op=5
 ·rw[Jc,if_pos h5]at b;cases b
 by_cases B:x.op=6
 ·rw[Jc,if_neg h5,if_pos B]at b;simp only[zD,zG]at b;exact⟨_,.attr B,.attr hx B (s (by omega)),b.1.1⟩
 by_cases H:x.op=7
 ·exact⟨_,.lett H,.lett hx H (s (by omega)),trivial⟩
 by_cases d: 8<=x.op/\x.op<=10
 ·have v:=z 1 (by rw[Cz,if_neg (by omega),if_pos d];rfl)
  match a:x.kids,v with
  |[k],_=>
   obtain⟨m,e,rfl,hm,c,w⟩:=EF q r (hk k (by rw[a];simp));exact⟨_,.un d a c,.un hx d a hm w,d,t c⟩
 by_cases u: 11<=x.op/\x.op<=26
 ·have v:=z 2 (by rw[Cz,if_neg (by omega),if_neg d,if_pos u];rfl)
  match a:x.kids,v with
  |[k,l],_=>
   obtain⟨m,e,rfl,hm,c,w⟩:=EF q r (hk k (by rw[a];simp));obtain⟨n,f,rfl,C,y,D⟩:=EF q r (hk l (by rw[a];simp));exact⟨_,.bin u a c y,.bin hx u a ⟨hm,C⟩ w D,u,t c,t y⟩
 by_cases A:x.op=27
 ·have v:=z 3 (by rw[Cz,if_neg (by omega),if_neg d,if_neg u,if_pos A];rfl)
  match a:x.kids,v with
  |[k,l,o],_=>
   obtain⟨m,e,rfl,hm,c,w⟩:=EF q r (hk k (by rw[a];simp));obtain⟨n,f,rfl,C,y,D⟩:=EF q r (hk l (by rw[a];simp));obtain⟨p,g,rfl,hp,I,L⟩:=EF q r (hk o (by rw[a];simp));exact⟨_,.ite A a c y I,.ite hx A a ⟨hm,C,hp⟩ w D L,t c,t y,t I⟩
 ·rw[Cz,if_neg (by omega),if_neg d,if_neg u,if_neg A]at K;omega
theorem Zi (h:CR N L=R)(m:Es.length=N.length)(o:∀j,(h:j<Es.length)->Bu N j Es[j]):Dq Es L<=4000:=by
 have f:=BP h;have w:=f.n;simp only[CR,zD,zG]at h;obtain⟨⟨⟨h1,⟨i,x⟩,y⟩,h5⟩,c⟩:=h;obtain⟨S,r,t⟩:∃S,EK (N.map Nd.kids) N.length [] 0=Y S/\As S=L.flatMap Ap:=by
  rw[GK]at c;cases a:EK (N.map Nd.kids) N.length [] 0 with
  |none=>rw[a]at c;cases c
  |some S=>rw[a]at c;exact⟨S,rfl,of_decide_eq_true c⟩
 obtain⟨d,_⟩:=Dd N.length (.nil 0) (fun p hp=>(by cases hp)) r;rw[zP]at d;have e1:∀s∈L,Bq Es s.cond+Bq Es s.grant=((Ap s).map (Bq Es)).sum:=fun s hs=>by
  have u:Bq Es s.grant=((if s.grant≠-1 then [s.grant]else []).map (Bq Es)).sum:=by
   by_cases g:s.grant= -1
   ·rw[if_neg (fun k=>k g),g];rfl
   ·rw[if_pos g];simp
  rw[Ap,zl,List.sum_append,<-u]
  congr 1
  by_cases l:s.kind=3
  ·rw[if_neg (fun k=>k l)];rcases f.stm s hs with q|q|q
   ·omega
   ·omega
   ·rw[q.2];rfl
  ·rw[if_pos l];simp
 rw[Ia Es L e1,<-t];have b:∀q∈S,q.1<Es.length:=fun q a=>by rw[m];exact(d.lt q a).2
 have z:=Jf d (S.attach.map (fun q=>Es[q.1.1]'(b q.1 q.2))) (by simp) (fun j h1 i=>by
  have:=o (S[j]).1 (b _ (zH h1));simpa using this)
 have e2:(As S).map (Bq Es)=(S.attach.map (fun q=>Es[q.1.1]'(b q.1 q.2))).map Ex.cnt:=by
  apply List.ext_getElem
  ·simp[As]
  ·intro j h1 i;have v:j<S.length:=by simpa[As]using h1
   have a:=b S[j] (zH v);simp only[As,List.getElem_map,List.getElem_attach];exact Jg rfl (zL a)
 rw[e2];have e3:((S.attach.map (fun q=>Es[q.1.1]'(b q.1 q.2))).map Ex.cnt).sum=LI (S.attach.map (fun q=>Es[q.1.1]'(b q.1 q.2))):=rfl;rw[e3];omega
def Nn (N:List Nd) (L:List St) (T:List Int) (b:Bool):Prop:=
 (CR N L=jA/\b=jA)\/(CR N L=R/\∃Es:List Ex,Es.length=N.length/\(∀j,(h:j<Es.length)->Bu N j Es[j])/\b=(match CT Es (Bm,[],[]) L with
  |none=>jA
  |some st=>decide (st.2.2=T)))
theorem AaR (x:Nd):Ji R x=Cj x:=by unfold Ji Cj;simp
theorem SG (x:Nd)(an:Option jD)(nn cn:Nat)(b:Option jD)(a c:Nat)(w:Z)(d:AJ w an nn cn x.names)(f:a=x.kids.length)(hs:x.text.size<=1048576)(hk:a<=1048576):
  Calls jL 95 #[ndV x.op x.num x.text an nn cn b a c,.bool R] w fun e w'=>e=jF (.bool (Cj x))/\An w w':=by
 rw[<-AaR];exact MA R x an nn cn b a c w d f hs hk
def Li (f:Dm->Dm) (N:Nat):Prop:=∀s,s.ins.length<=(f s).ins.length/\(f s).ins.length<=s.ins.length+N/\(f s).pool.length<=s.pool.length+N
theorem Aat (P:List Vl)(v:Vl):(Qd P v).length<=P.length+1:=by
 unfold Qd;split
 ·omega
 ·simp
theorem Tb (s:Dm)(i:I5):(A6 s i).pool.length<=s.pool.length+1:=by
 unfold A6;split
 ·exact Aat _ _
 ·show s.pool.length<=_;omega
theorem Li.put (i:I5):Li (fun s=>A6 s i) 1:=fun s=>⟨by rw[Ep];omega,by rw[Ep];omega,Tb s i⟩
theorem Li.const (v:Vl):Li (Nl v) 1:=Li.put _
theorem Li.comp {f g:Dm->Dm}{n m:Nat}(c:Li f n)(hg:Li g m):Li (fun s=>g (f s)) (n+m):=fun s=>by
 have a:=c s;have b:=hg (f s);dsimp only;omega
theorem Li.choice {fe:Dm->Dm}{n m k:Nat}(hc:Li fc n)(g:Li ft m)(he:Li fe k):Li (Jb fc ft fe) (n+m+k+2):=fun s=>by
 unfold Jb;dsimp only;have a:=hc s;have b:=Li.put ⟨23,0,Ax⟩ (fc s);have c:=g (A6 (fc s) ⟨23,0,Ax⟩);have d:=Li.put ⟨22,0,Ax⟩ (ft (A6 (fc s) ⟨23,0,Ax⟩));simp only at b d;generalize e4:A6 (ft (A6 (fc s) ⟨23,0,Ax⟩)) ⟨22,0,Ax⟩=f at d|-;have e:=he (CM f (fc s).ins.length f.ins.length);have h:∀(t:Dm) (j:Nat) (x:Int),(CM t j x).ins.length=t.ins.length:=fun t j x=>by simp[CM]
 have i:∀(t:Dm) (j:Nat) (x:Int),(CM t j x).pool.length=t.pool.length:=fun t j x=>rfl;simp only[h,i]at e|-;omega
theorem CP:∀e:Ex,Li (Iy e) (Am e)
 |.int .. =>Li.const _
 |.text .. =>Li.const _
 |.bool .. =>Li.const _
 |.set .. =>Li.const _
 |.name .. =>Li.const _
 |.attr _ n=>Li.put ⟨2,n,Ax⟩
 |.lett _ n=>Li.put ⟨3,n,Ax⟩
 |.un _ op k=>by
  have:=(CP k).comp (Li.put ⟨op-3,0,Ax⟩);rw[Am,Nat.add_comm];exact this
 |.bin _ op l r=>by
  rw[Am];by_cases h1:op=25
  ·rw[if_pos (.inl h1)];have:=(CP l).choice (CP r) (Li.const ⟨1,0,⟨#[]⟩,[]⟩);intro s;have:=this s;rw[Iy,if_pos h1];omega
  by_cases a:op=26
  ·rw[if_pos (.inr a)];have:=(CP l).choice (Li.const ⟨1,1,⟨#[]⟩,[]⟩) (CP r);intro s;have:=this s;rw[Iy,if_neg h1,if_pos a];omega
  rw[if_neg (by omega)];have:=((CP l).comp (CP r)).comp (Li.put ⟨op-3,0,Ax⟩);intro s;have:=this s;dsimp only at this;rw[Iy,if_neg h1,if_neg a];omega
 |.ite _ c t e=>by
  rw[Am];have:=(CP c).choice (CP t) (CP e);intro s;have:=this s;rw[Iy];omega
def Er (Es:List Ex) (k:Int):Nat:=if k= -1 then 0 else Am (Dh Es k)
theorem GE:∀e:Ex,Am e<=3*e.cnt
 |.int .. =>by simp[Am,Ex.cnt]
 |.text .. =>by simp[Am,Ex.cnt]
 |.bool .. =>by simp[Am,Ex.cnt]
 |.set .. =>by simp[Am,Ex.cnt]
 |.name .. =>by simp[Am,Ex.cnt]
 |.attr .. =>by simp[Am,Ex.cnt]
 |.lett .. =>by simp[Am,Ex.cnt]
 |.un _ _ k=>by have:=GE k;simp only[Am,Ex.cnt];omega
 |.bin _ _ l r=>by have:=GE l;have:=GE r;simp only[Am,Ex.cnt];split<;>omega
 |.ite _ c t e=>by have:=GE c;have:=GE t;have:=GE e;simp only[Am,Ex.cnt];omega
theorem Ze (Es:List Ex)(k:Int)(h:k= -1\/(0<=k/\k<Es.length)):Er Es k<=3*Bq Es k:=by
 rw[Er,Bq];by_cases e:k= -1
 ·rw[if_pos e];omega
 ·have hk:=h.resolve_left e;have a:k.toNat<Es.length:=by omega
  rw[if_neg e,if_neg e,Dh,zo,zL a];exact GE _
def U6 (Es:List Ex) (L:List St):Nat:=(L.map fun s=>Er Es s.cond+Er Es s.grant+2).sum
theorem XR (Es:List Ex):∀(L:List St),(∀s∈L,(s.cond= -1\/(0<=s.cond/\s.cond<Es.length))/\(s.grant= -1\/(0<=s.grant/\s.grant<Es.length)))->U6 Es L<=3*Dq Es L+2*L.length
 |[],_=>by simp[U6,Dq]
 |s ::L,h=>by
  have d:=XR Es L (fun x hx=>h x (za _ hx));obtain⟨h1,c⟩:=h s (zS ..);have a:=Ze Es _ h1;have b:=Ze Es _ c;have e1:U6 Es (s ::L)=Er Es s.cond+Er Es s.grant+2+U6 Es L:=by simp[U6]
  have e2:Dq Es (s ::L)=Bq Es s.cond+Bq Es s.grant+Dq Es L:=by simp[Dq]
  rw[e1,e2,List.length_cons];omega
theorem Ab7 (Es:List Ex)(L:List St)(k:Nat)(h:k<L.length):U6 Es (L.take k)+(Er Es L[k].cond+Er Es L[k].grant+2)<=U6 Es L:=by
 have e:L=L.take k++L[k] ::L.drop (k+1):=by rw[List.getElem_cons_drop,Z9]
 have e2:=congrArg (U6 Es) e;simp only[U6,zl,List.map_cons,List.sum_append,List.sum_cons]at e2|-;omega
theorem Zf (Es:List Ex)(g:Int)(s:Dm):s.ins.length<=(cpD Es g s).ins.length/\(cpD Es g s).ins.length<=s.ins.length+(Er Es g+1)/\(cpD Es g s).pool.length<=s.pool.length+(Er Es g+1):=by
 rw[cpD,Er];by_cases h:g= -1
 ·rw[if_pos h,if_pos h];exact Li.put _ s
 ·rw[if_neg h,if_neg h];exact(CP _).comp (Li.put ⟨25,0,Ax⟩) s
theorem Aev (Es:List Ex)(t:St)(s:Dm)(d:t.kind=3\/t.cond≠-1):s.ins.length<=(Vk Es s t).ins.length/\(Vk Es s t).ins.length<=s.ins.length+(Er Es t.cond+Er Es t.grant+2)/\(Vk Es s t).pool.length<=s.pool.length+(Er Es t.cond+Er Es t.grant+2)/\(Vk Es s t).slots<=s.slots+1:=by
 have q:=Ab6 Es s t;have c:(Vk Es s t).slots<=s.slots+1:=by
  rw[q];show s.slots+KR t<=_;rw[KR];split<;>omega
 rw[Vk];rw[Vk]at c;by_cases h1:t.kind=1
 ·rw[if_pos h1]at c|-;have hc: ¬ t.cond= -1:=by rcases d with h|h<;>omega
  have:=(CP (Dh Es t.cond)).comp (Li.put ⟨4,(s.slots:Int),Ax⟩) s;have e:Er Es t.cond=Am (Dh Es t.cond):=by rw[Er,if_neg hc]
  simp only[Dm.withS]at*;omega
 rw[if_neg h1]at c|-;by_cases f:t.kind=2
 ·rw[if_pos f]at c|-;have hc: ¬ t.cond= -1:=by rcases d with h|h<;>omega
  have e:Er Es t.cond=Am (Dh Es t.cond):=by rw[Er,if_neg hc]
  have a:=(CP (Dh Es t.cond)).comp (Li.put ⟨23,0,Ax⟩) s;have b:=Zf Es t.grant (A6 (Iy (Dh Es t.cond) s) ⟨23,0,Ax⟩);have g:∀(t:Dm) (j:Nat) (x:Int),(CM t j x).ins.length=t.ins.length:=fun t j x=>by simp[CM]
  have i:∀(t:Dm) (j:Nat) (x:Int),(CM t j x).pool.length=t.pool.length:=fun t j x=>rfl;simp only[g,i]at*;omega
 ·rw[if_neg f]at c|-;have b:=Zf Es t.grant s;omega
theorem Nm (Es:List Ex):∀(L:List St) (s:Dm),(∀t∈L,t.kind=3\/t.cond≠-1)->(JN Es s L).ins.length<=s.ins.length+U6 Es L/\(JN Es s L).pool.length<=s.pool.length+U6 Es L/\(JN Es s L).slots<=s.slots+L.length
 |[],s,_=>by simp[JN,U6]
 |t ::L,s,h=>by
  have a:=Aev Es t s (h t (zS ..));have b:=Nm Es L (Vk Es s t) (fun x hx=>h x (za _ hx));have e1:U6 Es (t ::L)=Er Es t.cond+Er Es t.grant+2+U6 Es L:=by simp[U6]
  have e2:JN Es s (t ::L)=JN Es (Vk Es s t) L:=rfl;rw[e1,e2,List.length_cons];omega
theorem Bu.cp_one {i:Nat}{e:Ex}(t:Bu N i e):∀{f:Ex},Bu N i f->∀s,Iy e s=Iy f s:=by
 induction t with
 |int h d hk=>intro f u R;rcases u.inv h with⟨o,r⟩|⟨o,r⟩|⟨o,r⟩|⟨o,r⟩|⟨o,r⟩|⟨o,r⟩|⟨o,r⟩|⟨o,r⟩|⟨o,r⟩|⟨o,r⟩<;>first|omega|(subst r;rfl)
 |text h d hk=>intro f u R;rcases u.inv h with⟨o,r⟩|⟨o,r⟩|⟨o,r⟩|⟨o,r⟩|⟨o,r⟩|⟨o,r⟩|⟨o,r⟩|⟨o,r⟩|⟨o,r⟩|⟨o,r⟩<;>first|omega|(subst r;rfl)
 |bool h d hk=>intro f u R;rcases u.inv h with⟨o,r⟩|⟨o,r⟩|⟨o,r⟩|⟨o,r⟩|⟨o,r⟩|⟨o,r⟩|⟨o,r⟩|⟨o,r⟩|⟨o,r⟩|⟨o,r⟩<;>first|omega|(subst r;rfl)
 |name h d hk=>intro f u R;rcases u.inv h with⟨o,r⟩|⟨o,r⟩|⟨o,r⟩|⟨o,r⟩|⟨o,r⟩|⟨o,r⟩|⟨o,r⟩|⟨o,r⟩|⟨o,r⟩|⟨o,r⟩<;>first|omega|(subst r;rfl)
 |attr h d hk=>intro f u R;rcases u.inv h with⟨o,r⟩|⟨o,r⟩|⟨o,r⟩|⟨o,r⟩|⟨o,r⟩|⟨o,r⟩|⟨o,r⟩|⟨o,r⟩|⟨o,r⟩|⟨o,r⟩<;>first|omega|(subst r;rfl)
 |lett h d hk=>intro f u R;rcases u.inv h with⟨o,r⟩|⟨o,r⟩|⟨o,r⟩|⟨o,r⟩|⟨o,r⟩|⟨o,r⟩|⟨o,r⟩|⟨o,r⟩|⟨o,r⟩|⟨o,r⟩<;>first|omega|(subst r;rfl)
 |set h d hk a n c=>intro f u R;rcases u.inv h with⟨o,r⟩|⟨o,r⟩|⟨o,r⟩|⟨o,r⟩|⟨o,r⟩|⟨o,r⟩|⟨o,r⟩|⟨o,r⟩|⟨o,r⟩|⟨o,r⟩<;>first|omega|(obtain⟨_,_,_,r⟩:=r;subst r;rfl)
 |un h d hk hi t p=>
  intro f u s;rcases u.inv h with⟨o,r⟩|⟨o,r⟩|⟨o,r⟩|⟨o,r⟩|⟨o,r⟩|⟨o,r⟩|⟨o,r⟩|⟨o,m,e',b,g,r⟩|⟨o,r⟩|⟨o,r⟩<;>first|omega|skip
  subst r;rw[hk]at b;obtain rfl:=Int.ofNat.inj (List.cons.inj b).1;rw[Iy,Iy,p g s]
 |bin h d hk hi t u j k=>
  intro f v s;rcases v.inv h with⟨o,r⟩|⟨o,r⟩|⟨o,r⟩|⟨o,r⟩|⟨o,r⟩|⟨o,r⟩|⟨o,r⟩|⟨o,r⟩|⟨o,m,q,e',w,b,g,l,r⟩|⟨o,r⟩<;>first|omega|skip
  subst r;rw[hk]at b;simp only[List.cons.injEq,and_true,Int.natCast_inj]at b;obtain⟨rfl,rfl⟩:=b;rw[Iy,Iy,funext (j g),funext (k l)]
 |ite h d hk hi t u v j k x=>
  intro f z s;rcases z.inv h with⟨o,r⟩|⟨o,r⟩|⟨o,r⟩|⟨o,r⟩|⟨o,r⟩|⟨o,r⟩|⟨o,r⟩|⟨o,r⟩|⟨o,r⟩|⟨o,m,q,y,e',w,h',b,g,l,v',r⟩<;>first|omega|skip
  subst r;rw[hk]at b;simp only[List.cons.injEq,and_true,Int.natCast_inj]at b;obtain⟨rfl,rfl,rfl⟩:=b;rw[Iy,Iy,funext (j g),funext (k l),funext (x v')]
theorem Aau {a:List Ex}(h1:Es.length=N.length)(l:a.length=N.length)(c:∀j,(h:j<Es.length)->Bu N j Es[j])(d:∀j,(h:j<a.length)->Bu N j a[j])(L:List St):Lh Es L=Lh a L:=by
 have b:∀k:Int,Iy (Dh Es k)=Iy (Dh a k):=fun k=>by
  by_cases hk:k.toNat<N.length
  ·rw[Dh,Dh,zo,zo,zL (by omega),zL (by omega)];exact funext ((c _ (by omega)).cp_one (d _ (by omega)))
  ·rw[Dh,Dh,zo,zo,yB (by omega),yB (by omega)]
 have f:∀g,cpD Es g=cpD a g:=fun g=>by funext s;rw[cpD,cpD,b]
 have i:Vk Es=Vk a:=by funext s t;simp only[Vk,b,f]
 rw[Lh,Lh,JN,JN,i]
def Lu (N:List Nd) (L:List St) (T:List Int) (c:Dm):Prop:=
 (Nn N L T jA/\c=⟨[],0,[]⟩)\/(Nn N L T R/\∃Es:List Ex,Es.length=N.length/\(∀j,(h:j<Es.length)->Bu N j Es[j])/\c=Lh Es L)
def CpA (c:Dm) (w:Z) (e:Ending) (w':Z):Prop:=∃x cx y cy nv,e=jF (jE #[X x c.pool.length cx,U V c.slots,X y c.ins.length cy])/\BU w' w.heap.size (X x c.pool.length cx) c.pool nv/\w'.ownsRow w.heap.size 49 2 (X y c.ins.length cy) c.ins.length (Cm c.ins)/\An w w'
set_option maxHeartbeats 6400000
def Ahp (w:Z) (g:Nat) (h0 h1 h2:Int) (r:Vl×AI) (e:Ending) (w':Z):Prop:=∃a c,e=jF (jE #[U V r.1.kind,U V r.1.num,Q r.1.text,X a r.1.names.length c])/\w'.ownsRow w.heap.size 9 1 (X a r.1.names.length c) r.1.names.length (r.1.names.map Value.string)/\EN w' g h0 h1 h2 r.2/\Al g (g+1) w w'
theorem Al.alloc {lo hi:Nat}{w w':Z}(T:Al lo hi w w')(o:Obj):Al lo hi w (w'.alloc o):=T.trans (Al.of_below (AN w' o) NLN)
theorem Al.setNew {lo:Nat}{w w':Z}(T:Al lo hi w w')(p:jD)(u:jB)(hp:w.heap.size<=p.block):Al lo hi w (w'.setCell p u):=
 ⟨T.os,T.tape,T.output,by simp;exact T.size,fun k hk hd=>(heap_setCell_other w' p k u (by omega)).trans (T.block k hk hd)⟩
theorem Al.put4 {lo:Nat}{w w':Z}{b:Nat}(T:Al lo hi w w')(hp:w.heap.size<=b)(a c d f:jB):Al lo hi w (Uq w' b a c d f):=
 (((T.setNew ⟨b,0,none⟩ a hp).setNew ⟨b,1,none⟩ c hp).setNew ⟨b,2,none⟩ d hp).setNew ⟨b,3,none⟩ f hp
theorem Ah.touch' {w w':Z}{lo hi:Nat}{a:Array jB}{t:jI}(h:Ah w b a t)(T:Al lo hi w w')(hd:b<lo\/hi<=b):Ah w' b a t:=⟨(T.block b h.lt hd).trans h.out⟩
theorem EN.put4 {w:Z}{g b:Nat}{a:Int}{s:AI}(h:EN w g t h1 a s)(c d f i:jB)(hp:g<b):EN (Uq w b c d f i) g t h1 a s:=
 (((h.setFar ⟨b,0,T⟩ c hp).setFar ⟨b,1,T⟩ d hp).setFar ⟨b,2,T⟩ f hp).setFar ⟨b,3,T⟩ i hp
theorem hC {w:Z}{base:Nat}{e:jI}{size n b:Nat}{a:List jB}(h:w.ownsRow base e size v n a)(hd:∀q,v.ownBlock=Y q->q≠b){c d f g:jB} :(Uq w b c d f g).ownsRow base e size v n a:=
 Ai (Ai (Ai (Ai h ⟨b,0,T⟩ c hd) ⟨b,1,T⟩ d hd) ⟨b,2,T⟩ f hd) ⟨b,3,T⟩ g hd
theorem MD {c:Func}{a:Tmp}(h:c.results= #[.cell a 44]){w:Z}{f g i:jB}(j:tmps.getD a undef=jH (Y ⟨b,0,T⟩))
  (k:w.cell? ⟨b,0,T⟩=Y v)(l:w.cell? ⟨b,1,T⟩=Y f)(m:w.cell? ⟨b,2,T⟩=Y g)(n:w.cell? ⟨b,3,T⟩=Y i):
  (results c tmps).run jL w= .ok (jE #[v,f,g,i]) w:=by
 rw[yH]at j;simp[results,h,j,go_sem,k,l,m,n]
theorem Yt (g:Nat)(h0 h1 C:Int)(s:AI)(w:Z)(h:EN w g h0 h1 C s):
  Calls jL 41 #[jH (Y ⟨g,0,T⟩)] w fun e w'=>Ahp w g h0 h1 C (JC s) e w':=by
 have hg:=h.lt;have ae:=h.alloc (jC #[U V 0,U V 0,Q ⟨#[]⟩,X T 0 0] 44);have M:=Ab (J6 g h0 h1 C s _ ae);have af:=Ah.new w #[U V 0,U V 0,Q ⟨#[]⟩,X T 0 0] 44;have ag:=(Al.refl g (g+1) w).alloc (jC #[U V 0,U V 0,Q ⟨#[]⟩,X T 0 0] 44);have N:=Fz s h.ok;have ah:=N.1;have ai:=N.2;have c:=Ab (show JC s=FQ (AG 1 s).1 (AG 1 s).2 from rfl);generalize AG 1 s=r at M c ah ai;obtain⟨k,s1⟩:=r;simp only at ah ai c;clear N h ae;go_enter func41,ntmps41
 go_wp2_with fail
 refine(Aa M).mono ?_;rintro e b ⟨rfl,O,L⟩;simp only at O;have ak:=L.size;simp only[World.size_alloc]at ak;have D:=(af.touch' L (.inr (by omega))).alloc (jC #[U V k,U V 0,Q ⟨#[]⟩,X T 0 0] 44);have H:=Ah.new b #[U V k,U V 0,Q ⟨#[]⟩,X T 0 0] 44;have I:=O.alloc (jC #[U V k,U V 0,Q ⟨#[]⟩,X T 0 0] 44);have J:=(ag.trans L).alloc (jC #[U V k,U V 0,Q ⟨#[]⟩,X T 0 0] 44);clear M L ag af O;by_cases P:k=1
 ·subst P;have c:=Ab ((Aa c).trans (show FQ 1 s1=(⟨1,(AG 1 s1).1,⟨#[]⟩,[]⟩,(AG 1 s1).2)from rfl));have u:=Ab (J6 g h0 h1 C s1 _ I);generalize AG 1 s1=r at u c;obtain⟨a,s2⟩:=r;go_wp2_with fail
  refine(Aa u).mono ?_;rintro e w2 ⟨rfl,l,d⟩;simp only at l;have f:=H.touch' d (.inr (by omega));have i:=D.touch' d (.inr (by omega));obtain⟨c0,c1,c2,c3⟩:=AC f;have E:=fun j=>f.frozen j;obtain⟨e0,e1,e2,e3⟩:=AC i;have F:=fun j=>i.frozen j;have S:w.heap.size≠b.heap.size:=by omega
  have aj:b.heap.size≠w.heap.size:=by omega
  have v:=f.set 1 (U V a);have x:=i.setFar (p:=⟨b.heap.size,1,T⟩) (by show w.heap.size≠b.heap.size;omega) (U V a);have y:=l.setFar ⟨b.heap.size,1,T⟩ (U V a) (by show g<b.heap.size;omega);have z:=(J.trans d).setNew ⟨b.heap.size,1,T⟩ (U V a) (by show w.heap.size<=b.heap.size;omega);simp only[zV,zQ,zX]at v;clear f i l d;go_wp2_with fail
  generalize w2.setCell ⟨b.heap.size,1,T⟩ (U V a)=W at v x y z|-;clear c0 c1 c2 c3 E F e0 e1 e2 e3;have B:=JK x (U V 1) (U V a) (Q ⟨#[]⟩) (X T 0 0);obtain⟨m,n,o,t⟩:=AC B;simp only[Uq]at m n o t;refine bodyPost_ret (MD results41 rfl m n o t) rfl ?_;rw[Aa c];exact⟨_,_,rfl,hC (World.ownsRow_nil _ _ _ _) (by intro q A;cases A),EN.put4 y _ _ _ _ hg,Al.put4 z NLN _ _ _ _⟩
 by_cases aa:k=2
 ·subst aa;have c:=Ab ((Aa c).trans (show FQ 2 s1=(⟨2,(AG 8 s1).1,⟨#[]⟩,[]⟩,(AG 8 s1).2)from rfl));have u:=Ab (AcT g h0 h1 C s1 _ I);generalize AG 8 s1=r at u c;obtain⟨a,s2⟩:=r;go_wp2_with fail
  refine(Aa u).mono ?_;rintro e w2 ⟨rfl,l,d⟩;simp only at l;have f:=H.touch' d (.inr (by omega));have i:=D.touch' d (.inr (by omega));obtain⟨c0,c1,c2,c3⟩:=AC f;have E:=fun j=>f.frozen j;obtain⟨e0,e1,e2,e3⟩:=AC i;have F:=fun j=>i.frozen j;have S:w.heap.size≠b.heap.size:=by omega
  have aj:b.heap.size≠w.heap.size:=by omega
  have v:=f.set 1 (U V a);have x:=i.setFar (p:=⟨b.heap.size,1,T⟩) (by show w.heap.size≠b.heap.size;omega) (U V a);have y:=l.setFar ⟨b.heap.size,1,T⟩ (U V a) (by show g<b.heap.size;omega);have z:=(J.trans d).setNew ⟨b.heap.size,1,T⟩ (U V a) (by show w.heap.size<=b.heap.size;omega);simp only[zV,zQ,zX]at v;clear f i l d;go_wp2_with fail
  generalize w2.setCell ⟨b.heap.size,1,T⟩ (U V a)=W at v x y z|-;clear c0 c1 c2 c3 E F e0 e1 e2 e3;have B:=JK x (U V 2) (U V a) (Q ⟨#[]⟩) (X T 0 0);obtain⟨m,n,o,t⟩:=AC B;simp only[Uq]at m n o t;refine bodyPost_ret (MD results41 rfl m n o t) rfl ?_;rw[Aa c];exact⟨_,_,rfl,hC (World.ownsRow_nil _ _ _ _) (by intro q A;cases A),EN.put4 y _ _ _ _ hg,Al.put4 z NLN _ _ _ _⟩
 by_cases ab:k=3
 ·subst ab;have c:=Ab ((Aa c).trans (show FQ 3 s1=(⟨3,0,(DF s1).1,[]⟩,(DF s1).2)from rfl));have u:=Ab (TC g h0 h1 C s1 _ I);generalize DF s1=r at u c;obtain⟨a,s2⟩:=r;go_wp2_with fail
  refine(Aa u).mono ?_;rintro e w2 ⟨rfl,l,d⟩;simp only at l;have f:=H.touch' d (.inr (by omega));have i:=D.touch' d (.inr (by omega));obtain⟨c0,c1,c2,c3⟩:=AC f;have E:=fun j=>f.frozen j;obtain⟨e0,e1,e2,e3⟩:=AC i;have F:=fun j=>i.frozen j;have S:w.heap.size≠b.heap.size:=by omega
  have aj:b.heap.size≠w.heap.size:=by omega
  have v:=f.set 2 (Q a);have x:=i.setFar (p:=⟨b.heap.size,2,T⟩) (by show w.heap.size≠b.heap.size;omega) (Q a);have y:=l.setFar ⟨b.heap.size,2,T⟩ (Q a) (by show g<b.heap.size;omega);have z:=(J.trans d).setNew ⟨b.heap.size,2,T⟩ (Q a) (by show w.heap.size<=b.heap.size;omega);simp only[zV,zQ,zX]at v;clear f i l d;go_wp2_with fail
  generalize w2.setCell ⟨b.heap.size,2,T⟩ (Q a)=W at v x y z|-;clear c0 c1 c2 c3 E F e0 e1 e2 e3;have B:=JK x (U V 3) (U V 0) (Q a) (X T 0 0);obtain⟨m,n,o,t⟩:=AC B;simp only[Uq]at m n o t;refine bodyPost_ret (MD results41 rfl m n o t) rfl ?_;rw[Aa c];exact⟨_,_,rfl,hC (World.ownsRow_nil _ _ _ _) (by intro q A;cases A),EN.put4 y _ _ _ _ hg,Al.put4 z NLN _ _ _ _⟩
 by_cases ac:k=4
 ·subst ac;have c:=Ab ((Aa c).trans (show FQ 4 s1=(⟨4,0,⟨#[]⟩,(NM s1).1⟩,(NM s1).2)from rfl));have u:=Ab (AaT g h0 h1 C s1 _ I);generalize NM s1=r at u c;obtain⟨a,s2⟩:=r;go_wp2_with fail
  refine(Aa u).mono ?_;rintro e w2 ⟨G,cd,rfl,K,l,d⟩;simp only at l K;simp only[World.size_alloc]at K;have f:=H.touch' d (.inr (by omega));have i:=D.touch' d (.inr (by omega));obtain⟨c0,c1,c2,c3⟩:=AC f;have E:=fun j=>f.frozen j;obtain⟨e0,e1,e2,e3⟩:=AC i;have F:=fun j=>i.frozen j;have S:w.heap.size≠b.heap.size:=by omega
  have v:=f.set 3 (X G a.length cd);have x:=i.setFar (p:=⟨b.heap.size,3,T⟩) (by show w.heap.size≠b.heap.size;omega) (X G a.length cd);have y:=l.setFar ⟨b.heap.size,3,T⟩ (X G a.length cd) (by show g<b.heap.size;omega);have z:=(J.trans d).setNew ⟨b.heap.size,3,T⟩ (X G a.length cd) (by show w.heap.size<=b.heap.size;omega);have ad:=Ai K ⟨b.heap.size,3,T⟩ (X G a.length cd) (fun q A=>by have:=(K.lt q A).1;show q≠b.heap.size;omega);simp only[zV,zQ,zX]at v;clear f i l d K;go_wp2_with fail
  generalize w2.setCell ⟨b.heap.size,3,T⟩ (X G a.length cd)=W at v x y z ad|-;clear c0 c1 c2 c3 E F e0 e1 e2 e3;have al:=Aj ad (show w.heap.size<=b.heap.size+1 by omega);have B:=JK x (U V 4) (U V 0) (Q ⟨#[]⟩) (X G a.length cd);obtain⟨m,n,o,t⟩:=AC B;simp only[Uq]at m n o t;refine bodyPost_ret (MD results41 rfl m n o t) rfl ?_;rw[Aa c];exact⟨_,_,rfl,hC al (by intro q A;have:=(ad.lt q A).1;omega),EN.put4 y _ _ _ _ hg,Al.put4 z NLN _ _ _ _⟩
 have c:=Ab ((Aa c).trans (show FQ k s1=(⟨k,0,⟨#[]⟩,[]⟩,s1) by unfold FQ;rw[if_neg P,if_neg aa,if_neg ab,if_neg ac];rfl));have ao:(k==1)=jA:=zA.2 P;have ap:(k==2)=jA:=zA.2 aa;have aq:(k==3)=jA:=zA.2 ab;have ar:(k==4)=jA:=zA.2 ac;obtain⟨c0,c1,c2,c3⟩:=AC H;have au:=fun j=>(D).frozen j;obtain⟨e0,e1,e2,e3⟩:=AC D;go_wp2_with fail
 have B:=JK D (U V k) (U V 0) (Q ⟨#[]⟩) (X T 0 0);obtain⟨m,n,o,t⟩:=AC B;simp only[Uq]at m n o t;refine bodyPost_ret (MD results41 rfl m n o t) rfl ?_;rw[Aa c];exact⟨_,_,rfl,hC (World.ownsRow_nil _ _ _ _) (by intro q A;cases A),EN.put4 I _ _ _ _ hg,Al.put4 J NLN _ _ _ _⟩
theorem Gv {a:Type}{f:AI->a×AI}{p:a->Prop}(b:∀s:AI,AB s.1->p (f s).1/\AB (f s).2.1):∀(k:Nat) (s:AI),AB s.1->(∀x∈(Av f k s).1,p x)/\AB (Av f k s).2.1/\(Av f k s).1.length<=k
 |0,s,h=>⟨(fun x hx=>by cases hx),h,NLN⟩
 |k+1,s,h=>by
  rw[Av];split
  ·exact⟨(fun x hx=>by cases hx),h,zE _⟩
  ·obtain⟨h1,c⟩:=b s h;obtain⟨d,g,h5⟩:=Gv b k (f s).2 c;refine⟨fun x hx=>?_,g,by simp;exact h5⟩;rcases zT.1 hx with rfl|hx
   ·exact h1
   ·exact d x hx
theorem Zy (s:AI)(h:AB s.1):KU (JC s).1/\AB (JC s).2.1:=by
 show KU (FQ (AG 1 s).1 (AG 1 s).2).1/\AB (FQ (AG 1 s).1 (AG 1 s).2).2.1;have h1:AB (AG 1 s).2.1:=(BG 1 s h).2;generalize AG 1 s=r at h1;obtain⟨k,s1⟩:=r;simp only at h1|-;have nl:KU ⟨k,0,⟨#[]⟩,[]⟩:=⟨by simp[ByteArray.size],by simp,fun x hx=>by cases hx⟩
 unfold FQ;split
 ·exact⟨⟨nl.1,nl.2⟩,(BG 1 s1 h1).2⟩
 split
 ·exact⟨⟨nl.1,nl.2⟩,(BG 8 s1 h1).2⟩
 split
 ·have:=QT s1 h1;exact⟨⟨this.1,nl.2⟩,this.2⟩
 split
 ·have a1:=Fz s1 h1;obtain⟨b1,b2,b3⟩:=Gv (f:=DF) (p:=fun t=>t.size<=255) (fun s hs=>QT s hs) (AG 1 s1).1.toNat (AG 1 s1).2 (BG 1 s1 h1).2;exact⟨⟨nl.1,(by show(Av DF (AG 1 s1).1.toNat (AG 1 s1).2).1.length<=255;omega),b1⟩,b2⟩
 ·exact⟨nl,h1⟩
end Go.Proofs.YtppafecmccdplaaGreat
