import Derived.Test.YtppafecmccdplaaGreatMXAK
open Go.Proofs.Tryz
open Option renaming none->T,some->Y
open Go.Value renaming int->U,slice->X,string->Q,pointer->jH
open Go.IntKind renaming i64->V
open Go renaming World->Z,Value->jB
open Bool renaming true->R,false->jA
open Go.Obj renaming cells->jC
open Go.Proofs.Tryz renaming prog->jL
namespace Go.Proofs.YtppafecmccdplaaGreat
set_option maxRecDepth 100000
set_option maxHeartbeats 6400000
open Go.RowKit
set_option linter.unusedVariables false
variable {s:AI}{h0 h1 b:Int}{g n c:Nat}{x:Option Addr}{t:TypeId}{a d:jB}{w:Z}
def Pc (t:List Int):Bool:=(Fr t).toList==[80,76,49]
theorem TE (t:List Int)(ok:AB t):Pc t=R↔t=[80,76,49]:=by
 unfold Pc;rw[zF,zy];show(t.map fun x=>UInt8.ofNat x.toNat)=_↔_;constructor
 ·intro h;have hs:KM (Fr t)=[80,76,49]:=by
   rw[KM];show(t.map fun x=>UInt8.ofNat x.toNat).map _=_;rw[h];rfl
  rw[Kw t ok]at hs;exact hs
 ·rintro rfl;rfl
def DO (s:AI):AI:=if Pc (Be 3 s).1 then (Be 3 s).2 else ((Be 3 s).2.1,R)
theorem EN.setBroken {d:Int}(h:EN w g h0 h1 d s)(b:Bool):EN (w.setCell ⟨g,4,T⟩ (.bool b)) g h0 h1 d (s.1,b):=by
 obtain⟨a,n,c,R,f⟩:=h;refine⟨a,n,c,⟨?_,f.blocks (fun k hk _=>heap_setCell_other w ⟨g,4,T⟩ k _ (by show k≠g;omega)) (by simp)⟩⟩;exact R.set 4 (.bool b)
theorem EN.set0 (h:EN w g h0 h1 b s)(x:Int):EN (w.setCell ⟨g,0,T⟩ (U V x)) g x h1 b s:=by
 obtain⟨a,n,c,R,d⟩:=h;exact⟨a,n,c,⟨R.set 0 (U V x),d.blocks (fun k hk _=>heap_setCell_other w ⟨g,0,T⟩ k _ (by show k≠g;omega)) (by simp)⟩⟩
theorem EN.set1 (h:EN w g h0 h1 b s)(x:Int):EN (w.setCell ⟨g,1,T⟩ (U V x)) g h0 x b s:=by
 obtain⟨a,n,c,R,d⟩:=h;exact⟨a,n,c,⟨R.set 1 (U V x),d.blocks (fun k hk _=>heap_setCell_other w ⟨g,1,T⟩ k _ (by show k≠g;omega)) (by simp)⟩⟩
theorem EN.set2 (h:EN w g h0 h1 b s)(x:Int):EN (w.setCell ⟨g,2,T⟩ (U V x)) g h0 h1 x s:=by
 obtain⟨a,n,c,R,d⟩:=h;exact⟨a,n,c,⟨R.set 2 (U V x),d.blocks (fun k hk _=>heap_setCell_other w ⟨g,2,T⟩ k _ (by show k≠g;omega)) (by simp)⟩⟩
theorem EN.cells (h:EN w g h0 h1 b s):w.cell? ⟨g,0,T⟩=Y (U V h0)/\w.cell? ⟨g,1,T⟩=Y (U V h1)/\w.cell? ⟨g,2,T⟩=Y (U V b)/\w.cell? ⟨g,4,T⟩=Y (.bool s.2)/\∀j,w.frozen? ⟨g,j,T⟩=jA:=by
 obtain⟨a,n,c,R,l⟩:=h;obtain⟨d,f,i,m,k⟩:=DM R;exact⟨d,f,i,k,fun j=>R.frozen j⟩
theorem Al.drew {lo hi:Nat}{w w':Z}(T:Al lo hi w w'):Al lo hi w w'.drew:=⟨T.os,T.tape,T.output,T.size,T.block⟩
theorem Al.undrew {lo hi:Nat}{w':Z}(T:Al lo hi w.drew w'):Al lo hi w w':=⟨T.os,T.tape,T.output,T.size,T.block⟩
def Kx (w:Z) (b o:Nat):Nat:=match w.cell? ⟨b,o,T⟩with|some v=>AcU v|none=>0
theorem Pd {b:Nat}(h:Ah w b #[X x n c,a,d] t):Kx w b 0=n:=by
 rw[Kx,(Ao h).1];rfl
theorem ME {b:Nat}(h:Ah w b #[a,d,X x n c] t):Kx w b 2=n:=by
 rw[Kx,(Ao h).2.2];rfl
theorem AcW {c:Func}{a:Tmp}(h:c.results= #[.cell a 26]){tmps:Array jB}{b:Nat}{d f g:jB}(i:tmps.getD a undef=jH (Y ⟨b,0,T⟩))
  (j:w.cell? ⟨b,0,T⟩=Y d)(k:w.cell? ⟨b,1,T⟩=Y f)(l:w.cell? ⟨b,2,T⟩=Y g):
  (results c tmps).run jL w= .ok (.agg #[d,f,g]) w:=by
 rw[yH]at i;simp[results,h,i,go_sem,j,k,l]
def Ahq (w:Z) (g:Nat) (r:Cd×AI) (e:Ending) (w':Z):Prop:=∃x cx y cy nv,e= .returned (.agg #[X x r.1.pool.length cx,U V r.1.slots,X y r.1.ins.length cy])/\BU w' w.heap.size (X x r.1.pool.length cx) r.1.pool nv/\w'.ownsRow w.heap.size 49 2 (X y r.1.ins.length cy) r.1.ins.length (TD r.1.ins)/\
 (∀q,(Value.slice y r.1.ins.length cy).ownBlock=Y q->(Value.slice x r.1.pool.length cx).ownBlock≠Y q/\∀j,(hj:j<nv.length)->nv[j].ownBlock≠Y q)/\(∃h0 h1 h2,EN w' g h0 h1 h2 r.2)/\Al g (g+1) w w'
theorem AaU (g:Nat)(h0 h1 av:Int)(s:AI)(w:Z)(h:EN w g h0 h1 av s):
  Calls jL 18 #[jH (Y ⟨g,0,T⟩)] w fun e w'=>Ahq w g (DA (DO s)) e w':=by
 obtain⟨cs,ct,cu,cv,cw⟩:=info_parts XQ;obtain⟨cy,cz,cA,cB,cC⟩:=info_parts IZ;have hg:=h.lt;have cZ:=h.ok;have b1:=(h.alloc (jC #[X T 0 0,U V 0,X T 0 0] 26)).alloc (jC #[X T 0 0,U V 0,X T 0 0] 26);have b2:=(Ah.new w #[X T 0 0,U V 0,X T 0 0] 26).alloc (jC #[X T 0 0,U V 0,X T 0 0] 26);have RC:=Ah.new (w.alloc (jC #[X T 0 0,U V 0,X T 0 0] 26)) #[X T 0 0,U V 0,X T 0 0] 26;simp only[World.size_alloc]at RC;have b4:=((Al.refl g (g+1) w).alloc (jC #[X T 0 0,U V 0,X T 0 0] 26)).alloc (jC #[X T 0 0,U V 0,X T 0 0] 26);have d:=Ab (show DO s=if Pc (Be 3 s).1 then (Be 3 s).2 else ((Be 3 s).2.1,R)from rfl);have bv:=Ab (QR g h0 h1 av s 3 _ b1 (by omega));have a9:=Ab (show Pc (Be 3 s).1=((Fr (Be 3 s).1).toList==[80,76,49])from rfl);generalize Be 3 s=r at d bv a9;obtain⟨bw,c3,b3⟩:=r;simp only at d a9;go_enter func18,ntmps18
 go_wp2_with fail
 refine(Aa bv).mono ?_;rintro e ba ⟨a,n,c,rfl,b5,aX,aY⟩;have b6:=MC b5;simp only at b6 aX;obtain⟨H,J,L,v,N⟩:=aX.cells;have bx:=b2.touch' aY (.inr (by omega));have bz:=RC.touch' aY (.inr (by omega));have bA:=b4.trans aY;have bB:=aY.size;simp only[World.size_alloc]at bB;clear b2 RC b4 aY b1 b5;have cD:∃B s1,(Pc bw=R/\B=ba\/Pc bw=jA/\B=ba.setCell ⟨g,4,T⟩ (.bool R))/\s1=DO s/\EN B g h0 h1 av s1/\Ah B w.heap.size #[X T 0 0,U V 0,X T 0 0] 26/\Ah B (w.heap.size+1) #[X T 0 0,U V 0,X T 0 0] 26/\Al g (g+1) w B/\w.heap.size+2<=B.heap.size:=by
  cases hm:Pc bw with
  |true=>
   refine⟨ba,DO s,.inl ⟨rfl,rfl⟩,rfl,?_,bx,bz,bA,bB⟩;rw[Aa d,hm];exact aX
  |false=>
   refine⟨ba.setCell ⟨g,4,T⟩ (.bool R),DO s,.inr ⟨rfl,rfl⟩,rfl,?_,bx.setFar (by show w.heap.size≠g;omega) _,bz.setFar (by show w.heap.size+1≠g;omega) _,bA.trans (Al.setCell _ _ _ NLN (z5 _)),by simp;exact bB⟩;rw[Aa d,hm];exact aX.setBroken R
 obtain⟨B,s1,aw,b7,bC,b8,b9,ca,cE⟩:=cD;have cb:=bC.ok;have bb:=Ab (show DA (DO s)=DA s1 by rw[b7]);clear b7 d;have cc:=Ab (Jj g h0 h1 av s1 B bC);have bc:=Ab (show DA s1=Bl (Av JC (AG 2 s1).1.toNat) (fun p=>Bl (AG 2) fun sl=>Bl (AG 2) fun m=>Bl (Av IF m.toNat) fun i=>rt (⟨p,sl,i⟩:Cd)) (AG 2 s1).2 from rfl);have aH:=FC s1 cb;have bD:AB (AG 2 s1).2.1:=(BG 2 s1 cb).2;generalize AG 2 s1=r at cc bc aH bD;obtain⟨c4,s2⟩:=r;simp only at aH bc bD;obtain⟨K,rfl⟩:=Z5 aH.1;have c5:K<=65535:=by omega
 have bb:=Ab ((Aa bb).trans (Aa bc));simp only[zb]at bb;clear bc aH;rcases aw with⟨hm,aw⟩|⟨hm,aw⟩
 all_goals
  have cF:=Ab aw;have cG:=(Aa a9).symm.trans hm;clear aw hm a9 bC aX bx bz bA h bv;go_wp2_with fail
  rw[<-Aa cF];clear H J L v N b6 cG;refine(Aa cc).mono ?_;rintro e bE ⟨rfl,bd,aZ⟩;simp only at bd;obtain⟨H,J,L,v,N⟩:=bd.cells;have cH:=aZ.size;have bF:=(b8.touch' aZ (.inr (by omega))).setFar (p:=⟨g,0,T⟩) (by show w.heap.size≠g;omega) (U V K);have bG:=(b9.touch' aZ (.inr (by omega))).setFar (p:=⟨g,0,T⟩) (by show w.heap.size+1≠g;omega) (U V K);have bH:=(ca.trans aZ).trans (Al.setCell (lo:=g) (hi:=g+1) bE ⟨g,0,T⟩ (U V K) NLN (z5 _));have bI:=bd.set0 K;have bJ:w.heap.size+2<=(bE.setCell ⟨g,0,T⟩ (U V K)).heap.size:=by simp;omega
  clear b8 b9 ca cE aZ bd cH;go_wp2_with fail
  generalize bE.setCell ⟨g,0,T⟩ (U V K)=c6 at bF bG bH bI bJ|-;clear H J L v N;go_loopw [] (fun wr=>∃ (x:Option Addr) (cx:Nat) (P:List Vl) (z:List jB) (st:AI) (k:Nat),Ah wr (w.heap.size+1) #[X x P.length cx,U V 0,X T 0 0] 26/\Ah wr w.heap.size #[X T 0 0,U V 0,X T 0 0] 26/\BU wr (w.heap.size+2) (X x P.length cx) P z/\P.length+k=K/\EN wr g K h1 av st/\Hid ((P++(Av JC k st).1,(Av JC k st).2)=Av JC K s2)/\Al g (g+1) w wr/\w.heap.size+2<=wr.heap.size) (fun wr=>K-Kx wr (w.heap.size+1) 0)
  case atStart=>exact⟨T,0,[],[],s2,K,bG,bF,BU.nil _ _,by simp,bI,Ab (by simp),bH,bJ⟩
  case round=>
   obtain⟨x,cx,P,z,⟨st,C⟩,k,S,ax,al,hk,ag,a0,ay,az⟩:=hrel;obtain⟨H,J,L,v,N⟩:=ag.cells;obtain⟨c0,c1,c2⟩:=Ao S;simp only at v;clear bG bF bI bH bJ;by_cases aA: 0<k/\C=jA
   ·obtain⟨bK,rfl⟩:=aA;obtain⟨k,rfl⟩:∃bL,k=bL+1:=⟨k-1,by omega⟩
    have bM:(P.length:Int)<(K:Int):=by omega
    have aI:=Aa a0;rw[GP _ _ _ rfl]at aI;have d:=Ab aI;have cd:=Ab (fun B (aw:EN B g K h1 av (st,jA))=>Yt g K h1 av (st,jA) B aw);have ce:=al.lts;generalize JC (st,jA)=r at d cd;obtain⟨y,a1⟩:=r;simp only at d;have a2:=Ab hk;have cI:P.length<=65534:=by omega
    clear aI a0 hk bK;go_wp2_with fail
    go_region
    go_wp2_with fail
    have bN:=Ab (Pd S);have Rd:=ag.blocks (w':=wr.drew) (fun _ _=>rfl) NLN;have l:Ah wr.drew (w.heap.size+1) _ _:=⟨S.out⟩
    have o:Ah wr.drew w.heap.size _ _:=⟨ax.out⟩
    have D:=al.blocks (w':=wr.drew) (fun _ _ _=>rfl);have E:=ay.drew;have ac:w.heap.size+2<=wr.drew.heap.size:=az;have bf:(∀q,(Value.slice x P.length cx).ownBlock=Y q->w.heap.size+2<=q/\q<wr.drew.heap.size)/\∀j,(aJ:j<z.length)->∀q,z[j].ownBlock=Y q->w.heap.size+2<=q/\q<wr.drew.heap.size:=ce;obtain⟨bO,d1,d2⟩:=Ao l;clear c0 c1 c2 H J L v N S ax al ay az ag ce;generalize wr.drew=ah at Rd l o D E ac bf bO d1 d2|-;have sd:ah.drew.cell? ⟨w.heap.size+1,0,T⟩=Y (X x P.length cx):=bO;have bP:(Tryz.f41.name== "runtime.NumGoroutine")=jA:=by kernel_rfl
    have bQ: Tryz.f41.body.isNone=jA:=by kernel_rfl
    have bR:=Ab (Fd (Aa cd ah.drew (Rd.blocks (w':=ah.drew) (fun _ _=>rfl) NLN)) (fun e w' ⟨a,c,h,_⟩=>⟨_,h⟩));go_region_law (first
     |(refine EI rfl 41 _ func41 bP bQ _ _ rfl (jH (Y ⟨g,0,T⟩)) rfl _ (Aa bR) ?_;rintro c7 ad ⟨W,aa,cJ,bS,ai,t⟩;obtain rfl:=AS cJ;have aP:=t.undrew;have ae:=l.touch' aP (.inr (by omega));obtain⟨e0,e1,e2⟩:=Ao ae;have cf:=fun j=>ae.frozen j;have ao:=(D.touch aP (by omega)).alloc (jC #[U V y.kind,U V y.num,Q y.text,X W y.names.length aa] 44);have aB:=ae.alloc (jC #[U V y.kind,U V y.num,Q y.text,X W y.names.length aa] 44);obtain⟨cK,cL,cM⟩:=Ao aB;have a3:=World.news_of_block (heap_alloc_new ad (jC #[U V y.kind,U V y.num,Q y.text,X W y.names.length aa] 44));have cN:=aP.size)
     |(refine step_append_lies _ rfl _ _ 23 rfl (w.heap.size+2) 44 cs (.agg #[U V 0,U V 0,Q ByteArray.empty,X T 0 0]) 4 56 underlying23 ct cu cv cw rfl (by decide) (X x P.length cx) P.length (Iz P z) rfl ao.own ⟨ad.heap.size,0,T⟩ 1 1 (Uf y (X W y.names.length aa)) rfl rfl a3 (by intro u hu;simp[Uf]at hu;rcases hu with rfl|rfl|rfl|rfl<;>rfl) (by decide) (by unfold maxLen;omega) (by omega) (by simp;omega) _ rfl ?_;intro g7 af aj cg F hat c8;have ab:Ah aj (w.heap.size+1) _ _:=⟨(F.block (w.heap.size+1) aB.lt (fun e=>by have:=(bf.1 _ e.symm).1;omega)).trans aB.out⟩;have c9:aj.cell? ⟨w.heap.size+1,0,T⟩=Y (X x P.length cx):=(Ao ab).1;have da:=ab.frozen 0))
    all_goals
     have hu:(ad.alloc (jC #[U V y.kind,U V y.num,Q y.text,X W y.names.length aa] 44)).ownsRow (w.heap.size+2) 9 1 (X W y.names.length aa) y.names.length (y.names.map Value.string):=Aj (World.ownsRow.alloc bS _) ac;have ch:∀q,(Value.slice W y.names.length aa).ownBlock=Y q->ah.heap.size<=q:=fun q b=>(bS.lt q b).1;have bg:∀q,(Value.slice x P.length cx).ownBlock=Y q->w.heap.size+2<=q/\q<ah.heap.size:=bf.1;have ap:BU aj (w.heap.size+2) (X (Y ⟨g7,0,T⟩) (P.length+1) af) (P++[y]) (z++[X W y.names.length aa]):=ao.snoc hu (fun j aJ q b e=>by have:=(bf.2 j aJ q b).2;have:=ch q e;omega) (fun q b e=>by have:=(bg q e).2;have:=ch q b;omega) cg F (fun q b=>by
      have e:g7=q:=by simpa[Value.ownBlock]using b
      subst e;rcases hat with e|e
      ·exact .inl e
      ·right;simp at e|-;omega)
     have aC:=((E.trans aP).alloc (jC #[U V y.kind,U V y.num,Q y.text,X W y.names.length aa] 44)).grown F (fun q b=>by have:=(bg q b).1;omega);have aK:=(ai.alloc (jC #[U V y.kind,U V y.num,Q y.text,X W y.names.length aa] 44)).grown F (fun q b=>by have:=(bg q b).1;omega);have bT:=(o.touch' aP (.inr (by omega))).alloc (jC #[U V y.kind,U V y.num,Q y.text,X W y.names.length aa] 44);have aq:Ah aj w.heap.size _ _:=⟨(F.block w.heap.size bT.lt (fun e=>by have:=(bg _ e.symm).1;omega)).trans bT.out⟩
     have bU:=F.size;simp only[World.size_alloc]at bU;have aE:=ab.set 0 (X (Y ⟨g7,0,T⟩) (P.length+1) af);simp only[zV,zX]at aE;have bh:=aq.setFar (p:=⟨w.heap.size+1,0,T⟩) (by show w.heap.size≠w.heap.size+1;omega) (X (Y ⟨g7,0,T⟩) (P.length+1) af);have ar:=aK.setFar ⟨w.heap.size+1,0,T⟩ (X (Y ⟨g7,0,T⟩) (P.length+1) af) (by show g<w.heap.size+1;omega);have aF:=aC.setNew ⟨w.heap.size+1,0,T⟩ (X (Y ⟨g7,0,T⟩) (P.length+1) af) (by show w.heap.size<=w.heap.size+1;omega);have a4:=ap.set ⟨w.heap.size+1,0,T⟩ (X (Y ⟨g7,0,T⟩) (P.length+1) af) (by show w.heap.size+1<w.heap.size+2;omega);have a5:w.heap.size+2<=(aj.setCell ⟨w.heap.size+1,0,T⟩ (X (Y ⟨g7,0,T⟩) (P.length+1) af)).heap.size:=by simp;omega
     have aL:=Ab (show(P++[y]).length=P.length+1 by simp);have aG:Hid (Ah (aj.setCell ⟨w.heap.size+1,0,T⟩ (X (Y ⟨g7,0,T⟩) (P.length+1) af)) (w.heap.size+1) #[X (Y ⟨g7,0,T⟩) (P++[y]).length af,U V 0,X T 0 0] 26/\BU (aj.setCell ⟨w.heap.size+1,0,T⟩ (X (Y ⟨g7,0,T⟩) (P.length+1) af)) (w.heap.size+2) (X (Y ⟨g7,0,T⟩) (P++[y]).length af) (P++[y]) (z++[X W y.names.length aa])):=Ab (by rw[Aa aL];exact⟨aE,a4⟩);clear F hat cg ap aC aK bT aq aE a4 hu ao ae aB ab a3 t aP ai bS D Rd l o E;go_wp2
     go_roundw
     case rel=>exact⟨Y ⟨g7,0,T⟩,af,P++[y],z++[X W y.names.length aa],a1,k,(Aa aG).1,bh,(Aa aG).2,by rw[Aa aL];have:=Aa a2;omega,ar,d,aF,a5⟩
     case measure=>have:=Aa a2;rw[Aa bN,Pd (Aa aG).1,Aa aL];omega
   ·have d:Hid ((P,(st,C))=Av JC K s2):=Ab (by
     rw[<-Aa a0];by_cases h0:k=0
     ·subst h0;rw[Av,zd]
     ·have:C=R:=by
       cases C
       ·exact absurd ⟨yD h0,rfl⟩ aA
       ·rfl
      rw[GN _ _ _ this,zd])
    have bV:K=P.length\/(P.length:Int)<(K:Int)/\C=R:=by
     by_cases h0:k=0
     ·left;omega
     ·right;refine⟨by omega,?_⟩;cases C
      ·exact absurd ⟨yD h0,rfl⟩ aA
      ·rfl
    have ci:=Ab ((Aa bb).trans (show _=Bl (AG 2) (fun sl=>Bl (AG 2) fun m=>Bl (Av IF m.toNat) fun i=>rt (⟨P,sl,i⟩:Cd)) (st,C) by show Bl _ _ _=_;rw[Bl,<-Aa d]));have cI:P.length<=65535:=by omega
    have cj:∀x∈P,KU x:=by
     have:=(Gv (f:=JC) (p:=KU) Zy K s2 bD).1;rw[<-Aa d]at this;exact this
    have db:=Ab cj;clear a0 aA hk d cj;rcases bV with rfl|⟨bM,rfl⟩
    all_goals
     go_wp2_with fail
     go_region
     go_wp2_with fail
     have Rd:=ag.blocks (w':=wr.drew) (fun _ _=>rfl) NLN;have l:Ah wr.drew (w.heap.size+1) _ _:=⟨S.out⟩
     have o:Ah wr.drew w.heap.size _ _:=⟨ax.out⟩
     have D:=al.blocks (w':=wr.drew) (fun _ _ _=>rfl);have E:=ay.drew;have ac:w.heap.size+2<=wr.drew.heap.size:=az;clear c0 c1 c2 H J L v N S ax al ay az ag;generalize wr.drew=ah at Rd l o D E ac|-;have au:=Ab (Jj g _ h1 av _ ah Rd);have aH:=FC _ Rd.ok;have bi:=Ab ((Aa ci).trans (show Bl (AG 2) _ _=Bl (AG 2) (fun m=>Bl (Av IF m.toNat) fun i=>rt (⟨P,(AG 2 _).1,i⟩:Cd)) (AG 2 _).2 from rfl));have bj:=(BG 2 _ Rd.ok).2
     change AB (AG 2 _).2.1 at bj
     clear ci;generalize AG 2 _=r at au aH bi bj;obtain⟨sl,aM⟩:=r;simp only at aH bi bj;refine(Aa au).mono ?_;rintro e ad ⟨rfl,ai,t⟩;simp only at ai;obtain⟨H,J,L,v,N⟩:=ai.cells;have ae:=(l.touch' t (.inr (by omega))).setFar (p:=⟨g,1,T⟩) (by show w.heap.size+1≠g;omega) (U V sl);have aQ:=(o.touch' t (.inr (by omega))).setFar (p:=⟨g,1,T⟩) (by show w.heap.size≠g;omega) (U V sl);have ao:=(D.touch t (by omega)).set ⟨g,1,T⟩ (U V sl) (by show g<w.heap.size+2;omega);have aN:=ai.set1 sl;have aR:=(E.trans t).trans (Al.setCell (lo:=g) (hi:=g+1) ad ⟨g,1,T⟩ (U V sl) NLN (z5 _));have bW:w.heap.size+2<=(ad.setCell ⟨g,1,T⟩ (U V sl)).heap.size:=by have:=t.size;simp;omega
     clear l o D E ac Rd ai t au;go_wp2_with fail
     generalize ad.setCell ⟨g,1,T⟩ (U V sl)=cO at ae aQ ao aN aR bW|-;clear H J L v N;have au:=Ab (Jj g _ _ av aM cO aN);have bk:=FC aM aN.ok;have bl:=Ab ((Aa bi).trans (show Bl (AG 2) _ aM=Bl (Av IF (AG 2 aM).1.toNat) (fun i=>rt (⟨P,sl,i⟩:Cd)) (AG 2 aM).2 from rfl));have ck:AB (AG 2 aM).2.1:=(BG 2 _ bj).2;clear bi;generalize AG 2 aM=r at au bk bl ck;obtain⟨dc,aS⟩:=r;simp only at bk bl ck;obtain⟨M,rfl⟩:=Z5 bk.1;have a0:M<=65535:=by omega
     have cl:=Ab (show DA (DO s)=Bl (Av IF M) (fun i=>rt (⟨P,sl,i⟩:Cd)) aS by rw[Aa bl,zb]);clear bl bk;refine(Aa au).mono ?_;rintro e aj ⟨rfl,aK,aC⟩;simp only at aK;obtain⟨H,J,L,v,N⟩:=aK.cells;have ab:=(ae.touch' aC (.inr (by omega))).setFar (p:=⟨g,2,T⟩) (by show w.heap.size+1≠g;omega) (U V M);have aq:=(aQ.touch' aC (.inr (by omega))).setFar (p:=⟨g,2,T⟩) (by show w.heap.size≠g;omega) (U V M);have ap:=(ao.touch aC (by omega)).set ⟨g,2,T⟩ (U V M) (by show g<w.heap.size+2;omega);have ar:=aK.set2 M;have aF:=(aR.trans aC).trans (Al.setCell (lo:=g) (hi:=g+1) aj ⟨g,2,T⟩ (U V M) NLN (z5 _));have a5:w.heap.size+2<=(aj.setCell ⟨g,2,T⟩ (U V M)).heap.size:=by have:=aC.size;simp;omega
     clear ae aQ ao aN aR bW aK aC au;go_wp2_with fail
     generalize aj.setCell ⟨g,2,T⟩ (U V M)=cP at ab aq ap ar aF a5|-;clear H J L v N;obtain⟨a6,ar⟩:∃a6,EN cP g a6 sl M aS:=⟨_,ar⟩
     go_loopw [] (fun wr=>∃ (y:Option Addr) (ak:Nat) (I:List Cg) (st:AI) (k:Nat),Ah wr (w.heap.size+1) #[X x P.length cx,U V 0,X y I.length ak] 26/\Ah wr w.heap.size #[X T 0 0,U V 0,X T 0 0] 26/\BU wr (w.heap.size+2) (X x P.length cx) P z/\wr.ownsRow (w.heap.size+2) 49 2 (X y I.length ak) I.length (TD I)/\(∀q,(Value.slice y I.length ak).ownBlock=Y q->(Value.slice x P.length cx).ownBlock≠Y q/\∀j,(aJ:j<z.length)->z[j].ownBlock≠Y q)/\I.length+k=M/\EN wr g a6 sl M st/\Hid ((I++(Av IF k st).1,(Av IF k st).2)=Av IF M aS)/\Al g (g+1) w wr/\w.heap.size+2<=wr.heap.size) (fun wr=>M-Kx wr (w.heap.size+1) 2)
     case atStart=>exact⟨T,0,[],aS,M,ab,aq,ap,World.ownsRow_nil _ _ _ _,(fun q b=>by cases b),by simp,ar,Ab (by simp),aF,a5⟩
     case round=>
      clear ab aq ap ar aF a5;obtain⟨y,ak,I,⟨st,C⟩,k,S,ax,al,bm,bn,hk,ag,bo,ay,az⟩:=hrel;obtain⟨H,J,L,v,N⟩:=ag.cells;obtain⟨c0,c1,c2⟩:=Ao S;simp only at v;by_cases aA: 0<k/\C=jA
      ·obtain⟨bK,rfl⟩:=aA;obtain⟨k,rfl⟩:∃bL,k=bL+1:=⟨k-1,by omega⟩
       have bM:(I.length:Int)<(M:Int):=by omega
       have aI:=Aa bo;rw[GP _ _ _ rfl]at aI;have d:=Ab aI;have a2:=Ab hk;have dd:I.length<=65534:=by omega
       have bN:=Ab (ME S);clear aI bo hk bK;go_wp2_with fail
       go_region
       go_wp2_with fail
       have Rd:=ag.blocks (w':=wr.drew) (fun _ _=>rfl) NLN;have l:Ah wr.drew (w.heap.size+1) _ _:=⟨S.out⟩
       have o:Ah wr.drew w.heap.size _ _:=⟨ax.out⟩
       have D:=al.blocks (w':=wr.drew) (fun _ _ _=>rfl);have aD:=Ad (w':=wr.drew) bm (fun _ _=>rfl);have E:=ay.drew;have ac:w.heap.size+2<=wr.drew.heap.size:=az;clear c0 c1 c2 H J L v N S ax al bm ay az ag;generalize wr.drew=ah at Rd l o D aD E ac|-;have bX:=Ab (J6 g _ _ _ _ ah Rd);have a7:=Ab (show IF (st,jA)=(⟨(AG 1 (st,jA)).1,(AG 2 (AG 1 (st,jA)).2).1⟩,(AG 2 (AG 1 (st,jA)).2).2)from rfl);have a8:=Fz _ Rd.ok;generalize AG 1 (st,jA)=r at bX a7 a8;obtain⟨op,a1⟩:=r;simp only at a7 a8;have de:=a8.1;have df:=a8.2;refine(Aa bX).mono ?_;rintro e ad ⟨rfl,ai,t⟩;simp only at ai;have ae:=l.touch' t (.inr (by omega));have aQ:=o.touch' t (.inr (by omega));have ao:=D.touch t (by omega);have aT:∀q,(Value.slice y I.length ak).ownBlock=Y q->w.heap.size+2<=q:=fun q b=>(aD.lt q b).1;have cm:=FE aD t (fun q b=> .inr (by have:=aT q b;omega));have cn:=E.trans t;have cN:w.heap.size+2<=ad.heap.size:=zC ac t.size;obtain⟨bO,d1,d2⟩:=Ao ae;clear Rd l o D aD E ac bX t a8;go_wp2_with fail
       have au:=Ab (fun B (aw:EN B g a6 sl M a1)=>Jj g a6 sl M a1 B aw);generalize AG 2 a1=cQ at au a7;obtain⟨A,bY⟩:=cQ;simp only at a7;have sd:ad.drew.cell? ⟨w.heap.size+1,2,T⟩=Y (X y I.length ak):=d2;have bP:(Tryz.f40.name== "runtime.NumGoroutine")=jA:=by kernel_rfl
       have bQ: Tryz.f40.body.isNone=jA:=by kernel_rfl
       have bR:=Ab (Fd (Aa au ad.drew (ai.blocks (w':=ad.drew) (fun _ _=>rfl) NLN)) (fun e w' ⟨h,_⟩=>⟨_,h⟩));go_region_law (first
        |(refine EI rfl 40 _ func40 bP bQ _ _ rfl (jH (Y ⟨g,0,T⟩)) rfl _ (Aa bR) ?_;rintro dg co ⟨cS,aN,aR⟩;obtain rfl:=AS cS;have aO:=aR.undrew;have aB:=ae.touch' aO (.inr (by omega));obtain⟨e0,e1,e2⟩:=Ao aB;have cf:=fun j=>aB.frozen j;have cp:=World.ownsRow.alloc (FE cm aO (fun q b=> .inr (by have:=aT q b;omega))) (jC #[U V op,U V A] 49);have ab:=aB.alloc (jC #[U V op,U V A] 49);obtain⟨cK,cL,cM⟩:=Ao ab;have a3:=World.news_of_block (heap_alloc_new co (jC #[U V op,U V A] 49));have bW:=aO.size)
        |(refine step_append_lies _ rfl _ _ 24 rfl (w.heap.size+2) 49 cy (.agg #[U V 0,U V 0]) 2 16 underlying24 cz cA cB cC rfl (by decide) (X y I.length ak) I.length (TD I) rfl cp ⟨co.heap.size,0,T⟩ 1 1 [U V op,U V A] rfl rfl a3 (by intro u hu;simp at hu;rcases hu with rfl|rfl<;>rfl) (by decide) (by unfold maxLen;omega) (by omega) (by simp;omega) _ rfl ?_;intro G O aU bZ F hat dh;have aE:Ah aU (w.heap.size+1) _ _:=⟨(F.block (w.heap.size+1) ab.lt (fun e=>by have:=aT _ e.symm;omega)).trans ab.out⟩;have di:aU.cell? ⟨w.heap.size+1,2,T⟩=Y (X y I.length ak):=(Ao aE).2.2;have dj:=aE.frozen 2))
       all_goals
        have aq:=(aQ.touch' aO (.inr (by omega))).alloc (jC #[U V op,U V A] 49);have bh:Ah aU w.heap.size _ _:=⟨(F.block w.heap.size aq.lt (fun e=>by have:=aT _ e.symm;omega)).trans aq.out⟩
        have ap:=(ao.touch aO (by omega)).alloc (jC #[U V op,U V A] 49);have bp:=ap.lts;have a4:=ap.grown F (fun q b=>bn q b);have aF:=((cn.trans aO).alloc (jC #[U V op,U V A] 49)).grown F (fun q b=>by have:=aT q b;omega);have ar:=(aN.alloc (jC #[U V op,U V A] 49)).grown F (fun q b=>by have:=aT q b;omega);have bU:=F.size;simp only[World.size_alloc]at bU bp;have cq:∀q,(Value.slice (Y ⟨G,0,T⟩) (I.length+1) O).ownBlock=Y q->(Value.slice x P.length cx).ownBlock≠Y q/\∀j,(aJ:j<z.length)->z[j].ownBlock≠Y q:=fun q b=>by
         have e:G=q:=by simpa[Value.ownBlock]using b
         subst e;rcases hat with e|e
         ·exact bn _ e
         ·simp at e;exact⟨fun h=>by have:=(bp.1 _ h).2;omega,fun j aJ h=>by have:=(bp.2 j aJ _ h).2;omega⟩
        have aV:=aE.set 2 (X (Y ⟨G,0,T⟩) (I.length+1) O);simp only[zV,zX,zQ]at aV;have br:=bh.setFar (p:=⟨w.heap.size+1,2,T⟩) (by show w.heap.size≠w.heap.size+1;omega) (X (Y ⟨G,0,T⟩) (I.length+1) O);have bs:=ar.setFar ⟨w.heap.size+1,2,T⟩ (X (Y ⟨G,0,T⟩) (I.length+1) O) (by show g<w.heap.size+1;omega);have bt:=aF.setNew ⟨w.heap.size+1,2,T⟩ (X (Y ⟨G,0,T⟩) (I.length+1) O) (by show w.heap.size<=w.heap.size+1;omega);have bu:=a4.set ⟨w.heap.size+1,2,T⟩ (X (Y ⟨G,0,T⟩) (I.length+1) O) (by show w.heap.size+1<w.heap.size+2;omega);have aW:=Ai bZ ⟨w.heap.size+1,2,T⟩ (X (Y ⟨G,0,T⟩) (I.length+1) O) (fun q b=>by have:=(bZ.lt q b).1;show q≠w.heap.size+1;omega);have cT:w.heap.size+2<=(aU.setCell ⟨w.heap.size+1,2,T⟩ (X (Y ⟨G,0,T⟩) (I.length+1) O)).heap.size:=by simp;omega
        have aL:=Ab (show(I++[Cg.mk op A]).length=I.length+1 by simp);have cU:Hid ((I++[Cg.mk op A]++(Av IF k bY).1,(Av IF k bY).2)=Av IF M aS):=Ab (by have:=Aa d;rw[Aa a7]at this;exact this);have aG:Hid (Ah (aU.setCell ⟨w.heap.size+1,2,T⟩ (X (Y ⟨G,0,T⟩) (I.length+1) O)) (w.heap.size+1) #[X x P.length cx,U V 0,X (Y ⟨G,0,T⟩) (I++[Cg.mk op A]).length O] 26/\(aU.setCell ⟨w.heap.size+1,2,T⟩ (X (Y ⟨G,0,T⟩) (I.length+1) O)).ownsRow (w.heap.size+2) 49 2 (X (Y ⟨G,0,T⟩) (I++[Cg.mk op A]).length O) (I++[Cg.mk op A]).length (TD (I++[Cg.mk op A]))/\(∀q,(Value.slice (Y ⟨G,0,T⟩) (I++[Cg.mk op A]).length O).ownBlock=Y q->(Value.slice x P.length cx).ownBlock≠Y q/\∀j,(aJ:j<z.length)->z[j].ownBlock≠Y q)):=Ab (by rw[Aa aL,Wl];exact⟨aV,aW,cq⟩);clear F hat bZ aW ap a4 aF ar aq bh aV aE ab aB cp cm ao a3 aR aO aN ai ae aQ cn bp cq bn;go_wp2
        go_roundw
        case rel=>exact⟨Y ⟨G,0,T⟩,O,I++[Cg.mk op A],bY,k,(Aa aG).1,br,bu,(Aa aG).2.1,(Aa aG).2.2,by rw[Aa aL];have:=Aa a2;omega,bs,cU,bt,cT⟩
        case measure=>have:=Aa a2;rw[Aa bN,ME (Aa aG).1,Aa aL];omega
      ·have d:Hid ((I,(st,C))=Av IF M aS):=Ab (by
        rw[<-Aa bo];by_cases h0:k=0
        ·subst h0;rw[Av,zd]
        ·have:C=R:=by
          cases C
          ·exact absurd ⟨yD h0,rfl⟩ aA
          ·rfl
         rw[GN _ _ _ this,zd])
       have bV:M=I.length\/(I.length:Int)<(M:Int)/\C=R:=by
        by_cases h0:k=0
        ·left;omega
        ·right;refine⟨by omega,?_⟩;cases C
         ·exact absurd ⟨yD h0,rfl⟩ aA
         ·rfl
       have cV:=Ab (show DA (DO s)=(⟨P,sl,I⟩,(st,C)) by rw[Aa cl];show Bl _ _ _=_;rw[Bl,<-Aa d];rfl);clear bo aA hk d cl;rcases bV with rfl|⟨bM,rfl⟩
       all_goals
        go_wp2_with fail
        go_region
        have Rd:=ag.blocks (w':=wr.drew) (fun _ _=>rfl) NLN;have l:Ah wr.drew (w.heap.size+1) _ _:=⟨S.out⟩
        have o:Ah wr.drew w.heap.size _ _:=⟨ax.out⟩
        have D:=al.blocks (w':=wr.drew) (fun _ _ _=>rfl);have aD:=Ad (w':=wr.drew) bm (fun _ _=>rfl);have E:=ay.drew;have ac:w.heap.size+2<=wr.drew.heap.size:=az;clear c0 c1 c2 H J L v N S ax al bm ay az ag;generalize wr.drew=ah at Rd l o D aD E ac|-;obtain⟨H,J,L,v,N⟩:=Rd.cells;obtain⟨c0,c1,c2⟩:=Ao l;have dk:=fun j=>l.frozen j;obtain⟨e0,e1,e2⟩:=Ao o;have cf:=fun j=>o.frozen j;have dl:w.heap.size≠w.heap.size+1:=by omega
        have dm:w.heap.size+1≠w.heap.size:=by omega
        have aV:=l.set 1 (U V sl);simp only[zV,zX,zQ]at aV;have br:=o.setFar (p:=⟨w.heap.size+1,1,T⟩) (by show w.heap.size≠w.heap.size+1;omega) (U V sl);have bs:=Rd.setFar ⟨w.heap.size+1,1,T⟩ (U V sl) (by show g<w.heap.size+1;omega);have bt:=E.setNew ⟨w.heap.size+1,1,T⟩ (U V sl) (by show w.heap.size<=w.heap.size+1;omega);have bu:=D.set ⟨w.heap.size+1,1,T⟩ (U V sl) (by show w.heap.size+1<w.heap.size+2;omega);have aW:=Ai aD ⟨w.heap.size+1,1,T⟩ (U V sl) (fun q b=>by have:=(aD.lt q b).1;show q≠w.heap.size+1;omega);clear l o D aD E ac Rd;go_wp2_with fail
        generalize ah.setCell ⟨w.heap.size+1,1,T⟩ (U V sl)=dn at aV br bs bt bu aW|-;have cr:=((br.set 0 (X x P.length cx)).set 1 (U V sl)).set 2 (X y I.length ak);simp only[zV,zX,zQ]at cr;obtain⟨cW,cX,cY⟩:=Ao cr;refine bodyPost_ret (AcW results18 rfl cW cX cY) rfl ?_;rw[Aa cV];have b0:w.heap.size<w.heap.size+2:=by omega
        have far:∀q,(Value.slice y I.length ak).ownBlock=Y q->q≠w.heap.size:=fun q b=>by have:=(aW.lt q b).1;omega
        exact⟨x,cx,y,ak,z,rfl,(((bu.set ⟨w.heap.size,0,T⟩ _ b0).set ⟨w.heap.size,1,T⟩ _ b0).set ⟨w.heap.size,2,T⟩ _ b0).low (by omega),Aj (Ai (Ai (Ai aW ⟨w.heap.size,0,T⟩ _ far) ⟨w.heap.size,1,T⟩ _ far) ⟨w.heap.size,2,T⟩ _ far) (by omega),bn,⟨_,_,_,((bs.setFar ⟨w.heap.size,0,T⟩ _ hg).setFar ⟨w.heap.size,1,T⟩ _ hg).setFar ⟨w.heap.size,2,T⟩ _ hg⟩,((bt.setNew ⟨w.heap.size,0,T⟩ _ NLN).setNew ⟨w.heap.size,1,T⟩ _ NLN).setNew ⟨w.heap.size,2,T⟩ _ NLN⟩
end Go.Proofs.YtppafecmccdplaaGreat
