import Derived.Test.YtppafecmccdplaaGreatMXAL
open Go.Proofs.Tryz
open Option renaming none->T,some->Y
open Go.Value renaming int->U,slice->X,string->Q,pointer->jH
open Go.IntKind renaming i64->V
open Go renaming World->Z,Value->jB
open Bool renaming false->jA
open Go.Obj renaming cells->jC
open Go.Proofs.Tryz renaming prog->jL
namespace Go.Proofs.YtppafecmccdplaaGreat
set_option maxRecDepth 100000
set_option maxHeartbeats 12800000
open Go.RowKit
set_option linter.unusedVariables false
variable {zs:List Int}{B:Nat}{a:Option Addr}{w:Z}
theorem Ae0 {x:Int}(a: 0<=x)(b:x<=255){j:Nat}(c:j=(x / 12 % 4).toNat):(IntKind.i64.wrap (x.tdiv 12)).tmod 4=(j:Int):=by
 have e1:x.tdiv 12=x / 12:=yI a;have e2:IntKind.i64.wrap (x / 12)=x / 12:=by
  simp[IntKind.wrap,IntKind.bits,IntKind.signed];omega
 have e3:(x / 12).tmod 4=x / 12 % 4:=yJ (by omega);rw[e1,e2,e3];omega
theorem Ac8 (w:Z)(k:Nat)(hk:k<3):(Wp k).size<=10/\(w.alloc (jC #[Q ⟨#[118,48]⟩,Q ⟨#[97,115,107,101,100]⟩,Q ⟨#[110,111,119]⟩] 9)).cell? ⟨w.heap.size,k,T⟩=Y (Q (Wp k)):=by
 have h:=(Ah.new w #[Q ⟨#[118,48]⟩,Q ⟨#[97,115,107,101,100]⟩,Q ⟨#[110,111,119]⟩] 9).cell k
 match k,hk with
 |0,_=>exact⟨by decide,h⟩
 |1,_=>exact⟨by decide,h⟩
 |2,_=>exact⟨by decide,h⟩
theorem Ae1 (k:Nat)(hk:k<4):(Wq k).size<=10/\∀w:Z,(w.alloc (jC #[Q ⟨#[118]⟩,Q ⟨#[119]⟩,Q ⟨#[98,97,115,101]⟩,Q ⟨#[120,95,49]⟩] 9)).cell? ⟨w.heap.size,k,T⟩=Y (Q (Wq k)):=by
 have h:=fun w:Z=>(Ah.new w #[Q ⟨#[118]⟩,Q ⟨#[119]⟩,Q ⟨#[98,97,115,101]⟩,Q ⟨#[120,95,49]⟩] 9).cell k
 match k,hk with
 |0,_=>exact⟨by decide,h⟩
 |1,_=>exact⟨by decide,h⟩
 |2,_=>exact⟨by decide,h⟩
 |3,_=>exact⟨by decide,h⟩
def Aia (B R gb pb b0:Nat) (a:Option Addr) (n c:Nat) (zs:List Int) (wild:Bool) (p:Nat) (N:List Nd) (L:List (ByteArray×Int)) (nd lt:jB) (S:List St) (sv:jB) (w X:Z):Prop:=
 Ka B R gb a n c zs wild p N L nd lt X/\PgO X B pb S sv/\Ah X b0 #[.slice T 0 0,.slice T 0 0] 86/\GY B R w X
theorem PG.push {R x f z F:Nat}{n c:Nat}{wild:Bool}{p:Nat}{N:List Nd}{L:List (ByteArray×Int)}{nd lt:jB}{S:List St}{H I J K:jB}{b:Z}{X:Z}{i:Option Addr}{j:Nat}{ops:Array Oper}{rest:List Oper}{o:Oper}{q:Act}{Q:Exit->Act->Z->Prop}
  (h:PG B R x f z F a n c zs wild p N L nd lt S (.slice i S.length j) H I J K w b)(k:Int)(nm:ByteArray)(cd l:Int)(M:nm.size<=1048576)(ah:S.length<=14)(A:Nat)(O:b.heap.size=A)(r:X=b.alloc (Xz k nm cd l)\/X=(b.alloc (Xz k nm cd l)).drew)(W:o.guard=T)(s y:Operand)(aa:o.op= .call { callee:= .builtin .append,args:=#[s,y],argTypes:=#[66,66] })(hs:q.eval s= .slice i S.length j)(hy:q.eval y= .slice (Y ⟨A,0,T⟩) 1 1)
  (hk:∀g m d,d.cell? ⟨f,1,T⟩=Y (.slice i S.length j)->d.frozen? ⟨f,1,T⟩=jA->Aia B R x f z a n c zs wild p N L nd lt (S++[⟨k,nm,cd,l⟩]) (.slice (Y ⟨g,0,T⟩) (S.length+1) m) w (d.setCell ⟨f,1,T⟩ (.slice (Y ⟨g,0,T⟩) (S.length+1) m))->wpList jL ops Q rest (q.put o.dst (.slice (Y ⟨g,0,T⟩) (S.length+1) m)) d):
  wpList jL ops Q (o ::rest) q X:=by
 subst O;obtain⟨ab,ac,ad,ae,af⟩:=info_parts Ac9;have ai:=h.G.lt.1.1;have t:=h.P.row;have C:∀v,(b.ownsRow B 93 4 v S.length (En S)->X.ownsRow B 93 4 v S.length (En S))/\B<=X.heap.size:=fun v=>by
  rcases r with rfl|rfl
  ·exact⟨fun e=>World.ownsRow.alloc e _,by simp;omega⟩
  ·exact⟨fun e=>(World.ownsRow.alloc e _).drew,by show B<=(b.alloc _).heap.size;simp;omega⟩
 refine wpList_append_lies _ W s y 66 aa B 93 ab (.agg #[U V 0,.string ByteArray.empty,U V 0,U V 0]) 4 40 underlying66 ac ad ae af rfl (by decide) (.slice i S.length j) S.length (En S) hs ((C _).1 h.P.st) ⟨b.heap.size,0,T⟩ 1 1 [U V k,.string nm,U V cd,U V l] hy rfl (by rcases r with rfl|rfl<;>exact World.news_of_block (heap_alloc_new b _)) (fun u hu=>by simp at hu;rcases hu with rfl|rfl|rfl|rfl<;>rfl) (by decide) (by unfold maxLen;omega) (by omega) (C undef).2 _ rfl ?_;intro g m d ag hg _ _;have D:(b.alloc (Xz k nm cd l)).grownBy d (Value.slice i S.length j).ownBlock:=by rcases r with rfl|rfl<;>exact⟨hg.os,hg.tape,hg.output,hg.size,hg.block⟩
 have E:Ah d f #[.slice T 0 0,.slice i S.length j] 86:=⟨(BJ D _ t.lt (Ac t h.P.st (by decide))).trans t.out⟩
 exact hk g m d (E.cell 1) (E.frozen 1) (h.pushS _ M D ag)
def PlI (B R gb pb b0:Nat) (a:Option Addr) (n c:Nat) (zs:List Int) (wild:Bool) (pz:Nat) (w wr:Z):Prop:=
 ∃ (p:Nat) (N:List Nd) (L:List (ByteArray×Int)) (nd lt:jB) (S:List St) (sv:jB),Ka B R gb a n c zs wild p N L nd lt wr/\PgO wr B pb S sv/\Ah wr b0 #[X none 0 0,X none 0 0] 86/\S.length<=14/\L.length<=S.length/\N.length<=800*S.length/\Hid (∀q M T K,MF zs wild (14-S.length) p N S L q M T K->MF zs wild 14 pz [] [] [] q M T K)/\GY B R w wr
theorem Ab2 {R:Nat}{n c:Nat}{ac:Nat}(bO:KL w R a n c zs ac)(cU:B<=R)(cV: 0<n->∀q,a=Y q->q.block<B)(wild:Bool):
  Calls jL 43 #[jH (Y ⟨R,0,none⟩),.bool wild] w fun r w'=>(∃nd bn N S aX aY,r= .returned (.agg #[nd,bn])/\Hid (XJ zs wild ac N S)/\Du w' B nd N aX aY/\w'.ownsRow B 93 4 bn S.length (En S)/\(∀x∈N,ndG x)/\(∀s∈S,s.name.size<=1048576)/\N.length<=20000/\S.length<=15)/\GY B R w w':=by
 have cW:=bO.lt;have bP:=AN w (jC #[X none 0 0,X none 0 0] 86);have bQ:=bP.alloc bP.size (jC #[jH (Y ⟨R,0,none⟩),X none 0 0,X none 0 0,.bool wild] 126);have aZ:=bQ.alloc bQ.size (jC #[X none 0 0,X none 0 0] 86);have bR:=((Ah.new w #[X none 0 0,X none 0 0] 86).alloc (jC #[jH (Y ⟨R,0,none⟩),X none 0 0,X none 0 0,.bool wild] 126)).alloc (jC #[X none 0 0,X none 0 0] 86);have bo:=(Ah.new (w.alloc (jC #[X none 0 0,X none 0 0] 86)) #[jH (Y ⟨R,0,none⟩),X none 0 0,X none 0 0,.bool wild] 126).alloc (jC #[X none 0 0,X none 0 0] 86);have bp:=Ah.new ((w.alloc (jC #[X none 0 0,X none 0 0] 86)).alloc (jC #[jH (Y ⟨R,0,none⟩),X none 0 0,X none 0 0,.bool wild] 126)) #[X none 0 0,X none 0 0] 86;simp only[World.size_alloc]at bo bp;have aJ:=bO.after aZ cW;go_enter func43,ntmps43
 go_wp2_with fail
 generalize ((w.alloc (jC #[X none 0 0,X none 0 0] 86)).alloc (jC #[jH (Y ⟨R,0,none⟩),X none 0 0,X none 0 0,.bool wild] 126)).alloc (jC #[X none 0 0,X none 0 0] 86)=br at aZ bR bo bp aJ|-;clear bP bQ;have cj:=Ab (show PlI B R (w.heap.size+1) (w.heap.size+1+1) w.heap.size a n c zs wild ac w br from⟨ac,[],[],_,_,[],_,⟨[],[],⟨bo,aJ,Du.nil _ _,World.ownsRow_nil _ _ _ _,⟨⟨by omega,cU⟩,cV⟩,(fun x hx=>by cases hx),(fun x hx=>by cases hx)⟩⟩,⟨bp,World.ownsRow_nil _ _ _ _,fun s hs=>by cases hs⟩,bR,by simp,by simp,by simp,Ab (fun q M T K h=>h),⟨aZ.mono (by omega),fun k bt _ _ _ r=>r.after aZ NLN⟩⟩);clear bR bo bp aJ aZ bO;go_loopw [] (fun wr=>PlI B R (w.heap.size+1) (w.heap.size+1+1) w.heap.size a n c zs wild ac w wr) (fun wr=>14-Jz ((wr.cell? ⟨w.heap.size+1+1,1,none⟩).getD undef))
 case atStart=>exact Aa cj
 case round=>
  clear cj;obtain⟨p,N,L,nd,lt,S,bn,aK,aL,bu,dC,dD,dE,aM,bv⟩:=hrel;obtain⟨bS,bt,ck,-⟩:=Ae aL.st;have bT:=aL.row.cell 1;have bw:=Ab (show Jz ((wr.cell? ⟨w.heap.size+1+1,1,none⟩).getD undef)=S.length by
   have:wr.cell? ⟨w.heap.size+1+1,1,none⟩=Y bn:=bT;rw[this,ck];rfl)
  subst ck;by_cases bU:S.length<14
  case' neg=>
   have cX: ¬ ((S.length:Int)<14):=by omega
   have bV:=Ab (show ¬ S.length<14\/¬ 4<(zs.length:Int)-(p:Int)from .inl (by omega));have ab:=aK;have aN:=aL;have a0:=bu;have a3:=bv;clear aK aL bu bv bU;obtain⟨ae,rfl⟩:∃ae,ae=wr:=⟨_,rfl⟩
  case' pos=>
   have cX:(S.length:Int)<14:=by omega
   have a4:=Ab bU;go_wp2_with fail
   refine(XG R a n c zs p wr aK.lt.2.2).mono ?_;rintro r bW ⟨y,rfl,bX,dF,dG,a5⟩;have ab:=aK.below a5;have aN:=aL.below a5;have a0:=bu.after a5 NLN;have a3:=bv.below a5 aK.lt.1.1;clear aK aL bu bv a5;dsimp only;by_cases hy: 4<y
   case' pos=>
    have bx:=Ab (show 4<(zs.length:Int)-(p:Int) by have:=Aa bX;omega);go_wp2_with fail
    refine(BH R a n c zs p bW ab.lt.2.2).mono ?_;rintro r w2 ⟨x,a6,rfl,bz,cm,co,aJ,J⟩;have K2:Gk B R (w.heap.size+1) lt nd bW nd w2:=Gk.of_touch J ab.lt.2.1.2 ab.lt.1.2.2;have av:=ab.touch J aJ;have aO:=aN.gk K2 ab;have bA:=K2.row ab a0 (by decide) (by decide) (by decide) (by decide);have bB:=a3.gk K2 ab;clear ab aN a0 a3 K2 J aJ bT;dsimp only;by_cases e3:x % 3=0
    ·have bY:(x % 3==0)=true:=zF.2 e3;have ay:L.length<=100:=by omega
     have bC:=Ab e3;clear e3;have z:=AN w2 (jC #[U V 1,Q ⟨#[]⟩,U V (-1),U V (-1)] 93);have t:PG B R (w.heap.size+1) (w.heap.size+1+1) w.heap.size w2.heap.size a n c zs wild a6 N L nd lt S (X bS S.length bt) (U V 1) (Q ⟨#[]⟩) (U V (-1)) (U V (-1)) w (w2.alloc (jC #[U V 1,Q ⟨#[]⟩,U V (-1),U V (-1)] 93)):=
      ⟨av.below z,aO.below z,bA.after z NLN,Ah.new w2 _ _,bB.below z av.lt.1.1,⟨fun e=>by have:=(aO.st.lt _ e).2;omega,av.lt.1.1,by omega,by omega⟩⟩
     clear av aO bA bB z;go_wp2_with fail
     generalize w2.alloc (jC #[U V 1,Q ⟨#[]⟩,U V (-1),U V (-1)] 93)=a7 at t|-;refine(Kc ay 4 (by omega) (1+x / 3 % 4) a6 N nd _ (by omega) (by show N.length+121<=1000000;omega) t.G).mono ?_;rintro r a8 ⟨aw,b,af,rfl,a9,a1,a2,O,P⟩;have cp:b.length<=N.length+121:=a2;have l:=t.gk O P;have f:=l.set 2 (U V (Fn b)) rfl;obtain⟨⟨aP,s1,s2,aQ⟩,W,-⟩:=l.cells;have aR:=W 2;clear a1 a2 O P t l W;obtain⟨⟨ag,ah,J,ai⟩,C,⟨E,F,D⟩,⟨al,aj,j⟩⟩:=f.cells;have cq:=C 1;clear C E F D j al;dsimp only;go_wp2_with fail
     generalize a8.setCell ⟨w2.heap.size,2,none⟩ (U V (Fn b))=ao at f ag ah J ai aj cq|-;clear aP s1 s2 aQ aR;apply Aib
     ·intro cY;have cZ:(Tryz.f66.name== "runtime.NumGoroutine")=jA:=by kernel_rfl
      have c0: Tryz.f66.body.isNone=jA:=by kernel_rfl
      have bZ:=Ab (fun (br:Z)=>(Ey (S.length:Int) br (by omega) (by omega)).mono (R':=fun e w'=>∃v,e= .returned v/\(v=Q (In (S.length:Int).toNat)/\An br w')) (fun r w' h=>⟨_,h.1,rfl,h.2⟩));obtain⟨cr,ba⟩:=Ae1 (x / 12 % 4).toNat (by omega);obtain⟨bs,b0⟩:∃bs,bs=Wq (x / 12 % 4).toNat:=⟨_,rfl⟩
      rw[<-b0]at cr ba;obtain⟨ap,b1⟩:∃ap:Nat,ap=(x / 12 % 4).toNat:=⟨_,rfl⟩
      have c1:(IntKind.i64.wrap (x.tdiv 12)).tmod 4=(ap:Int):=Ae0 cm co b1;have c2:(ap:Int)<4:=by omega
      have c3:ap<4:=by omega
      rw[<-b1]at ba;clear b1;have cs:=f.below (AfY ao);have b2:=f.below (AN ao (jC #[Q ⟨#[118]⟩,Q ⟨#[119]⟩,Q ⟨#[98,97,115,101]⟩,Q ⟨#[120,95,49]⟩] 9));have ct:=ba ao;obtain⟨⟨c4,b3,c5,c6⟩,cu,-,⟨c7,c8,c9⟩⟩:=b2.cells;have da:=cu 1;clear cu c9 c7;have cv:=b2.below (AfY _);have cw:=Fw (S.length:Int).toNat;obtain⟨aa,b4⟩:∃aa,aa=In (S.length:Int).toNat:=⟨_,rfl⟩
      rw[<-b4]at bZ cw;have bD:=Ab (show bs++aa=Wq (x / 12 % 4).toNat++In S.length by rw[b0,b4];rfl);clear b0 b4;have db: ¬ (9223372036854775807<bs.size+aa.size):=by omega
      have bE:=Ab (show(bs++aa).size<=100 by rw[GD];omega);go_region_law (refine EI rfl 66 _ func66 cZ c0 _ _ rfl (U V (S.length:Int)) rfl _ (Aa bZ _) ?_;rintro dH az ⟨rfl,bF⟩;first|(have bb:=cv.below bF;have cx:az.cell? ⟨ao.heap.size,ap,none⟩=Y (Q bs):=(bF.cell (p:=⟨ao.heap.size,ap,none⟩) (by show ao.heap.size<(ao.alloc _).heap.size;simp)).trans ct;obtain⟨⟨bG,bH,bI,bJ⟩,bc,-,-⟩:=bb.cells;have cy:=bc 1;clear bc)|(have cz:=cs.below bF;have bb:=cz.below (AN az (jC #[Q ⟨#[118]⟩,Q ⟨#[119]⟩,Q ⟨#[98,97,115,101]⟩,Q ⟨#[120,95,49]⟩] 9));obtain⟨⟨bG,bH,bI,bJ⟩,bc,-,-⟩:=bb.cells;have cy:=bc 1;have cx:=ba az;clear bc))
      all_goals
       have H:=bb.set 1 (Q (bs++aa)) rfl;have aS:=Ab H;clear c4 b3 c5 c6 c8 da ct cx bb H bG bH bI bJ cy ba cr cw db c1 c2 c3 bZ cs b2 cv
       first
       |(clear cz;generalize (az.alloc (jC #[Q ⟨#[118]⟩,Q ⟨#[119]⟩,Q ⟨#[98,97,115,101]⟩,Q ⟨#[120,95,49]⟩] 9)).setCell ⟨w2.heap.size,1,none⟩ (Q (bs++aa))=ax at aS|-;generalize az.heap.size=b5)
       |(generalize az.setCell ⟨w2.heap.size,1,none⟩ (Q (bs++aa))=ax at aS|-;generalize ao.heap.size=b5)
       clear bF;revert aS;revert ax;revert bD;revert bE;revert aa;revert bs;revert ap;revert b5;exact cY.out
     intro b5 ap bs aa bE bD ax aS;have H:=Aa aS;clear aS f ag ah J ai aj cq;have bK:=Aa bE;clear bE;rcases(show wild=jA\/wild=true/\245<x\/wild=true/\¬ 245<x by cases wild<;>simp<;>omega)with rfl|⟨rfl,h245⟩|⟨rfl,h245⟩
     case' inl=>
      have aT:=Ab (show bs++aa=MG jA x S.length by rw[MG,if_neg (by simp)];exact Aa bD);generalize bs++aa=ns at H aT bK;have ak:=H;obtain⟨aq,rfl⟩:∃aq,aq=ax:=⟨_,rfl⟩
      clear H;go_wp2_with fail
     case' inr.inl=>
      obtain⟨dc,cA⟩:=Ac8 ax (x % 3).toNat (by omega);have aT:=Ab (show Wp (x % 3).toNat=MG true x S.length by rw[MG,if_pos ⟨rfl,h245⟩]);generalize Wp (x % 3).toNat=ns at dc cA aT;have b6:=H.below (AN ax (jC #[Q ⟨#[118,48]⟩,Q ⟨#[97,115,107,101,100]⟩,Q ⟨#[110,111,119]⟩] 9));have ak:=b6.set 1 (Q ns) rfl;obtain⟨⟨dd,de,df,dg⟩,cB,-,-⟩:=b6.cells;have dh:=cB 1;clear cB H b6;go_wp2_with fail
      generalize (ax.alloc (jC #[Q ⟨#[118,48]⟩,Q ⟨#[97,115,107,101,100]⟩,Q ⟨#[110,111,119]⟩] 9)).setCell ⟨w2.heap.size,1,none⟩ (Q ns)=aq at ak|-;clear dd de df dg dh cA;clear bK;have bK:ns.size<=100:=by omega
     case' inr.inr=>
      have aT:=Ab (show bs++aa=MG true x S.length by rw[MG,if_neg (fun h=>h245 h.2)];exact Aa bD);generalize bs++aa=ns at H aT bK;have ak:=H;obtain⟨aq,rfl⟩:∃aq,aq=ax:=⟨_,rfl⟩
      clear H;go_wp2_with fail
     all_goals
      obtain⟨cC,cn,aU,cl,bd,b7,-⟩:=ak.G.cells;subst b7;obtain⟨⟨ag,ah,J,ai⟩,C,⟨E,F,D⟩,⟨al,aj,j⟩⟩:=ak.cells;have di:=D 2;obtain⟨dI,dJ,b8⟩:=ak.G;have b9:=b8.lets;have bf:=b8.row;clear b8;have cD:=(World.ownsRow.alloc b9 (jC #[Q ns,U V (1+x / 3 % 4)] 130)).drew;have cE:=World.news_of_block (heap_alloc_new aq (jC #[Q ns,U V (1+x / 3 % 4)] 130));have dK:=ak.G.lt.1.1;have cF:=bf.alloc (jC #[Q ns,U V (1+x / 3 % 4)] 130);have dj:=cF.cell 2;have b3:=(ak.s.alloc (jC #[Q ns,U V (1+x / 3 % 4)] 130)).cell 1;have cG:(Value.slice aU L.length cl).ownBlock≠Y (w.heap.size+1):=Ac bf b9 (by decide);obtain⟨dk,dl,dm,dn,dp⟩:=info_parts Ada;clear C E D j al aj bd ag J ai;go_region_law (refine step_append_lies _ rfl _ _ 124 rfl B 130 dk (.agg #[Q ByteArray.empty,U V 0]) 2 24 underlying124 dl dm dn dp rfl (by decide) (X aU L.length cl) L.length (SH L) rfl cD ⟨aq.heap.size,0,none⟩ 1 1 [Q ns,U V (1+x / 3 % 4)] rfl rfl cE (by intro u hu;simp at hu;rcases hu with rfl|rfl<;>rfl) (by decide) (by unfold maxLen;omega) (by omega) (by simp;omega) _ rfl ?_;intro cH cI ca cJ aV hat dq;have cb:(aq.alloc (jC #[Q ns,U V (1+x / 3 % 4)] 130)).grownBy ca (Value.slice aU L.length cl).ownBlock:=⟨aV.os,aV.tape,aV.output,aV.size,aV.block⟩;have cc:Ah ca (w.heap.size+1) #[jH (Y ⟨R,0,none⟩),af,X aU L.length cl,.bool _] 126:=⟨(BJ cb _ bf.lt cG).trans bf.out⟩;have bY:=cc.cell 2;have dr:=cc.frozen 2)
      all_goals
       have bL:=ak.pushL (jC #[Q ns,U V (1+x / 3 % 4)] 130) (ns,1+x / 3 % 4) (by show ns.size<=1000;omega) cb cJ;clear cF dj b3 cG bf b9 cD cE aV hat dq cb cc bY dr ak ah F di cJ;generalize ca.setCell ⟨w.heap.size+1,2,none⟩ (X (Y ⟨cH,0,none⟩) (L.length+1) cI)=dL at bL|-;obtain⟨⟨ag,ah,J,ai⟩,C,⟨E,F,D⟩,⟨al,aj,j⟩⟩:=bL.cells;have bg:=j 1;clear C E F D j;go_wp2_with (at_builtin;refine bL.push 1 ns (Fn b) (-1) (by show(ns:ByteArray).size<=1048576;first|omega|decide) (by omega) _ (by first|rfl|simp) (by first|exact .inl rfl|exact .inr rfl) rfl _ _ rfl rfl rfl ?_)
       rintro g i m bh f1 ⟨I,d,o,A⟩;have aA:=Ab (show PlI B R (w.heap.size+1) (w.heap.size+1+1) w.heap.size a n c zs _ ac w (m.setCell ⟨w.heap.size+1+1,1,none⟩ (X (Y ⟨g,0,none⟩) (S.length+1) i))from⟨aw,b,(L++[(ns,1+x / 3 % 4)]),af,(X (Y ⟨cH,0,none⟩) (L.length+1) cI),S++[⟨1,ns,(Fn b),(-1)⟩],_,I,d,o,by simp;omega,by simp;omega,by simp;omega,Ab (fun aB aC aD aE aF=>Aa aM aB aC aD aE (Ky (by have:=Aa a4;omega) (by have:=Aa bx;omega) bz (Ae2 (Aa bC) (Aa a9) (Aa aT)) aF)),A⟩);have aG:=Ab (show 14-Jz (((m.setCell ⟨w.heap.size+1+1,1,none⟩ (X (Y ⟨g,0,none⟩) (S.length+1) i)).cell? ⟨w.heap.size+1+1,1,none⟩).getD undef)<14-Jz ((wr.cell? ⟨w.heap.size+1+1,1,none⟩).getD undef) by
        have e:(m.setCell ⟨w.heap.size+1+1,1,none⟩ (X (Y ⟨g,0,none⟩) (S.length+1) i)).cell? ⟨w.heap.size+1+1,1,none⟩=Y (X (Y ⟨g,0,none⟩) (S.length+1) i):=d.row.cell 1;rw[e,Aa bw];show 14-(S.length+1)<14-S.length;omega)
       clear I d o A bL;go_wp2_with fail
       exact⟨Aa aA,Aa aG⟩
    ·have bY:(x % 3==0)=jA:=zA.2 e3;have z:=AN w2 (jC #[U V 2,Q ⟨#[]⟩,U V (-1),U V (-1)] 93);have t:PG B R (w.heap.size+1) (w.heap.size+1+1) w.heap.size w2.heap.size a n c zs wild a6 N L nd lt S (X bS S.length bt) (U V 2) (Q ⟨#[]⟩) (U V (-1)) (U V (-1)) w (w2.alloc (jC #[U V 2,Q ⟨#[]⟩,U V (-1),U V (-1)] 93)):=
      ⟨av.below z,aO.below z,bA.after z NLN,Ah.new w2 _ _,bB.below z av.lt.1.1,⟨fun e=>by have:=(aO.st.lt _ e).2;omega,av.lt.1.1,by omega,by omega⟩⟩
     clear av aO bA bB z;have ay:L.length<=100:=by omega
     have cK:x % 3=1\/x % 3=2:=by omega
     have bC:=Ab e3;clear e3;by_cases aW:x=254
     ·have ds:(x==254)=true:=zF.2 aW;have cL:(x % 3==1)=jA:=zA.2 (by omega);have bM:=Ab aW;have bi:=Ab (show ¬ x % 3=1 by omega);clear aW cK;go_wp2_with fail
      generalize w2.alloc (jC #[U V 2,Q ⟨#[]⟩,U V (-1),U V (-1)] 93)=a7 at t|-;refine(BH R a n c zs a6 a7 t.G.lt.2.2).mono ?_;rintro r dt ⟨cM,cN,rfl,bN,cO,cP,bj,bk⟩;have ar:=t.touch bk bj;clear t bk bj;obtain⟨tt,cQ⟩:∃tt:Nat,(tt:Int)=64-cM % 2:=⟨(64-cM % 2).toNat,by omega⟩
      have du: 1<=tt:=by omega
      have dM:tt<=64:=by omega
      have cS:=Ab cQ;clear cQ;dsimp only;go_wp2_with fail
      rw[<-Aa cS];refine(Ac7 ar.G (by omega) ay tt du (by omega)).mono ?_;rintro r a8 ⟨aw,b,af,rfl,a9,a1,a2,O,P⟩;have l:=ar.gk O P;have f:=l.set 2 (U V (Fn b)) rfl;obtain⟨⟨aP,s1,s2,aQ⟩,W,-⟩:=l.cells;have aR:=W 2;clear a1 O P ar l W;dsimp only;obtain⟨⟨ag,ah,J,ai⟩,C,⟨E,F,D⟩,⟨al,aj,j⟩⟩:=f.cells;have bg:=j 1;clear C E F D j;go_wp2_with (at_builtin;refine f.push 2 ⟨#[]⟩ (Fn b) (-1) (by show(⟨#[]⟩:ByteArray).size<=1048576;first|omega|decide) (by omega) _ (by first|rfl|simp) (by first|exact .inl rfl|exact .inr rfl) rfl _ _ rfl rfl rfl ?_)
      rintro g i m bh f1 ⟨I,d,o,A⟩;have aA:=Ab (show PlI B R (w.heap.size+1) (w.heap.size+1+1) w.heap.size a n c zs wild ac w (m.setCell ⟨w.heap.size+1+1,1,none⟩ (X (Y ⟨g,0,none⟩) (S.length+1) i))from⟨aw,b,L,af,lt,S++[⟨2,⟨#[]⟩,(Fn b),(-1)⟩],_,I,d,o,by simp;omega,by simp;omega,by simp;omega,Ab (fun aB aC aD aE aF=>Aa aM aB aC aD aE (Ky (by have:=Aa a4;omega) (by have:=Aa bx;omega) bz (Ws (Aa bC) (Aa bi) (Adb (Aa bM) bN (Aa cS) (Aa a9))) aF)),A⟩);have aG:=Ab (show 14-Jz (((m.setCell ⟨w.heap.size+1+1,1,none⟩ (X (Y ⟨g,0,none⟩) (S.length+1) i)).cell? ⟨w.heap.size+1+1,1,none⟩).getD undef)<14-Jz ((wr.cell? ⟨w.heap.size+1+1,1,none⟩).getD undef) by
       have e:(m.setCell ⟨w.heap.size+1+1,1,none⟩ (X (Y ⟨g,0,none⟩) (S.length+1) i)).cell? ⟨w.heap.size+1+1,1,none⟩=Y (X (Y ⟨g,0,none⟩) (S.length+1) i):=d.row.cell 1;rw[e,Aa bw];show 14-(S.length+1)<14-S.length;omega)
      clear I d o A f;go_wp2_with fail
      exact⟨Aa aA,Aa aG⟩
     ·have ds:(x==254)=jA:=zA.2 aW;have bM:=Ab aW;clear aW;go_wp2_with fail
      generalize w2.alloc (jC #[U V 2,Q ⟨#[]⟩,U V (-1),U V (-1)] 93)=a7 at t|-;refine(Kc ay 5 (by omega) 1 a6 N nd _ (by omega) (by show N.length+364<=1000000;omega) t.G).mono ?_;rintro r a8 ⟨aw,b,af,rfl,cT,a1,a2,O,P⟩;have dN:b.length<=N.length+364:=a2;have l:=t.gk O P;have f:=l.set 2 (U V (Fn b)) rfl;obtain⟨⟨aP,s1,s2,aQ⟩,W,-⟩:=l.cells;have aR:=W 2;clear a1 a2 O P t l W;dsimp only;rcases cK with e1|e2
      ·have cL:(x % 3==1)=true:=zF.2 e1;have bi:=Ab e1;clear e1;go_wp2_with fail
       generalize a8.setCell ⟨w2.heap.size,2,none⟩ (U V (Fn b))=ao at f|-;clear aP s1 s2 aQ aR;refine(Kc ay 4 (by omega) 4 aw b af _ (by omega) (by show b.length+121<=1000000;omega) f.G).mono ?_;rintro r az ⟨dv,bl,dw,rfl,dx,a1,a2,O,P⟩;have dO:bl.length<=b.length+121:=a2;have l:=f.gk O P;have H:=l.set 3 (U V (Fn bl)) rfl;obtain⟨⟨aP,s1,s2,aQ⟩,W,-⟩:=l.cells;have aR:=W 3;clear a1 a2 O P f l W;dsimp only;obtain⟨⟨ag,ah,J,ai⟩,C,⟨E,F,D⟩,⟨al,aj,j⟩⟩:=H.cells;have bg:=j 1;clear C E F D j;go_wp2_with (at_builtin;refine H.push 2 ⟨#[]⟩ (Fn b) (Fn bl) (by show(⟨#[]⟩:ByteArray).size<=1048576;first|omega|decide) (by omega) _ (by first|rfl|simp) (by first|exact .inl rfl|exact .inr rfl) rfl _ _ rfl rfl rfl ?_)
       rintro g i m bh f1 ⟨I,d,o,A⟩;have aA:=Ab (show PlI B R (w.heap.size+1) (w.heap.size+1+1) w.heap.size a n c zs wild ac w (m.setCell ⟨w.heap.size+1+1,1,none⟩ (X (Y ⟨g,0,none⟩) (S.length+1) i))from⟨dv,bl,L,dw,lt,S++[⟨2,⟨#[]⟩,(Fn b),(Fn bl)⟩],_,I,d,o,by simp;omega,by simp;omega,by simp;omega,Ab (fun aB aC aD aE aF=>Aa aM aB aC aD aE (Ky (by have:=Aa a4;omega) (by have:=Aa bx;omega) bz (Aa2 (Aa bi) (Wt (Aa bM) (Aa cT)) (Aa dx)) aF)),A⟩);have aG:=Ab (show 14-Jz (((m.setCell ⟨w.heap.size+1+1,1,none⟩ (X (Y ⟨g,0,none⟩) (S.length+1) i)).cell? ⟨w.heap.size+1+1,1,none⟩).getD undef)<14-Jz ((wr.cell? ⟨w.heap.size+1+1,1,none⟩).getD undef) by
        have e:(m.setCell ⟨w.heap.size+1+1,1,none⟩ (X (Y ⟨g,0,none⟩) (S.length+1) i)).cell? ⟨w.heap.size+1+1,1,none⟩=Y (X (Y ⟨g,0,none⟩) (S.length+1) i):=d.row.cell 1;rw[e,Aa bw];show 14-(S.length+1)<14-S.length;omega)
       clear I d o A H;go_wp2_with fail
       exact⟨Aa aA,Aa aG⟩
      ·have cL:(x % 3==1)=jA:=zA.2 (by omega);have bi:=Ab (show ¬ x % 3=1 by omega);clear e2;obtain⟨⟨ag,ah,J,ai⟩,C,⟨E,F,D⟩,⟨al,aj,j⟩⟩:=f.cells;have bg:=j 1;clear C E F D j;go_wp2_with (at_builtin;refine f.push 2 ⟨#[]⟩ (Fn b) (-1) (by show(⟨#[]⟩:ByteArray).size<=1048576;first|omega|decide) (by omega) _ (by first|rfl|simp) (by first|exact .inl rfl|exact .inr rfl) rfl _ _ rfl rfl rfl ?_)
       rintro g i m bh f1 ⟨I,d,o,A⟩;have aA:=Ab (show PlI B R (w.heap.size+1) (w.heap.size+1+1) w.heap.size a n c zs wild ac w (m.setCell ⟨w.heap.size+1+1,1,none⟩ (X (Y ⟨g,0,none⟩) (S.length+1) i))from⟨aw,b,L,af,lt,S++[⟨2,⟨#[]⟩,(Fn b),(-1)⟩],_,I,d,o,by simp;omega,by simp;omega,by simp;omega,Ab (fun aB aC aD aE aF=>Aa aM aB aC aD aE (Ky (by have:=Aa a4;omega) (by have:=Aa bx;omega) bz (Ws (Aa bC) (Aa bi) (Wt (Aa bM) (Aa cT))) aF)),A⟩);have aG:=Ab (show 14-Jz (((m.setCell ⟨w.heap.size+1+1,1,none⟩ (X (Y ⟨g,0,none⟩) (S.length+1) i)).cell? ⟨w.heap.size+1+1,1,none⟩).getD undef)<14-Jz ((wr.cell? ⟨w.heap.size+1+1,1,none⟩).getD undef) by
        have e:(m.setCell ⟨w.heap.size+1+1,1,none⟩ (X (Y ⟨g,0,none⟩) (S.length+1) i)).cell? ⟨w.heap.size+1+1,1,none⟩=Y (X (Y ⟨g,0,none⟩) (S.length+1) i):=d.row.cell 1;rw[e,Aa bw];show 14-(S.length+1)<14-S.length;omega)
       clear I d o A f;go_wp2_with fail
       exact⟨Aa aA,Aa aG⟩
   have dP: ¬ ((4 :Int)<y):=hy;have bV:=Ab (show ¬ S.length<14\/¬ 4<(zs.length:Int)-(p:Int)from .inr (by have:=Aa bX;omega));clear hy a4 bX bU;obtain⟨ae,rfl⟩:∃ae,ae=bW:=⟨_,rfl⟩
  all_goals
   have ay:L.length<=100:=by omega
   have z:=AN ae (jC #[U V 3,Q ⟨#[]⟩,U V (-1),U V (-1)] 93);have t:PG B R (w.heap.size+1) (w.heap.size+1+1) w.heap.size ae.heap.size a n c zs wild p N L nd lt S (X bS S.length bt) (U V 3) (Q ⟨#[]⟩) (U V (-1)) (U V (-1)) w (ae.alloc (jC #[U V 3,Q ⟨#[]⟩,U V (-1),U V (-1)] 93)):=
    ⟨ab.below z,aN.below z,a0.after z NLN,Ah.new ae _ _,a3.below z ab.lt.1.1,⟨fun e=>by have:=(aN.st.lt _ e).2;omega,ab.lt.1.1,by omega,by omega⟩⟩
   clear ab aN a0 a3 z;go_wp2_with fail
   clear bT;generalize ae.alloc (jC #[U V 3,Q ⟨#[]⟩,U V (-1),U V (-1)] 93)=a7 at t|-;refine(BH R a n c zs p a7 t.G.lt.2.2).mono ?_;rintro r dt ⟨x,cN,rfl,bN,cm,co,bj,bk⟩;have ar:=t.touch bk bj;clear t bk bj;dsimp only;by_cases h0: 0<x % 3
   ·have cd:=Ab h0;go_wp2_with fail
    refine(Kc ay 3 (by omega) 4 cN N nd _ (by omega) (by show N.length+40<=1000000;omega) ar.G).mono ?_;rintro r a8 ⟨aw,b,af,rfl,a9,a1,a2,O,P⟩;have cp:b.length<=N.length+40:=a2;have l:=ar.gk O P;have f:=l.set 3 (U V (Fn b)) rfl;obtain⟨⟨aP,s1,s2,aQ⟩,W,-⟩:=l.cells;have aR:=W 3;clear a1 a2 O P ar l W;dsimp only;obtain⟨cC,cn,aU,cl,bd,b7,-⟩:=f.G.cells;obtain⟨⟨ag,ah,J,ai⟩,C,⟨E,F,D⟩,⟨al,aj,j⟩⟩:=f.cells;have bg:=j 1;clear C E F D j;go_wp2_with (at_builtin;refine f.push 3 ⟨#[]⟩ (-1) (Fn b) (by decide) (by omega) _ (by first|rfl|simp) (by first|exact .inl rfl|exact .inr rfl) rfl _ _ rfl rfl rfl ?_)
    rintro g i m bh f1 ⟨I,d,o,A⟩;clear f;obtain⟨aX,aY,au⟩:=I;have ce:=Ab (show XJ zs wild ac b (S++[⟨3,⟨#[]⟩,-1,(Fn b)⟩])from⟨p,N,S,L,Aa aM _ _ _ _ (Wu (by have:=Aa bV;omega)),by rw[Ae3,Aa bN,if_pos (by have:=Aa cd;omega)];exact⟨aw,Aa a9,rfl⟩⟩);have dy:(m.setCell ⟨w.heap.size+1+1,1,none⟩ (X (Y ⟨g,0,none⟩) (S.length+1) i)).cell? ⟨w.heap.size+1,1,none⟩=Y _:=au.row.cell 1;have aH:=d.row.set 0 af;have bG:=d.row.cell 0;have bH:=d.row.cell 1;have dz:=d.row.frozen 0;have ad:=o.setFar (p:=⟨w.heap.size+1+1,0,none⟩) (by simp;omega) af;have bI:=aH.cell 0;have bJ:=aH.cell 1;have cO:=ad.cell 0;have cP:=ad.cell 1;have dA:=ad.frozen 0;have dB:=ad.frozen 1;have cf:=Ab (Wv au d o A (by omega) (by omega));have aI:=Ab (And.intro au.good.1 (And.intro d.good (show b.length<=20000 by omega)));clear au d o A aH ad;subst bd;go_wp2_with fail
    obtain⟨cg,ch,bm,ci⟩:=Aa cf;exact bodyPost_ret (Adc results43 rfl cg) rfl ⟨⟨_,_,b,_,aX,aY,rfl,ce,ch,by rw[zB]at bm|-;exact bm,(Aa aI).1,(Aa aI).2.1,(Aa aI).2.2,by simp;omega⟩,ci⟩
   ·have cd:=Ab h0;have f:=ar;have cp:N.length<=N.length+40:=by omega
    clear ar;obtain⟨cC,cn,aU,cl,bd,b7,-⟩:=f.G.cells;obtain⟨⟨ag,ah,J,ai⟩,C,⟨E,F,D⟩,⟨al,aj,j⟩⟩:=f.cells;have bg:=j 1;clear C E F D j;go_wp2_with (at_builtin;refine f.push 3 ⟨#[]⟩ (-1) (-1) (by decide) (by omega) _ (by first|rfl|simp) (by first|exact .inl rfl|exact .inr rfl) rfl _ _ rfl rfl rfl ?_)
    rintro g i m bh f1 ⟨I,d,o,A⟩;clear f;obtain⟨aX,aY,au⟩:=I;have ce:=Ab (show XJ zs wild ac N (S++[⟨3,⟨#[]⟩,-1,(-1)⟩])from⟨p,N,S,L,Aa aM _ _ _ _ (Wu (by have:=Aa bV;omega)),by rw[Ae3,Aa bN,if_neg (by have:=Aa cd;omega)];exact⟨rfl,rfl⟩⟩);have dy:(m.setCell ⟨w.heap.size+1+1,1,none⟩ (X (Y ⟨g,0,none⟩) (S.length+1) i)).cell? ⟨w.heap.size+1,1,none⟩=Y _:=au.row.cell 1;have aH:=d.row.set 0 nd;have bG:=d.row.cell 0;have bH:=d.row.cell 1;have dz:=d.row.frozen 0;have ad:=o.setFar (p:=⟨w.heap.size+1+1,0,none⟩) (by simp;omega) nd;have bI:=aH.cell 0;have bJ:=aH.cell 1;have cO:=ad.cell 0;have cP:=ad.cell 1;have dA:=ad.frozen 0;have dB:=ad.frozen 1;have cf:=Ab (Wv au d o A (by omega) (by omega));have aI:=Ab (And.intro au.good.1 (And.intro d.good (show N.length<=20000 by omega)));clear au d o A aH ad;subst bd;go_wp2_with fail
    obtain⟨cg,ch,bm,ci⟩:=Aa cf;exact bodyPost_ret (Adc results43 rfl cg) rfl ⟨⟨_,_,N,_,aX,aY,rfl,ce,ch,by rw[zB]at bm|-;exact bm,(Aa aI).1,(Aa aI).2.1,(Aa aI).2.2,by simp;omega⟩,ci⟩
end Go.Proofs.YtppafecmccdplaaGreat
