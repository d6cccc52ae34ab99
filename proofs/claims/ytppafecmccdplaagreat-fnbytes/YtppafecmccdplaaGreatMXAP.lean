import Derived.Test.YtppafecmccdplaaGreatBTF0
import Derived.Test.YtppafecmccdplaaGreatMXAS
import Derived.Test.YtppafecmccdplaaGreatMXAY
import Derived.Test.YtppafecmccdplaaGreatVPS
open Go.Proofs.Tryz
open Option renaming none->T,some->Y
open Go.Value renaming int->U,slice->X,string->Q
open Go.IntKind renaming i64->V
open Go renaming World->Z,Value->jB,Addr->jD
open Go.Obj renaming cells->jC
open Go.Proofs.Tryz renaming prog->jL
namespace Go.Proofs.YtppafecmccdplaaGreat
open Go.RowKit
set_option linter.unusedVariables false
set_option maxRecDepth 100000
set_option maxHeartbeats 12800000
variable {st:List Int}{b:Nat}{v v':jB}{d:Z}
section
theorem SU {i:Nat}(hi:i<st.length)(s:Gs):(st.drop i).foldl GX s=(st.drop (i+1)).foldl GX (GX s (st.getD i 0)):=by
 rw[Z4 hi,List.foldl_cons,zo,zL hi];rfl
section
variable {w w' : Z} {B R gb : Nat} {a : Option jD} {n c : Nat} {zs : List Int} {k : Nat} {s : Gs} {pv iv sv lv : jB} {nv : List jB}
theorem G5.ints (h:G5 w B R gb a n c zs k s pv iv sv lv nv)(hs:s.st.length<=100000){x:Option jD}{cx:Nat}(e:sv=X x s.st.length cx):Em w x s.st.length cx s.st:=by
 obtain⟨⟨i,c',e',-,hc⟩,-⟩:=h.int;rw[e]at e';injection e' with e1 _ e2;subst e1 e2;refine⟨rfl,by omega,fun j b=>?_⟩;obtain⟨g,d,hg⟩:=hc j b;have f:=(h.st.lt g (by rw[e,d];rfl)).2;refine⟨g,0,d,f,?_⟩;rw[zP,hg,zo,zL b];rfl
theorem Aal (d:Nat)(hd:d<=2)(az:AbS B R gb a n c zs k d):BrC B R gb a n c zs k (d+1):=by
 intro s w h h1 ad;have bh:=Ab az;have N:=Ab ad;obtain⟨bY,bZ,b0,lv,b1,h⟩:=h;obtain⟨⟨x,cx,rfl,bi,aA⟩,-⟩:=h.int;obtain⟨g,rfl,-⟩:=aA 0 (by omega);obtain⟨t,ae⟩:∃t,s.st.length=t+1:=⟨s.st.length-1,by omega⟩
 have c4:w.cell? ⟨gb,4,T⟩=Y (X (Y ⟨g,0,T⟩) s.st.length cx):=h.row.cell 4;have bj:=h.row.frozen 4;have b6:s.st.length<=80000:=by have:=ad.st;omega
 have bk:IntKind.i64.wrap ((s.st.length:Int)-1)=(t:Int):=by rw[ae];simp[IntKind.wrap,IntKind.bits,IntKind.signed];omega
 have bl: ¬ (cx=0):=by omega
 have bm:(t:Int)<=(cx:Int):=by omega
 have bn:(0 :Int)<=(t:Int):=by omega
 have b7:t<=80000:=by omega
 have y:=Ab ae;have bo:=Ab h;clear aA bi ae h1 ad az h;go_enter func86,ntmps86
 go_wp2_with fail
 go_region
 all_goals
  obtain⟨z,b2⟩:=(Aa bo).pop 1 t (by have:=Aa y;omega);replace z:=z.below BRN.drew;replace b2:=b2.drew;generalize (w.setCell ⟨gb,4,T⟩ (X (Y ⟨g,0,T⟩) t cx)).drew=w2 at z b2|-;clear c4 bj bk bl bm bn;have O:(Mh s 1).st.length=t:=by show(s.st.take (s.st.length-1)).length=t;have:=Aa y;rw[zv];omega
  have af:=z.ints (by omega) (cx:=cx) (x:=Y ⟨g,0,T⟩) (by rw[O]);rw[O]at af;have c4:w2.cell? ⟨gb,4,T⟩=Y (X (Y ⟨g,0,T⟩) t cx):=z.row.cell 4;have bp:=Ab O;clear O;go_wp2_with (at_builtin;refine Gg rfl _ _ rfl w2.heap.size (X T 0 0) 0 [] rfl (World.ownsRow_nil _ _ _ _) (Y ⟨g,0,T⟩) t cx (Mh s 1).st rfl af (by omega) NLN ?_)
  intro aB br aC b3;obtain⟨b8,c3,rfl,-⟩:=Ae aC;have S:=z.below b3;have aD:=b2.trans (.of b3);clear aC af z b2 b3 c4;obtain⟨xi,ci,rfl,-⟩:=Ae S.ins;have p:br.cell? ⟨gb,3,T⟩=Y (X xi s.I.length ci):=S.row.cell 3;go_wp2_with fail
  have aE:=(Aa N).ins;have aF:=(Aa N).pool;have aG:=(Aa N).st;rw[mI]at aE aF;rw[Nat.pow_succ]at aG;have bs: 1<=2 ^ d:=Nat.one_le_two_pow;refine(Ii ⟨_,_,_,_,_,S⟩ 23 0 (by show s.I.length<=100000;omega)).mono ?_;rintro r bt ⟨rfl,W,A,aH,b4⟩;have aI:=Ab (aD.trans b4);clear S aD b4 p;have e4:((2-d:Nat):Int)+1=((3-d:Nat):Int):=by omega
  dsimp only;go_wp2_with fail
  have ag:W.st.length=t:=by rw[A];exact Aa bp
  refine(Aa bh 2 W bt (by omega) aH ⟨by rw[A];show(s.I++[_]).length+_<=_;rw[zB,zg];omega,by rw[A];show s.P.length+_<=_;omega,by rw[ag];have:=Aa y;omega,by rw[A];exact(Aa N).sl⟩).mono ?_;rintro r b9 ⟨rfl,bu,L5,aJ,b5⟩;have C:=Mf.grw (fun t bv=>Hj.grw zs k d _ t bv) 2 L5 NLN;have aK:=C.low;have aL:=C.st;have bw:=C.ins;have bx:=C.inl;have bz:=C.pool;rw[ag]at aK aL L5;have bA:W.I.length=s.I.length+1:=by rw[A];show(s.I++[_]).length=_;rw[zB];rfl
  have bB:W.P.length=s.P.length:=by rw[A];rfl
  have bC:=Ab L5;have aM:=Ab ((Aa aI).trans b5);clear C L5 aH b5 aI e4;dsimp only;go_wp2_with fail
  refine(Y0 aJ (by omega) (by omega) (by have:=Aa y;omega)).mono ?_;rintro r G ⟨rfl,b,ah,⟨cb,cc,cd,ce,cf,D⟩,aN⟩;obtain⟨bD,bE,aB,-⟩:=ah.grw;have bF:=Ab ah;have aO:=Ab ((Aa aM).trans aN);clear ah aN aM aJ;obtain⟨⟨cg,aP,rfl,-,aQ⟩,-⟩:=D.int;obtain⟨aR,aS,rfl,-⟩:=Ae D.ins;have bG:=Ab (show s.I.length<b.I.length by omega);have H:=Ab (show b.I.length+(b.st.length-t)<=85000/\b.P.length+(b.st.length-t)<=85000/\t<b.st.length/\b.st.length<=85000 by have:=Aa y;omega);obtain⟨q,ai⟩:∃q,b.st.length=q+1:=⟨b.st.length-1,by omega⟩
  have E:=Ab ai;obtain⟨aT,rfl,bH⟩:=aQ q (by omega);have ch:IntKind.i64.wrap ((b.st.length:Int)-1)=(q:Int):=by rw[ai];simp[IntKind.wrap,IntKind.bits,IntKind.signed];have:=(Aa H);omega
  have cj:(q:Int)<(b.st.length:Int):=by omega
  have c4:G.cell? ⟨gb,4,T⟩=Y (X (Y ⟨aT,0,T⟩) b.st.length aP):=D.row.cell 4;have p:G.cell? ⟨gb,3,T⟩=Y (X aR b.I.length aS):=D.row.cell 3;have ck:b.st.length<=85000:=(Aa H).2.2.2;have cl:b.I.length<=85000:=by have:=(Aa H).1;omega
  generalize aU:b.st.getD q 0=ty at bH;have bI:=Ab aU;clear aQ aU ai aK aL bw bx bz bD bE aB aE aF aG bs bA bB ag;dsimp only;go_wp2_with fail
  go_region
  have aj:=D.below BRN.drew;have ak:=Ab (Aa aO).drew;have c4:G.drew.cell? ⟨gb,4,T⟩=Y (X (Y ⟨aT,0,T⟩) b.st.length aP):=c4;have p:G.drew.cell? ⟨gb,3,T⟩=Y (X aR b.I.length aS):=p;generalize G.drew=cm at aj ak c4 p|-;clear D aO;go_wp2_with fail
  refine(Ii ⟨_,_,_,_,_,aj⟩ 22 0 (by omega)).mono ?_;rintro r aV ⟨rfl,m,al,⟨cn,co,cp,cq,cr,J⟩,aW⟩;obtain⟨cs,bJ,rfl,aX⟩:=Ae J.ins;have aY:m.I.length=b.I.length+1:=by rw[al];show(b.I++[_]).length=_;rw[zB];rfl
  obtain⟨aZ,rfl,-,ao⟩:=aX (by omega);have ap:s.I.length<m.I.length:=by have:=Aa bG;omega
  have bK:=ao _ _ (Hm m.I s.I.length ap).1;have l1:=ao _ _ (Hm m.I s.I.length ap).2;have bL:=J.ins.frozenAt (s.I.length*2+1);have p:aV.cell? ⟨gb,3,T⟩=Y (X (Y ⟨aZ,0,T⟩) m.I.length bJ):=J.row.cell 3;have a0:(s.I.length:Int)<(m.I.length:Int):=by omega
  have a6:=Ab aY;have aq:=Ab al;have a7:=Ab ((Aa ak).trans aW);clear ao aX aj ak aW c4 al aY;dsimp only;go_wp2_with fail
  go_region
  all_goals
   obtain⟨K,a8⟩:=J.arg s.I.length ap (m.I.length:Int);replace K:=K.below BRN.drew;have a9:=Ab ((Aa a7).trans a8).drew;generalize (aV.setCell ⟨aZ,s.I.length*2+1,T⟩ (U V (m.I.length:Int))).drew=ct at K a9|-;clear bK l1 bL p J a8 a7 a0;obtain⟨j,F⟩:∃j,j=PQ m s.I.length (m.I.length:Int):=⟨_,rfl⟩
   rw[<-F]at K;have aa:=Ab (show(b.st.drop t).foldl GX j=(b.st.drop t).foldl GX j/\j.st=b.st/\j.I.length+(b.st.length-t)<=90000/\j.P.length+(b.st.length-t)<=90000/\j.I.length=b.I.length+1 by
    have:=Aa H;have e1:j.I.length=b.I.length+1:=by rw[F];show(m.I.modify _ _).length=_;rw[List.length_modify];exact Aa a6
    have e2:j.P=b.P:=by rw[F,Aa aq];rfl
    exact⟨rfl,by rw[F,Aa aq];rfl,by omega,by rw[e2];omega,e1⟩)
   have bM:=Ab F;clear F;go_wp2_with fail
   go_loopw [9] (fun ar wr=>∃ (i:Nat) (l:Gs),t<=i/\i<=q/\ar=U V i/\Hid ((b.st.drop i).foldl GX l=(b.st.drop t).foldl GX j/\l.st=b.st/\l.I.length+(b.st.length-i)<=90000/\l.P.length+(b.st.length-i)<=90000/\b.I.length+1<=l.I.length)/\Hid (GS B R gb a n c zs k l wr)/\Hid (DY R gb w wr)) (fun ar _=>q-(RowKit.intOf ar).toNat)
   case atStart=>exact⟨t,j,NLN,by have:=(Aa H).2.2.1;have:=Aa E;omega,rfl,Ab ⟨rfl,(Aa aa).2.1,(Aa aa).2.2.1,(Aa aa).2.2.2.1,zx (Aa aa).2.2.2.2.symm⟩,Ab ⟨_,_,_,_,_,K⟩,a9⟩
   case round=>
    obtain⟨i,l,cu,cv,rfl,u,bN,ba⟩:=hrel;obtain⟨cw,cy,cz,cA,cB,L⟩:=Aa bN;have M:=(Aa u).2.1;by_cases au:i<q
    ·have cC:(i:Int)<(q:Int):=by omega
     obtain⟨⟨cD,ca,rfl,-,bb⟩,-⟩:=L.int;obtain⟨ga,rfl,ci⟩:=bb i (by rw[M];have:=Aa E;omega);have c4:wr.cell? ⟨gb,4,T⟩=Y (X (Y ⟨ga,0,T⟩) l.st.length ca):=L.row.cell 4;have cE:(i:Int)<(l.st.length:Int):=by rw[M];have:=Aa E;omega
     have cF:=Ab M;have av:=Ab au;clear bb M au;generalize hv:l.st.getD i 0=v at ci;have bO:=Ab hv;clear hv;go_wp2_with fail
     refine(PT ⟨_,_,_,_,_,L⟩ v (by have:=(Aa u).2.2.2.1;omega) (by have:=(Aa u).2.2.1;omega)).mono ?_;rintro r bc ⟨rfl,f,o,bP,ab⟩;have aw:=Ab (show(b.st.drop (i+1)).foldl GX f=(b.st.drop t).foldl GX j/\f.st=b.st/\f.I.length+(b.st.length-(i+1))<=90000/\f.P.length+(b.st.length-(i+1))<=90000/\b.I.length+1<=f.I.length by
      obtain⟨a1,a2,a3,a4,a5⟩:=Aa u;have ax:i<b.st.length:=by have:=Aa E;have:=Aa av;omega
      refine⟨by rw[<-a1,SU ax,o,<-Aa bO,a2],by rw[o];exact a2,?_,?_,?_⟩
      ·rw[o];show(l.I++[_]).length+_<=_;rw[zB,zg];omega
      ·rw[o];show(l.P++[_]).length+_<=_;rw[zB,zg];omega
      ·rw[o];show _<=(l.I++[_]).length;rw[zB,zg];omega)
     have ay:=Ab ((Aa ba).trans ab);clear o;dsimp only;go_wp2
     go_roundw
     case rel=>exact⟨i+1,f,by omega,Aa av,by go_num,aw,Ab bP,ay⟩
     case measure=>have:=Aa av;simp[RowKit.intOf];omega
    ·have e:i=q:=by omega
     subst e;clear M au;go_wp2_with fail
     refine(PT ⟨_,_,_,_,_,L⟩ ty (by have:=(Aa u).2.2.2.1;omega) (by have:=(Aa u).2.2.1;omega)).mono ?_;rintro r bc ⟨rfl,f,o,⟨cG,cH,cI,cJ,cK,ac⟩,ab⟩;have aw:=Ab (show f=(b.st.drop t).foldl GX j by
      obtain⟨a1,a2,-⟩:=Aa u;have ax:i<b.st.length:=by have:=Aa E;omega
      rw[<-a1,SU ax,Aa bI,<-o,List.drop_eq_nil_of_le (by have:=Aa E;omega)];rfl)
     have bQ:f.I.length=l.I.length+1:=by rw[o];show(l.I++[_]).length=_;rw[zB];rfl
     have bR:=(Aa u).2.2;obtain⟨cL,bS,rfl,bd⟩:=Ae ac.ins;obtain⟨bT,rfl,-,bf⟩:=bd (by omega);have bg:b.I.length<f.I.length:=by omega
     have l1:=bf _ _ (Hm f.I b.I.length bg).2;have bU:=ac.ins.frozenAt (b.I.length*2+1);have p:bc.cell? ⟨gb,3,T⟩=Y (X (Y ⟨bT,0,T⟩) f.I.length bS):=ac.row.cell 3;have a0:(b.I.length:Int)<(f.I.length:Int):=by omega
     have ay:=Ab ((Aa ba).trans ab);clear o bQ bR bd bf ab L;dsimp only;go_wp2_with fail
     go_region
     all_goals
      obtain⟨bV,bW⟩:=ac.arg b.I.length bg (f.I.length:Int);have bX:=Ab (show PQ f b.I.length (f.I.length:Int)=brF s.I.length (s.st.length-1) b by
       unfold brF;rw[show s.st.length-1=t by have:=Aa y;omega,show PQ (EZ b 22 0) s.I.length ((b.I.length:Int)+1)=j by rw[Aa bM,Aa a6,Aa aq];rfl,<-Aa aw])
      clear l1 bU p;go_wp2_with fail
      go_end0
      refine⟨rfl,_,⟨bu,b,?_,Aa bF,(Aa bX)⟩,⟨_,_,_,_,_,bV.below BRN.drew⟩,((Aa ay).trans bW).drew⟩;rw[show s.st.length-1=t by have:=Aa y;omega,<-A];exact Aa bC
end
end
section
variable {aS aO aZ aW : jD} {G : Nat -> Prop}
end
section
variable {aS aO aZ aW : jD} {G : Nat -> Prop}
end
section
variable {aS aO aZ aW : jD} {G : Nat -> Prop}
end
section
variable {G : Nat -> Prop}
end
section
variable {G : Nat -> Prop}
end
section
variable {G : Nat -> Prop}
end
section
variable {aS aO aZ aW : jD} {G : Nat -> Prop}
end
section
variable {aS aO aZ aW : jD} {G : Nat -> Prop}
end
section
variable {aS aO aZ aW : jD} {G : Nat -> Prop}
end
section
variable {G : Nat -> Prop}
end
section
variable {G : Nat -> Prop}
end
section
variable {aS aO aZ aW : jD} {G : Nat -> Prop}
end
section
variable {aS aO aZ aW : jD}
end
section
open Go.RowKit Go.Lib
def Kp (w:Z) (v:jB) (w':Z) (v':jB):Prop:=(∀k,k<w.heap.size->Y k≠v.ownBlock->w'.heap[k]? =w.heap[k]?)/\(∀q,v'.ownBlock=Y q->v.ownBlock=Y q\/w.heap.size<=q)/\w.heap.size<=w'.heap.size
theorem Kp.refl (w:Z)(v:jB):Kp w v w v:=⟨fun _ _ _=>rfl,fun q h=> .inl h,NLN⟩
theorem Kp.trans {w a w2:Z}{v b c:jB}(h:Kp w v a b)(k:Kp a b w2 c):Kp w v w2 c:=
 ⟨fun j d f=>(k.1 j (zR d h.2.2) (fun e=>by
  rcases h.2.1 j e.symm with e'|e'
  ·exact f e'.symm
  ·omega)).trans (h.1 j d f),fun q g=>by
  rcases k.2.1 q g with e|e
  ·exact h.2.1 q e
  ·exact .inr (zC h.2.2 e),zC h.2.2 k.2.2⟩
theorem Ah.kp {w w':Z}{a:Array jB}{t:TypeId}(R:Ah w b a t)(h:Kp w v w' v')(c:v.ownBlock≠Y b):Ah w' b a t:=⟨(h.1 b R.lt (fun e=>c e.symm)).trans R.out⟩
theorem ND {w w':Z}{o:Obj}{n c:Nat}(hg:(w.alloc o).grownBy w' v.ownBlock)(a:v.ownBlock=Y b\/b=w.heap.size+1):Kp w v w' (X (Y ⟨b,0,T⟩) n c):=
 ⟨fun k hk d=>(hg.block k (by simp;omega) d).trans (Below.heap_alloc w o k hk),fun q f=>by
  have:b=q:=by simpa[Value.ownBlock]using f
  subst this;rcases a with e|e
  ·exact .inl e
  ·right;omega,by have:=hg.size;simp at this;omega⟩
theorem Agh {w w':Z}(hg:w.grownBy w' v.ownBlock)(a:∀q,v'.ownBlock=Y q->v.ownBlock=Y q\/q=w.heap.size):Kp w v w' v':=
 ⟨fun k hk b=>hg.block k hk b,fun q c=>by
  rcases a q c with e|e
  ·exact .inl e
  ·right;omega,hg.size⟩
def AfU (B:Nat) (w:Z) (v:jB) (R:List Int) (e:Ending) (w':Z):Prop:=∃v',e= .returned v'/\w'.ownsRow B 5 1 v' R.length (AA R)/\Kp w v w' v'/\Below B w w'
theorem TA {w:Z}{B:Nat}{x y:Int}(h:w.ownsRow B 5 1 v (st.length+2) (AA st++[U .u8 x,U .u8 y])):w.ownsRow B 5 1 v (st++[x,y]).length (AA (st++[x,y])):=by
 rw[zB,AA,zl];exact h
theorem Wc (n:Int):BS n 1=[n % 256]:=by simp[BS,BQ]
theorem Ahl (n:Int):BS n 2=[n / 256 % 256,n % 256]:=by simp[BS,BQ]
theorem NE (B:Nat)(v:jB)(O:List Int)(n:Int)(w:Z)(a:w.ownsRow B 5 1 v O.length (AA O))(r:O.length<=100000000)(f:B<=w.heap.size):
  Calls jL 16 #[v,U V n] w fun e w'=>AfU B w v (O++BS n 2) e w':=by
 obtain⟨i,hi,h,j,k⟩:=info_parts Mm;obtain⟨x,c,rfl⟩:=Au a;go_enter func16,ntmps16
 go_wp2_with (at_builtin;refine wpList_append_lies _ rfl _ _ 22 rfl B 5 i (U .u8 0) 1 1 underlying22 hi h j k rfl (by decide) (X x O.length c) O.length (AA O) rfl (World.ownsRow.alloc a _) ⟨w.heap.size,0,T⟩ 2 2 [U .u8 (n / 256 % 256),U .u8 (n % 256)] rfl rfl ?a1 ?a2 (by decide) ?a3 ?a4 ?a5 _ rfl ?_)
 case a1=>exact World.news_of_block (heap_alloc_new w _)
 case a2=>intro u hu;simp at hu;rcases hu with rfl|rfl<;>rfl
 case a3=>unfold maxLen;omega
 case a4=>omega
 case a5=>simp;omega
 intro g cap s l b hat t;have m:=ND (n:=O.length+2) (c:=cap) b hat;have o:=((Below.refl B w).alloc f (jC #[U .u8 (n / 256 % 256),U .u8 (n % 256)] 5)).grown b (by simp;omega) (fun q p=>(a.lt q p).1);have d:=TA l;rw[<-Ahl]at d;clear b hat;go_wp2
 go_ret
 exact⟨_,rfl,d,m,o⟩
theorem QL (B:Nat)(v:jB)(O:List Int)(s:ByteArray)(w:Z)(f:w.ownsRow B 5 1 v O.length (AA O))(G:O.length<=100000000)(hs:s.size<=1048576)(l:B<=w.heap.size):
  Calls jL 17 #[v,Q s] w fun e w'=>AfU B w v (O++Bn s) e w':=by
 obtain⟨i,hi,m,o,p⟩:=info_parts Mm;obtain⟨x,c,rfl⟩:=Au f;go_enter func17,ntmps17
 go_wp2_with (at_builtin;refine wpList_append_lies _ rfl _ _ 22 rfl B 5 i (U .u8 0) 1 1 underlying22 hi m o p rfl (by decide) (X x O.length c) O.length (AA O) rfl (World.ownsRow.alloc f _) ⟨w.heap.size,0,T⟩ 1 1 [U .u8 ((s.size:Int) % 256)] rfl rfl ?b1 ?b2 (by decide) ?b3 ?b4 ?b5 _ rfl ?_)
 case b1=>exact World.news_of_block (heap_alloc_new w _)
 case b2=>intro u hu;simp at hu;subst hu;rfl
 case b3=>unfold maxLen;omega
 case b4=>omega
 case b5=>simp;omega
 intro g cap H r a hat I;have t:=ND (n:=O.length+1) (c:=cap) a hat;have y:=((Below.refl B w).alloc l (jC #[U .u8 ((s.size:Int) % 256)] 5)).grown a (by simp;omega) (fun q h=>(f.lt q h).1);have d:=LA r;rw[<-Wc]at d;obtain⟨b,j⟩:∃b,Hid (O++BS (s.size:Int) 1=b):=⟨_,Ab rfl⟩
 have k:O.length+1=b.length:=by rw[<-Aa j,zB,AZ]
 rw[Aa j,k]at d;rw[k]at t|-;have J:b.length<=100000001:=by omega
 clear k;have z:=zC l y.size;clear a hat r;go_wp2_with (at_builtin;refine Di rfl _ _ 22 9 rfl B 5 i underlying22 underlying9 hi m o p (.slice (Y ⟨g,0,T⟩) b.length cap) b.length (AA b) rfl d s rfl (by unfold maxLen;omega) (by omega) z ?_;intro K L A a hat;have C:=Agh a hat;have D:=y.grown a z (fun q h=>(d.lt q h).1);obtain⟨M,N,E⟩:=Au A;subst E;have F:=Ty A;clear a hat)
 go_ret
 refine⟨_,rfl,?_,t.trans C,D⟩;rw[Bn,<-zJ,Aa j];exact F
set_option maxRecDepth 100000
set_option maxHeartbeats 6400000
theorem De {ops:Array Oper}{rest:List Oper}{o:Oper}{a:Act}{Q:Exit->Act->Z->Prop}(B:Nat)(k:o.guard=T)(s y:Operand)
  (l:o.op= .call { callee:= .builtin .append,args:=#[s,y],argTypes:=#[22,22] })(x:Option jD)(O:List Int)(c:Nat)(b:Int)(hs:a.eval s=X x O.length c)
  (f:d.ownsRow B 5 1 (X x O.length c) O.length (AA O))(A:Nat)(m:A=d.heap.size)(hy:a.eval y=X (Y ⟨A,0,T⟩) 1 1)(C:O.length<=100000000)(n:B<=d.heap.size)
  (h:∀g cap w',w'.ownsRow B 5 1 (X (Y ⟨g,0,T⟩) (O.length+1) cap) (O++[b]).length (AA (O++[b]))->Kp d (X x O.length c) w' (X (Y ⟨g,0,T⟩) (O.length+1) cap)->Below B d w'->wpList jL ops Q rest (a.put o.dst (X (Y ⟨g,0,T⟩) (O.length+1) cap)) w'):
  wpList jL ops Q (o ::rest) a (d.alloc (jC #[U .u8 b] 5)):=by
 obtain⟨i,hi,p,r,t⟩:=info_parts Mm;subst m;refine wpList_append_lies _ k s y 22 l B 5 i (U .u8 0) 1 1 underlying22 hi p r t rfl (by decide) (X x O.length c) O.length (AA O) hs (World.ownsRow.alloc f _) ⟨d.heap.size,0,T⟩ 1 1 [U .u8 b] hy rfl (World.news_of_block (heap_alloc_new d _)) (by intro u hu;simp at hu;subst hu;rfl) (by decide) (by unfold maxLen;omega) (by omega) (by simp;omega) _ rfl ?_;intro g cap v w j hat D;refine h g cap v (LA w) (ND j (by simpa using hat)) ?_;exact((Below.refl B d).alloc n _).grown j (by simp;omega) (fun q z=>(f.lt q z).1)
theorem AeP (x:Int):∀j,j<=7->IntKind.u64.wrap x / 2 ^ (8*j) % 256=BQ x j:=by
 intro j b;have a:IntKind.u64.wrap x=x % 18446744073709551616:=by simp[IntKind.wrap,IntKind.bits,IntKind.signed]
 rw[a,BQ];have:j=0\/j=1\/j=2\/j=3\/j=4\/j=5\/j=6\/j=7:=by omega
 rcases this with rfl|rfl|rfl|rfl|rfl|rfl|rfl|rfl<;>simp<;>omega
theorem Yp (x:jD)(O:List Int)(n:Int)(w:Z)(hc:∀j u,(AA O)[j]? =Y u->w.cell? (x.add j)=Y u)(p:O.length<=100):
  Calls jL 16 #[X (Y x) O.length O.length,U V n] w fun e w'=>∃v',e= .returned v'/\w'.ownsRow w.heap.size 5 1 v' (O++BS n 2).length (AA (O++BS n 2))/\An w w':=by
 obtain⟨i,hi,f,g,k⟩:=info_parts Mm;go_enter func16,ntmps16
 go_wp2_with (at_builtin;refine wpList_append_grows _ rfl _ _ 22 rfl 5 i (U .u8 0) 1 1 underlying22 hi f g k rfl (by decide) (Y x) O.length O.length (AA O) rfl (fun h=>by cases h) (by simp[AA]) ?a1 ⟨w.heap.size,0,T⟩ 2 2 [U .u8 (n / 256 % 256),U .u8 (n % 256)] rfl rfl ?a2 ?a3 ?a4 ?a5 ?a6 ?_)
 case a1=>
  intro b l j u hu;cases l;have:=hc j u hu;rw[<-this];exact World.cell?_alloc_lt _ _ _ (World.block_lt_of_cell? w _ this)
 case a2=>exact World.news_of_block (heap_alloc_new w _)
 case a3=>intro u hu;simp at hu;rcases hu with rfl|rfl<;>rfl
 case a4=>omega
 case a5=>unfold maxLen;omega
 case a6=>omega
 intro v' r a c;have m:=(AN w (jC #[U .u8 (n / 256 % 256),U .u8 (n % 256)] 5)).grown c (by simp) (fun q o=>by cases o);have d:=TA a;rw[<-Ahl]at d;obtain⟨s,c4,rfl⟩:=Au a;clear c;go_wp2
 go_ret
 exact⟨_,rfl,Aj d (by simp),m⟩
theorem JJ (a b:Option jD)(n c m d:Nat)(s:Int)(P:List Vl)(I:List Cg)(w:Z)(L:Vls w a n c P)(ak:Iss w b m d I):
  Calls jL 6 #[.agg #[X a n c,U V s,X b m d]] w fun e w'=>AcJ w (Eo P s I) e w':=by
 have ck:=L.small;have hm:=ak.small;have a8:=Ab L.len;have a9:=Ab ak.len;have ba:=Ab (show Da P s I=true->n<=4000/\m<=20000/\P.all CH=true from fun h=>by
  rw[Da,zD,zD,L.len,ak.len]at h;have:=of_decide_eq_true h.1.1;exact⟨this.1,this.2.1,h.1.2⟩)
 have aN:=Ab (show Eo P s I=if Da P s I then Fb P s I else []from rfl);have bI:=Ab (show Fb P s I=[80,76,49]++BS n 2++P.flatMap Cw++BS s 2++BS m 2++I.flatMap I9 by rw[Fb,L.len,ak.len]);have bb:=Ah.new w #[X a n c,U V s,X b m d] 26;have al:=AN w (jC #[X a n c,U V s,X b m d] 26);have aO:=L.below al NLN;have aP:=ak.below al NLN;generalize bc:Da P s I=bJ at ba aN;have bd:=Ab bc;clear bc;go_enter func6,ntmps6
 cases bJ
 ·have aQ:=Ab (show Eo P s I=[] by rw[Aa aN];rfl);go_wp2_with (go_at_call 15;refine(OY _ _ _ _ _ _ _ P I _ aO aP).mono ?_;rintro e w2 ⟨rfl,ao⟩;rw[Aa bd])
  go_ret
  exact⟨_,rfl,by rw[Aa aQ];exact World.ownsRow_nil _ _ _ _,al.trans (ao.mono al.size)⟩
 ·have aQ:=Ab (show Eo P s I=Fb P s I by rw[Aa aN];rfl);obtain⟨cl,cm,bK⟩:=Aa ba rfl;go_wp2_with (go_at_call 15;refine(OY _ _ _ _ _ _ _ P I _ aO aP).mono ?_;rintro e w2 ⟨rfl,ao⟩;rw[Aa bd];obtain⟨bL,bM,bN⟩:=Ao (bb.after ao NLN);have aA:=bb.after ao NLN;have aR:=al.trans (ao.mono al.size);have bO:=Go.Joins.run_convert_bytes_const_at (P:=jL) w2 22 5 #[U .u8 80,U .u8 76,U .u8 49] 3 3 w2.heap.size rfl underlying22 underlying5;obtain⟨bP,aS,bQ⟩:=Ao (aA.alloc (jC #[U .u8 80,U .u8 76,U .u8 49] 5 (3,4))))
  have aT:=AN w2 (jC #[U .u8 80,U .u8 76,U .u8 49] 5 (3,4));refine(Yp ⟨w2.heap.size,0,none⟩ [80,76,49] n _ (World.news_of_block (heap_alloc_new w2 (jC #[U .u8 80,U .u8 76,U .u8 49] 5 (3,4)))) (by decide)).mono ?_;rintro e co ⟨cp,rfl,aU,aV⟩;have aW:=(aA.alloc (jC #[U .u8 80,U .u8 76,U .u8 49] 5 (3,4))).after aV NLN;have bf:=aR.trans ((aT.trans (aV.mono aT.size)).mono aR.size);obtain⟨ac,aX⟩:∃ac,Hid ([80,76,49]++BS n 2=ac):=⟨_,Ab rfl⟩
  have cq:ac.length<=5:=by rw[<-Aa aX,zB,AZ];exact NLN
  rw[Aa aX]at aU;have bg:=Aj (base':=w.heap.size+1) aU (by have:=aA.lt;simp;omega);obtain⟨bh,d1,d2⟩:=Ao aW;clear bO bP aS bQ bL bM bN aA aR aT aV aU ao aO aP;obtain⟨i,hi,cr,cs,ct⟩:=info_parts Mm;go_wp2_with fail
  go_loopw [3,23] (fun v i wr=>∃ (k:Nat) (o:List Int),k<=n/\i=U V k/\Hid (o=ac++(P.take k).flatMap Cw)/\o.length<=5+4000*k/\wr.ownsRow (w.heap.size+1) 5 1 v o.length (AA o)/\Ah wr w.heap.size #[X a n c,U V s,X b m d] 26/\An w wr) (fun _ i _=>n-(intOf i).toNat)
  case atStart=>exact⟨0,ac,zE _,rfl,Ab (by simp),by omega,bg,aW,bf⟩
  case round=>
   obtain⟨k,o,hk,rfl,aY,cu,aB,aq,ad⟩:=hrel;obtain⟨x,cx,rfl⟩:=Au aB;have cv:=aq.lt;by_cases bi:k<n
   ·have bR:(k:Int)<(n:Int):=by omega
    have ae:k<P.length:=by rw[Aa a8];exact bi
    have bj:=L.sizes P[k] (zH ae);have M:CH P[k]=true:=zt.1 bK _ (zH ae);obtain⟨af,ag,rfl,ah,an,nn,cn,ar,au,bk,bl,av⟩:=L.cells k ae;have aZ:=(ad.cell (p:=⟨af,ag+k*4,none⟩) ah).trans ar;have a0:=(ad.cell (p:=⟨af,ag+k*4+1,none⟩) ah).trans au;have bS:=(ad.cell (p:=⟨af,ag+k*4+2,none⟩) ah).trans bk;have bT:=(ad.cell (p:=⟨af,ag+k*4+3,none⟩) ah).trans bl;clear ar au bk bl;have aw:=Ab (Ff Cw P k ae);have N:=Ab bi;generalize P[k]=z at aZ a0 bS bT bj M av aw;have O:=aB.alloc (jC #[U V z.kind,U V z.num,Q z.text,X an nn cn] 44);have S:=Ah.new wr #[U V z.kind,U V z.num,Q z.text,X an nn cn] 44;have S5:=aq.alloc (jC #[U V z.kind,U V z.num,Q z.text,X an nn cn] 44);have cw:=AN wr (jC #[U V z.kind,U V z.num,Q z.text,X an nn cn] 44);have W:=ad.alloc ad.size (jC #[U V z.kind,U V z.num,Q z.text,X an nn cn] 44);have aa:=LE aB;have aC:=Ab (show Cw z=BS z.kind 1++(if z.kind=1 then BS z.num 1 else if z.kind=2 then BS z.num 8 else if z.kind=3 then Bn z.text else if z.kind=4 then BS z.names.length 1++z.names.flatMap Bn else [])from rfl);obtain⟨f,r⟩:∃f,Hid (o++[z.kind % 256]=f):=⟨_,Ab rfl⟩
    have bU:f.length<=6+4000*k:=by rw[<-Aa r,zB,zg];omega
    have A:=Ab (show o.length+1=f.length by rw[<-Aa r,zB,zg]);have aD:=Ab (fun T (a1:f++T=o++Cw z)=>show f++T=ac++(P.take (k+1)).flatMap Cw by rw[a1,Aa aw,Aa aY,zJ]);have aE:=Ab (fun T (a1:f++T=o++Cw z)=>show(f++T).length<=5+4000*(k+1) by rw[a1,zB];have:=Qq M;omega);rcases IE M with hkd|hkd|hkd|hkd
    ·have e1:(z.kind==1)=true:=zF.2 hkd;have u:=Ab (show f++[z.num % 256]=o++Cw z by rw[Aa aC,if_pos hkd,Wc,Wc,<-Aa r,zJ]);clear hkd M;go_wp2_with (first
      |(at_builtin;refine De (w.heap.size+1) rfl _ _ rfl (Y ⟨g,0,none⟩) f cap _ rfl t _ rfl rfl (by omega) D ?_;intro bm bn aF G KB C)
      |(at_builtin;refine De (w.heap.size+1) rfl _ _ rfl x o cx _ rfl O _ (by simp) rfl (by omega) (by simp;omega) ?_;intro g cap E t KA q;rw[Aa r,Aa A]at t;rw[Aa A]at KA;rw[Aa A];have H:=S.kp KA aa;obtain⟨c0,c1,c2,c3⟩:=AC H;have ai:=S5.below q (by omega);have J:=W.trans (q.mono (by omega));have D:w.heap.size+1<=E.heap.size:=(by have:=q.size;simp at this;omega);have ax:(Value.slice (Y ⟨g,0,none⟩) f.length cap).ownBlock≠Y wr.heap.size:=(fun e=>by rcases KA.2.1 _ e with y|y;exact aa y;simp at y;omega)))
     go_roundw
     case rel=>exact⟨k+1,_,Aa N,by go_num,Ab (Aa aD _ (Aa u)),Aa aE _ (Aa u),G,ai.below C (by omega),J.trans (C.mono (by omega))⟩
     case measure=>have:=Aa N;simp[intOf];omega
    ·have e1:(z.kind==1)=false:=zA.2 (by omega);have e2:(z.kind==2)=true:=zF.2 hkd;have u:=Ab (show f++BS z.num 8=o++Cw z by rw[Aa aC,if_neg (by omega),if_pos hkd,Wc,<-Aa r,zJ]);clear hkd M;go_wp2_with (at_builtin;refine De (w.heap.size+1) rfl _ _ rfl x o cx _ rfl O _ (by simp) rfl (by omega) (by simp;omega) ?_;intro g cap E t KA q;rw[Aa r,Aa A]at t;rw[Aa A]at KA;rw[Aa A];have H:=S.kp KA aa;obtain⟨c0,c1,c2,c3⟩:=AC H;have ai:=S5.below q (by omega);have J:=W.trans (q.mono (by omega));have D:w.heap.size+1<=E.heap.size:=(by have:=q.size;simp at this;omega);have ax:(Value.slice (Y ⟨g,0,none⟩) f.length cap).ownBlock≠Y wr.heap.size:=(fun e=>by rcases KA.2.1 _ e with y|y;exact aa y;simp at y;omega))
     go_loopw [3,6] (fun v i wr=>∃ (j:Nat) (l:List Int),j<=8/\i=U V (8*(j:Int)-8)/\Hid (l++BS z.num j=f++BS z.num 8)/\l.length+j=f.length+8/\wr.ownsRow (w.heap.size+1) 5 1 v l.length (AA l)/\Kp E (X (Y ⟨g,0,none⟩) f.length cap) wr v/\Below (w.heap.size+1) E wr) (fun _ i _=>(intOf i+8).toNat)
     case atStart=>exact⟨8,f,NLN,rfl,Ab rfl,rfl,t,Kp.refl _ _,BRN⟩
     case round=>
      obtain⟨j,l,bo,rfl,F,bp,B,br,K⟩:=hrel;obtain⟨aG,aH,rfl⟩:=Au B;have bs:w.heap.size+1<=wr.heap.size:=zC D K.size;obtain⟨aI,aJ,aK,bV⟩:=AC (H.kp br ax);cases j with
      |zero=>
       have ay:=Ab (show l=f++BS z.num 8 by have:=Aa F;rw[BS,zd]at this;exact this);have bt: ¬ ((0 :Int)<=8*((0 :Nat):Int)-8):=by omega
       go_wp2_with fail
       refine⟨⟨k+1,l,Aa N,by go_num,Ab (by rw[Aa ay];exact Aa aD _ (Aa u)),by rw[Aa ay];exact Aa aE _ (Aa u),B,ai.below K (by omega),J.trans (K.mono (by omega))⟩,by have:=Aa N;simp[intOf];omega⟩
      |succ j=>
       have bt:(0 :Int)<=8*((j+1 :Nat):Int)-8:=by omega
       have bW: 8*((j+1 :Nat):Int)-8=8*(j:Int):=by omega
       rw[bW]at bt|-;go_wp2_with (at_builtin;refine De (w.heap.size+1) rfl _ _ rfl aG l aH _ rfl B _ rfl rfl (by omega) bs ?_;intro bm bn aF G KB C)
       rw[AeP z.num j (by omega)]at G;refine⟨⟨j,l++[BQ z.num j],by omega,by go_num,Ab (by rw[<-Aa F,BS,zJ];rfl),by rw[zB,zg];omega,G,br.trans KB,K.trans C⟩,by simp[intOf];omega⟩
    ·have e1:(z.kind==1)=false:=zA.2 (by omega);have e2:(z.kind==2)=false:=zA.2 (by omega);have e3:(z.kind==3)=true:=zF.2 hkd;have u:=Ab (show f++Bn z.text=o++Cw z by rw[Aa aC,if_neg (by omega),if_neg (by omega),if_pos hkd,Wc,<-Aa r,zJ]);clear hkd M;go_wp2_with (first
      |(go_at_call 17;refine(QL (w.heap.size+1) _ f _ _ t (by omega) bj D).mono ?_;rintro e aF ⟨cy,rfl,G,KB,C⟩)
      |(at_builtin;refine De (w.heap.size+1) rfl _ _ rfl x o cx _ rfl O _ (by simp) rfl (by omega) (by simp;omega) ?_;intro g cap E t KA q;rw[Aa r,Aa A]at t;rw[Aa A]at KA;rw[Aa A];have H:=S.kp KA aa;obtain⟨c0,c1,c2,c3⟩:=AC H;have ai:=S5.below q (by omega);have J:=W.trans (q.mono (by omega));have D:w.heap.size+1<=E.heap.size:=(by have:=q.size;simp at this;omega);have ax:(Value.slice (Y ⟨g,0,none⟩) f.length cap).ownBlock≠Y wr.heap.size:=(fun e=>by rcases KA.2.1 _ e with y|y;exact aa y;simp at y;omega)))
     go_roundw
     case rel=>exact⟨k+1,_,Aa N,by go_num,Ab (Aa aD _ (Aa u)),Aa aE _ (Aa u),G,ai.below C (by omega),J.trans (C.mono (by omega))⟩
     case measure=>have:=Aa N;simp[intOf];omega
    ·have e1:(z.kind==1)=false:=zA.2 (by omega);have e2:(z.kind==2)=false:=zA.2 (by omega);have e3:(z.kind==3)=false:=zA.2 (by omega);have u:=Ab (show f++(BS z.names.length 1++z.names.flatMap Bn)=o++Cw z by rw[Aa aC,if_neg (by omega),if_neg (by omega),if_neg (by omega),if_pos hkd,Wc z.kind,<-Aa r,zJ]);have bu:=Ab (Gz (show AR z.names=true by have:=M;unfold CH at this;simp[hkd]at this;exact this.1.1));clear hkd M;go_wp2_with (first
      |(at_builtin;refine De (w.heap.size+1) rfl _ _ rfl (Y ⟨g,0,none⟩) f cap _ rfl t _ rfl rfl (by omega) D ?_;intro bm bn aF G KB C;obtain⟨aI,aJ,aK,bV⟩:=AC (H.kp KB ax))
      |(at_builtin;refine De (w.heap.size+1) rfl _ _ rfl x o cx _ rfl O _ (by simp) rfl (by omega) (by simp;omega) ?_;intro g cap E t KA q;rw[Aa r,Aa A]at t;rw[Aa A]at KA;rw[Aa A];have H:=S.kp KA aa;obtain⟨c0,c1,c2,c3⟩:=AC H;have ai:=S5.below q (by omega);have J:=W.trans (q.mono (by omega));have D:w.heap.size+1<=E.heap.size:=(by have:=q.size;simp at this;omega);have ax:(Value.slice (Y ⟨g,0,none⟩) f.length cap).ownBlock≠Y wr.heap.size:=(fun e=>by rcases KA.2.1 _ e with y|y;exact aa y;simp at y;omega)))
     have bX:=J.trans (C.mono (by omega));have bY:=ai.below C (by omega);obtain⟨ap,a2⟩:∃ap,Hid (f++[(nn:Int) % 256]=ap):=⟨_,Ab rfl⟩
     have a3:=Ab (show f.length+1=ap.length by rw[<-Aa a2,zB,zg]);have cz:ap.length<=7+4000*k:=by have:=Aa a3;omega
     rw[Aa a2,Aa a3]at G;rw[Aa a3]at KB|-;have bZ:=Ab (show ap++(z.names.drop 0).flatMap Bn=f++(BS z.names.length 1++z.names.flatMap Bn) by rw[List.drop_zero,<-Aa a2,Wc,av.len,zJ]);have cA:nn<=64:=by rw[av.len];exact(Aa bu).1
     have bv:=Ab av.len;clear aI aJ aK c0 c1 c2 c3;go_loopw [3,45] (fun v i bw=>∃ (j:Nat) (l:List Int),j<=nn/\i=U V j/\Hid (l++(z.names.drop j).flatMap Bn=f++(BS z.names.length 1++z.names.flatMap Bn))/\l.length<=7+4000*k+33*j/\bw.ownsRow (w.heap.size+1) 5 1 v l.length (AA l)/\Below (w.heap.size+1) aF bw) (fun _ i _=>nn-(intOf i).toNat)
     case atStart=>exact⟨0,ap,zE _,rfl,bZ,by omega,G,BRN⟩
     case round=>
      obtain⟨j,l,bo,rfl,F,bp,B,K⟩:=hrel;obtain⟨aG,aH,rfl⟩:=Au B;have ab:=bX.trans (K.mono (by omega));by_cases a4:j<nn
      ·have b0:(j:Int)<(nn:Int):=by omega
       have aL:j<z.names.length:=by rw[<-Aa bv];exact a4
       obtain⟨bq,cB,rfl,_,b1⟩:=(av.below ab NLN).cells j a4;have b2:=(Aa bu).2 (Ck z.names j) (by rw[BM _ _ aL];exact zH aL);have bx:=Ab (show(l++Bn (Ck z.names j))++(z.names.drop (j+1)).flatMap Bn=f++(BS z.names.length 1++z.names.flatMap Bn) by
        rw[<-Aa F,Z4 aL,zm,BM _ _ aL,zJ])
       have bz:=Ab a4;have b3:w.heap.size+1<=wr.heap.size:=by have:=C.size;have:=K.size;omega
       clear F;generalize Ck z.names j=bA at b1 b2 bx;have b4:(l++Bn bA).length<=7+4000*k+33*(j+1):=by rw[zB,Bn,zB,AZ,IB];omega
       go_wp2_with (go_at_call 17;refine(QL (w.heap.size+1) _ l bA _ B (by omega) (by omega) b3).mono ?_;rintro e bB ⟨cC,rfl,b5,cD,b6⟩)
       go_roundw
       case rel=>exact⟨j+1,_,Aa bz,by go_num,bx,b4,b5,K.trans b6⟩
       case measure=>have:=Aa bz;simp[intOf];omega
      ·have ay:=Ab (show l=f++(BS z.names.length 1++z.names.flatMap Bn) by
        have:=Aa F;rw[yG (by rw[<-Aa bv];omega)]at this;simpa using this)
       have b0: ¬ ((j:Int)<(nn:Int)):=by omega
       go_wp2_with fail
       refine⟨⟨k+1,l,Aa N,by go_num,Ab (by rw[Aa ay];exact Aa aD _ (Aa u)),by rw[Aa ay];exact Aa aE _ (Aa u),B,bY.below K (by omega),ab⟩,by have:=Aa N;simp[intOf];omega⟩
   ·have b7:=Ab (show o=ac++P.flatMap Cw by rw[Aa aY,zf (by rw[Aa a8];omega)]);have bR: ¬ ((k:Int)<(n:Int)):=by omega
    obtain⟨bh,d1,d2⟩:=Ao aq;have bC:w.heap.size+1<=wr.heap.size:=by omega
    clear aY aW bf bg L;go_wp2_with (first
     |(go_at_call 16;refine(NE (w.heap.size+1) _ az _ _ O (by omega) bD).mono ?_;rintro e E ⟨cE,rfl,bE,cF,a5⟩;obtain⟨f,r⟩:∃f,Hid (az++BS (m:Int) 2=f):=⟨_,Ab rfl⟩;rw[Aa r]at bE;have bU:f.length<=16000009:=(by rw[<-Aa r,zB,AZ];omega);have b8:=S.below a5 (by omega);have b9:=ca.trans (a5.mono (by omega));obtain⟨u0,u1,u2⟩:=Ao b8)
     |(go_at_call 16;refine(NE (w.heap.size+1) _ o _ _ aB (by omega) bC).mono ?_;rintro e cG ⟨cH,rfl,O,K5,W⟩;obtain⟨az,a6⟩:∃az,Hid (o++BS s 2=az):=⟨_,Ab rfl⟩;rw[Aa a6]at O;have cI:az.length<=16000007:=(by rw[<-Aa a6,zB,AZ];omega);have S:=aq.below W (by omega);have ca:=ad.trans (W.mono (by omega));have bD:=zC bC W.size;obtain⟨aI,aJ,aK⟩:=Ao S;obtain⟨cJ,c5,cb⟩:=Au O;subst cb))
    clear u0 u1 aI aJ aK bh d1 d2 aq S;go_loopw [3,96] (fun v i wr=>∃ (j:Nat) (l:List Int),j<=m/\i=U V j/\Hid (l=f++(I.take j).flatMap I9)/\l.length<=16000009+3*j/\wr.ownsRow (w.heap.size+1) 5 1 v l.length (AA l)/\w.heap.size+1<=wr.heap.size/\An w wr) (fun _ i _=>m-(intOf i).toNat)
    case atStart=>exact⟨0,f,zE _,rfl,Ab (by simp),by omega,bE,zC bD a5.size,b9⟩
    case round=>
     obtain⟨j,l,bo,rfl,F,bp,B,bs,ab⟩:=hrel;obtain⟨aG,aH,rfl⟩:=Au B;by_cases bF:j<m
     ·have cc:(j:Int)<(m:Int):=by omega
      have ae:j<I.length:=by rw[Aa a9];exact bF
      obtain⟨af,ag,rfl,ah,ar,au⟩:=ak.cells j ae;have aZ:=(ab.cell (p:=⟨af,ag+j*2,none⟩) ah).trans ar;have a0:=(ab.cell (p:=⟨af,ag+j*2+1,none⟩) ah).trans au;have aw:=Ab (Ff I9 I j ae);have bG:=Ab bF;clear ar au;generalize I[j]=z at aZ a0 aw;have cd:=B.alloc (jC #[U V z.op,U V z.arg] 49);have ce:=Ah.new wr #[U V z.op,U V z.arg] 49;have cf:=ab.alloc ab.size (jC #[U V z.op,U V z.arg] 49);have cg:=LE B;obtain⟨aj,a7⟩:∃aj,Hid (l++[z.op % 256]=aj):=⟨_,Ab rfl⟩
      have aM:=Ab (show l.length+1=aj.length by rw[<-Aa a7,zB,zg]);have cK:aj.length<=16000009+3*j+1:=by have:=Aa aM;omega
      have u:=Ab (show aj++BS z.arg 2=f++(I.take (j+1)).flatMap I9 by rw[Aa aw,<-Aa a7,Aa F,I9,Wc,zJ,zJ]);have ch:(aj++BS z.arg 2).length<=16000009+3*(j+1):=by rw[zB,AZ];omega
      clear F;go_wp2_with (first
       |(go_at_call 16;refine(NE (w.heap.size+1) _ aj _ _ t (by omega) D).mono ?_;rintro e cL ⟨cM,rfl,ci,cN,bH⟩)
       |(at_builtin;refine De (w.heap.size+1) rfl _ _ rfl aG l aH _ rfl cd _ (by simp) rfl (by omega) (by simp;omega) ?_;intro g cap bB t KA q;rw[Aa a7,Aa aM]at t;rw[Aa aM]at KA;rw[Aa aM];have aS:=(ce.kp KA cg).cell 1;simp only[List.getElem?_toArray,z1,z4]at aS;have J:=cf.trans (q.mono (by omega));have D:w.heap.size+1<=bB.heap.size:=(by have:=q.size;simp at this;omega)))
      go_roundw
      case rel=>exact⟨j+1,_,Aa bG,by go_num,u,ch,ci,zC D bH.size,J.trans (bH.mono (by omega))⟩
      case measure=>have:=Aa bG;simp[intOf];omega
     ·have cj:=Ab (show l=Eo P s I by rw[Aa aQ,Aa bI,Aa F,zf (by rw[Aa a9];omega),<-Aa r,<-Aa a6,Aa b7,<-Aa aX]);have cc: ¬ ((j:Int)<(m:Int)):=by omega
      go_wp2
      go_ret
      refine⟨_,rfl,?_,ab⟩;rw[<-Aa cj];exact Aj B (by omega)
end
end Go.Proofs.YtppafecmccdplaaGreat
