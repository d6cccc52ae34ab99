import Derived.Test.YtppafecmccdplaaGreatBTC
open Go.Proofs.Tryz
open Option renaming none->T,some->Y
open Go.Value renaming int->U,slice->X,string->Q,pointer->jH
open Go.IntKind renaming i64->V
open Go.Obj renaming cells->jC
open Go.Proofs.Tryz renaming prog->jL
namespace Go.Proofs.YtppafecmccdplaaGreat
set_option maxRecDepth 100000
set_option maxHeartbeats 6400000
open Go.RowKit
set_option linter.unusedVariables false
variable {f:Array Value}{b:Nat}
section
variable {w w' : World} {B R gb : Nat} {a : Option Addr} {n c : Nat} {zs : List Int} {k : Nat} {s : Gs} {pv iv sv lv : Value} {nv : List Value}
theorem G5.setV (h:G5 w B R gb a n c zs k s pv iv sv lv nv)(hv:Ah w b f 44)(r:R<b)(t:gb<=b)(hp:pv.ownBlock≠Y b)(j:Nat)(u:Value):G5 (w.setCell ⟨b,j,T⟩ u) B R gb a n c zs k s pv iv sv lv nv/\DY R gb w (w.setCell ⟨b,j,T⟩ u):=by
 have K:GW (fun q=>q=b) w (w.setCell ⟨b,j,T⟩ u):=(GW.refl (fun q=>q=b) w).setCell (p:=⟨b,j,T⟩) (fun _=>rfl) u;have g:=h.bel K (fun q e=>by omega);have o:∀{e:TypeId} {size m:Nat} {v:Value} {d:List Value},v.ownBlock≠Y b->w.ownsRow B e size v m d->(w.setCell ⟨b,j,T⟩ u).ownsRow B e size v m d:=fun hd o=>Ai o ⟨b,j,T⟩ u (fun q l e=>hd (by have e:q=b:=e;rw[<-e];exact l));exact⟨⟨h.rd.after g (by omega),⟨(K.block gb h.row.lt (fun e=>Bk hv h.row (by decide) e.symm)).trans h.row.out⟩,⟨h.pool.len,o hp h.pool.own,fun i hi hi'=>o (Ac hv (h.pool.names i hi hi') (by decide)) (h.pool.names i hi hi'),h.pool.apart,h.pool.far⟩,o (Ac hv h.ins (by decide)) h.ins,o (Ac hv h.st (by decide)) h.st,o (Ac hv h.sl (by decide)) h.sl,h.ap,⟨h.low.1,h.low.2.1,by simpa using h.low.2.2⟩,h.ok⟩,.kpt K (fun q e=>by omega)⟩
theorem Ah.touchR {w w':World}{R:Nat}{a:Array Value}{t:TypeId}(h:Ah w b a t)(T:Al R (R+1) w w')(c:R<b):Ah w' b a t:=⟨(T.block b h.lt (.inr (by omega))).trans h.out⟩
theorem Y0 (h:GS B R gb a n c zs k s w)(bf:s.P.length<=90000)(hi:s.I.length<=90000)(hs:s.st.length<=90000):
  Calls jL 87 #[jH (Y ⟨gb,0,T⟩)] w (GA B R gb a n c zs k w (VaX zs s)):=by
 obtain⟨ar,aB,aC,lv,ab,h⟩:=h;obtain⟨aS,aT,aU,aV,aW⟩:=info_parts Ug;have c0:=h.row.cell 0;have bg:=h.low;go_enter func87,ntmps87
 go_wp2_with fail
 refine(BH R a n c zs s.p w h.rd).mono ?_;rintro e t ⟨x,G,rfl,aX,bh,bi,h1,ak⟩;have al:=h.touch h1 ak;have au:DY R gb w t:= .touch ak;have bj:=ak.size;clear h h1 ak c0;have ao:=al.pool.lts;obtain⟨b,aD⟩:∃b,b=t.heap.size:=⟨_,rfl⟩
 have M:R<b:=by omega
 have av:gb<=b:=by omega
 have aw:=AN t (jC #[U V (1+x % 4),U V 0,Q ⟨#[]⟩,X T 0 0] 44);have F:=Ah.new t #[U V (1+x % 4),U V 0,Q ⟨#[]⟩,X T 0 0] 44;have z:=al.below aw;have J:=au.trans (.of aw);have aY:(t.alloc (jC #[U V (1+x % 4),U V 0,Q ⟨#[]⟩,X T 0 0] 44)).cell? ⟨gb,0,T⟩=Y (jH (Y ⟨R,0,T⟩)):=z.row.cell 0;have hp:ar.ownBlock≠Y b:=fun e=>by have:=(ao.1 b e).2;omega
 have ac:=Ab (show ∀u:Value,(∀q,u.ownBlock=Y q->b<q)->∀q,u.ownBlock=Y q->ar.ownBlock≠Y q/\∀j,(ax:j<ab.length)->ab[j].ownBlock≠Y q from fun u hu q o=>
  ⟨fun e=>by have:=(ao.1 q e).2;have:=hu q o;omega,fun j ax e=>by have:=(ao.2 j ax q e).2;have:=hu q o;omega⟩)
 have N:=Ab aD;clear aD;rcases(show x % 4=0\/x % 4=1\/x % 4=2\/x % 4=3 by omega)with e|e|e|e
 case' inl=>
  have ay:(1+x % 4==1)=true:=zF.2 (by omega);have i:=al.below (AN t (jC #[U V (1+x % 4),U V (x / 4 % 2),Q ⟨#[]⟩,X T 0 0] 44));have H:=au.trans (.of (AN t (jC #[U V (1+x % 4),U V (x / 4 % 2),Q ⟨#[]⟩,X T 0 0] 44)));have y:=Ah.new t #[U V (1+x % 4),U V (x / 4 % 2),Q ⟨#[]⟩,X T 0 0] 44;obtain⟨q,o⟩:∃q,q=G:=⟨_,rfl⟩
  have O:=Ab (show Lr zs x G ⟨1+x % 4,x / 4 % 2,⟨#[]⟩,[]⟩ q by unfold Lr;rw[if_pos e,e];exact⟨rfl,o⟩);rw[<-o]at i;clear e o;go_wp2_with fail
  have A:(t.alloc (jC #[U V (1+x % 4),U V (x / 4 % 2),Q ⟨#[]⟩,X T 0 0] 44)).ownsRow B 9 1 (X T 0 0) ([]:List ByteArray).length (([]:List ByteArray).map Value.string):=World.ownsRow_nil _ _ _ _;have S:=Ab (show Ps ⟨1+x % 4,x / 4 % 2,⟨#[]⟩,[]⟩from⟨zE _,zE _,fun s hs=>absurd hs (by simp)⟩);have W:=Ab (Aa ac (X T 0 0) (fun q o=>by cases o));generalize t.alloc (jC #[U V (1+x % 4),U V (x / 4 % 2),Q ⟨#[]⟩,X T 0 0] 44)=l at i H y A|-;rw[<-Aa N]at y|-
 case' inr.inl=>
  have ay:(1+x % 4==1)=false:=zA.2 (by omega);have aE:(1+x % 4==2)=true:=zF.2 (by omega);have E:=Ab e;clear e;go_wp2_with fail
  generalize t.alloc (jC #[U V (1+x % 4),U V 0,Q ⟨#[]⟩,X T 0 0] 44)=aF at z J F|-;rw[<-Aa N]at F|-;refine(Y1 R a n c zs G _ z.rd).mono ?_;rintro e C ⟨nm,q,rfl,ad,-,ae,D⟩;have m:=F.touchR D M;have af:=m.frozen 1;obtain⟨ag,ah,ai,aj⟩:=AC m;dsimp only;go_wp2_with fail
  obtain⟨i,b3⟩:=(z.touch ae D).setV m M av hp 1 (U V nm);have H:=(J.trans (.touch D)).trans b3;have y:Ah (C.setCell ⟨b,1,T⟩ (U V nm)) b #[U V (1+x % 4),U V nm,Q ⟨#[]⟩,X T 0 0] 44:=m.set 1 _;have O:=Ab (show Lr zs x G ⟨1+x % 4,nm,⟨#[]⟩,[]⟩ q by have e:=Aa E;unfold Lr;rw[if_neg (by omega),if_pos e,e,Aa ad];exact⟨rfl,rfl⟩);have A:(C.setCell ⟨b,1,T⟩ (U V nm)).ownsRow B 9 1 (X T 0 0) ([]:List ByteArray).length (([]:List ByteArray).map Value.string):=World.ownsRow_nil _ _ _ _;have S:=Ab (show Ps ⟨1+x % 4,nm,⟨#[]⟩,[]⟩from⟨zE _,zE _,fun s hs=>absurd hs (by simp)⟩);have W:=Ab (Aa ac (X T 0 0) (fun q o=>by cases o));generalize C.setCell ⟨b,1,T⟩ (U V nm)=l at i H y A|-;clear m af ag ah ai aj b3
 case' inr.inr.inl=>
  have ay:(1+x % 4==1)=false:=zA.2 (by omega);have aE:(1+x % 4==2)=false:=zA.2 (by omega);have aZ:(1+x % 4==3)=true:=zF.2 (by omega);have E:=Ab e;clear e;go_wp2_with fail
  generalize t.alloc (jC #[U V (1+x % 4),U V 0,Q ⟨#[]⟩,X T 0 0] 44)=aF at z J F|-;rw[<-Aa N]at F|-;refine(PU R a n c zs G _ z.rd).mono ?_;rintro e C ⟨d,q,rfl,ad,h5,ae,D⟩;have m:=F.touchR D M;have af:=m.frozen 2;obtain⟨ag,ah,ai,aj⟩:=AC m;dsimp only;go_wp2_with fail
  obtain⟨i,b3⟩:=(z.touch ae D).setV m M av hp 2 (Q d);have H:=(J.trans (.touch D)).trans b3;have y:Ah (C.setCell ⟨b,2,T⟩ (Q d)) b #[U V (1+x % 4),U V 0,Q d,X T 0 0] 44:=m.set 2 _;have O:=Ab (show Lr zs x G ⟨1+x % 4,0,d,[]⟩ q by have e:=Aa E;unfold Lr;rw[if_neg (by omega),if_neg (by omega),if_pos e,e,Aa ad];exact⟨rfl,rfl⟩);have A:(C.setCell ⟨b,2,T⟩ (Q d)).ownsRow B 9 1 (X T 0 0) ([]:List ByteArray).length (([]:List ByteArray).map Value.string):=World.ownsRow_nil _ _ _ _;have S:=Ab (show Ps ⟨1+x % 4,0,d,[]⟩from⟨h5,zE _,fun s hs=>absurd hs (by simp)⟩);have W:=Ab (Aa ac (X T 0 0) (fun q o=>by cases o));generalize C.setCell ⟨b,2,T⟩ (Q d)=l at i H y A|-;clear m af ag ah ai aj b3
 case' inr.inr.inr=>
  have ay:(1+x % 4==1)=false:=zA.2 (by omega);have aE:(1+x % 4==2)=false:=zA.2 (by omega);have aZ:(1+x % 4==3)=false:=zA.2 (by omega);have E:=Ab e;clear e;go_wp2_with fail
  have a0:b<(t.alloc (jC #[U V (1+x % 4),U V 0,Q ⟨#[]⟩,X T 0 0] 44)).heap.size:=by have:=Aa N;simp;omega
  generalize t.alloc (jC #[U V (1+x % 4),U V 0,Q ⟨#[]⟩,X T 0 0] 44)=aF at z J F a0|-;rw[<-Aa N]at F|-;refine(Y4 R a n c zs G _ z.rd).mono ?_;rintro e C ⟨f,g,K,q,rfl,ad,h5,ap,ae,D⟩;have m:=F.touchR D M;have af:=m.frozen 3;obtain⟨ag,ah,ai,aj⟩:=AC m;dsimp only;go_wp2_with fail
  obtain⟨i,b3⟩:=(z.touch ae D).setV m M av hp 3 (X f K.length g);have H:=(J.trans (.touch D)).trans b3;have y:Ah (C.setCell ⟨b,3,T⟩ (X f K.length g)) b #[U V (1+x % 4),U V 0,Q ⟨#[]⟩,X f K.length g] 44:=m.set 3 _;have O:=Ab (show Lr zs x G ⟨1+x % 4,0,⟨#[]⟩,K⟩ q by have e:=Aa E;unfold Lr;rw[if_neg (by omega),if_neg (by omega),if_neg (by omega),e];exact⟨rfl,Aa ad⟩);have A:(C.setCell ⟨b,3,T⟩ (X f K.length g)).ownsRow B 9 1 (X f K.length g) K.length (K.map Value.string):=Ai (Aj ap.own (by have:=z.low;omega)) ⟨b,3,T⟩ _ (fun q o=>by have:=(ap.own.lt q o).1;show q≠b;omega);have S:=Ab (show Ps ⟨1+x % 4,0,⟨#[]⟩,K⟩from⟨zE _,zC h5 (by decide),ap.small⟩);have W:=Ab (Aa ac (X f K.length g) (fun q o=>by have:=(ap.own.lt q o).1;omega));generalize C.setCell ⟨b,3,T⟩ (X f K.length g)=l at i H y A|-;clear m af ag ah ai aj b3
 all_goals
  obtain⟨nm,d,K,f,g,y,O,A,S,W⟩:∃ (nm:Int) (d:ByteArray) (K:List ByteArray) (f:Option Addr) (g:Nat),Ah l b #[U V (1+x % 4),U V nm,Q d,X f K.length g] 44/\Hid (Lr zs x G ⟨1+x % 4,nm,d,K⟩ q)/\l.ownsRow B 9 1 (X f K.length g) K.length (K.map Value.string)/\Hid (Ps ⟨1+x % 4,nm,d,K⟩)/\Hid (∀q,(Value.slice f K.length g).ownBlock=Y q->ar.ownBlock≠Y q/\∀j,(ax:j<ab.length)->ab[j].ownBlock≠Y q):=⟨_,_,_,_,_,y,O,A,S,W⟩
  clear al z au J F aw ao aY ac N;obtain⟨aa,cn,a1,-⟩:=Ae i.pool.own;subst a1;obtain⟨e0,e1,e2,e3⟩:=AC y;have aG:l.cell? ⟨gb,1,T⟩=Y (X aa s.P.length cn):=i.row.cell 1;have aH:=i.row.frozen 1;have aI:=World.news_of_block (heap_alloc_new l (jC #[U V (1+x % 4),U V nm,Q d,X f K.length g] 44));have aJ:=(World.ownsRow.alloc i.pool.own (jC #[U V (1+x % 4),U V nm,Q d,X f K.length g] 44)).drew;have aq:Ah (l.alloc (jC #[U V (1+x % 4),U V nm,Q d,X f K.length g] 44)).drew gb #[jH (Y ⟨R,0,T⟩),X aa s.P.length cn,U V k,aB,aC,lv] 117:=⟨(i.row.alloc (jC #[U V (1+x % 4),U V nm,Q d,X f K.length g] 44)).out⟩
  have a2:l.drew.cell? ⟨gb,1,T⟩=Y (X aa s.P.length cn)/\l.drew.frozen? ⟨gb,1,T⟩=false:=⟨aG,aH⟩
  have d1:l.drew.cell? ⟨b,0,T⟩=Y (U V (1+x % 4)):=e0;have d2:l.drew.cell? ⟨b,1,T⟩=Y (U V nm):=e1;have d3:l.drew.cell? ⟨b,2,T⟩=Y (Q d):=e2;have d4:l.drew.cell? ⟨b,3,T⟩=Y (X f K.length g):=e3;have a3:=aq.cell 1;have aK:(Value.slice aa s.P.length cn).ownBlock≠Y gb:=Ac i.row i.pool.own (by decide);have bk:B<=l.heap.size:=i.low.2.2;clear e0 e1 e2 e3 aG aH;go_region_law (refine step_append_lies _ rfl _ _ 23 rfl B 44 aS (.agg #[U V 0,U V 0,Q ByteArray.empty,X T 0 0]) 4 56 underlying23 aT aU aV aW rfl (by decide) (X aa s.P.length cn) s.P.length (Iz s.P ab) rfl aJ ⟨l.heap.size,0,T⟩ 1 1 [U V (1+x % 4),U V nm,Q d,X f K.length g] rfl rfl aI (by intro u hu;simp at hu;rcases hu with rfl|rfl|rfl|rfl<;>rfl) (by decide) (by unfold maxLen;omega) (by omega) (by simp;omega) _ rfl ?_;intro g7 c7 aL aM L hat a4;have az:Ah aL gb #[jH (Y ⟨R,0,T⟩),X aa s.P.length cn,U V k,aB,aC,lv] 117:=⟨(L.block gb aq.lt (fun e=>aK e.symm)).trans aq.out⟩;have aN:=az.cell 1;have a5:=az.frozen 1)
  all_goals
   obtain⟨aA,aO,aP⟩:=i.newP (g7:=g7) (c7:=c7) (v:=⟨1+x % 4,nm,d,K⟩) (u:= X f K.length g) (jC #[U V (1+x % 4),U V nm,Q d,X f K.length g] 44) (Aa S) A (Aa W) ⟨L.os,L.tape,L.output,L.size,L.block⟩ aM (hat.imp id (fun e=>by rw[e];show(l.alloc _).heap.size=_;simp));have aQ:=aP b _ y hp;have aR:=H.trans aO;clear aM L hat a4 az aq a3 a2 d1 d2 d3 d4 aI aJ aO aP;clear aN a5;generalize aL.setCell ⟨gb,1,T⟩ (X (Y ⟨g7,0,T⟩) (s.P.length+1) c7)=a6 at aA aR aQ|-;clear aK y i H A;have aN:a6.cell? ⟨gb,1,T⟩=Y (X (Y ⟨g7,0,T⟩) (s.P.length+1) c7):=aA.row.cell 1;go_wp2_with fail
   refine(AbR ⟨_,_,_,_,_,aA⟩ 1 (s.P.length:Int) (by show s.I.length<=100000;omega)).mono ?_;rintro r bl ⟨⟨rfl,a7,rfl,a8,a9⟩,ba⟩;have bb:=ba _ _ aQ;obtain⟨e0,e1,e2,e3⟩:=AC bb;dsimp only;go_wp2_with fail
   refine(PS a8 (1+x % 4) (by show s.st.length<=100000;omega)).mono ?_;rintro r bm ⟨rfl,a7,rfl,bc,bd⟩;dsimp only;go_wp2_with fail
   go_end0
   exact⟨rfl,_,⟨_,_,by rw[Aa aX];exact Aa O,rfl⟩,bc,(aR.trans a9).trans bd⟩
end
end Go.Proofs.YtppafecmccdplaaGreat
