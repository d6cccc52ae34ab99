import Derived.Test.YtppafecmccdplaaGreatLTD
import Derived.Test.YtppafecmccdplaaGreatMXAT
import Derived.Test.YtppafecmccdplaaGreatMXAU
open Go.Proofs.Tryz
open Option renaming none->T,some->Y
open Go.Value renaming int->U,slice->X,string->Q,pointer->jH,tuple->jJ
open Go.IntKind renaming i64->V
open Go renaming World->Z,Value->jB,Addr->jD
open Bool renaming true->R,false->jA
open Go.Proofs.Tryz renaming prog->jL
namespace Go.Proofs.YtppafecmccdplaaGreat
open Go.RowKit
set_option linter.unusedVariables false
set_option maxRecDepth 100000
set_option maxHeartbeats 6400000
variable {t b:Int}{Es:List Ex}{ts:List Int}{lo cx g:Nat}{an:Option jD}{nd lt:jB}
section
theorem XG (R:Nat)(a:Option jD)(n c:Nat)(zs:List Int)(p:Nat)(w:Z)(h:KL w R a n c zs p):
  Calls jL 64 #[jH (Y ⟨R,0,T⟩)] w fun e w'=>∃r:Int,e= .returned (U V r)/\Hid (r=(zs.length:Int)-p)/\0<=r/\r<=1048576/\An w w':=by
 have c0:=h.row.cell 0;have c1:=h.row.cell 1;have h1:=h.le;have d:=h.small;have b:=Ab h.len;go_enter func64,ntmps64
 go_wp2_with fail
 go_quiet (fail)
 go_wp2
 go_ret
 exact⟨_,rfl,Ab (by rw[Aa b]),by omega,by omega,⟨rfl,rfl,rfl,NLN,fun _ _=>rfl⟩⟩
theorem PF {B R d:Nat}{a:Option jD}{n c:Nat}{zs:List Int}{wild:Bool}{p:Nat}{N:List Nd}{L:List (ByteArray×Int)}{w:Z}(h:Ka B R d a n c zs wild p N L nd lt w)(hm:N.length+1<=1000000)(f:List Int)(b:Array jB)(j:Nat)(hv:b.toList=Aw f)(i:b.size=j)(k:j<=3)(op:Int):
  Calls jL 93 #[jH (Y ⟨d,0,T⟩),U V op,X (Y ⟨w.heap.size,0,T⟩) j j] (w.alloc (.cells b 3)) (ZC B R d a n c zs wild N 1 (Snc p N (opN op f)) L nd lt w):=by
 have l:=AN w (.cells b 3);have m:Gk B R d lt nd w nd (w.alloc (.cells b 3)):=Gk.of_below l h.lt.1.1;go_enter func93,ntmps93
 go_wp2_with fail
 refine(AaZ h hm f b j hv i k op _ BRN).mono ?_;intro r q g;have o:=Ab (g.to m (fun _ _ h=>h) NLN);obtain⟨s,t,u,rfl,-⟩:=g;dsimp only;go_wp2
 go_ret
 exact Aa o
def tpN:Nat->Nat
 |0=>1
 |d+1=>3*tpN d+1
def ExD (B R gb:Nat) (a:Option jD) (n c:Nat) (zs:List Int) (wild:Bool) (L:List (ByteArray×Int)) (lt:jB) (d:Nat):Prop:=
 ∀(ty:Int) (p:Nat) (N:List Nd) (nd:jB) (w:Z),(ty=1\/ty=2\/ty=3\/ty=4)->N.length+tpN d<=1000000->Ka B R gb a n c zs wild p N L nd lt w->Calls jL 65 #[jH (Y ⟨gb,0,T⟩),U V ty,U V (d:Int)] w (ZC B R gb a n c zs wild N (tpN d) (Ng zs L wild d ty p N) L nd lt w)
def TwX (E:Drw) (op t1 t2:Int) (p:Nat) (N:List Nd) (q:Nat) (M:List Nd):Prop:=∃q1 N1 N2,E t1 p N q1 N1/\E t2 q1 N1 q N2/\M=N2++[opN op [Fn N1,Fn N2]]
theorem AeX {B R:Nat}{a:Option jD}{n c d:Nat}{zs:List Int}{wild:Bool}{p:Nat}{N:List Nd}{L:List (ByteArray×Int)}{w:Z}(k:ExD B R g a n c zs wild L lt d)(h:Ka B R g a n c zs wild p N L nd lt w)(hm:N.length+2*tpN d+1<=1000000)(op b f:Int)(h1:b=1\/b=2\/b=3\/b=4)(s:f=1\/f=2\/f=3\/f=4):
  Calls jL 94 #[jH (Y ⟨g,0,T⟩),U V op,U V b,U V f,U V (d:Int)] w (ZC B R g a n c zs wild N (2*tpN d+1) (TwX (Ng zs L wild d) op b f p N) L nd lt w):=by
 have i:=Ab k;unfold ExD at i;generalize tpN d=t at hm i|-;generalize Ng zs L wild d=E at i|-;clear k;go_enter func94,ntmps94
 go_wp2_with fail
 refine(Aa i b p N nd w h1 (by omega) h).mono ?_;rintro r u ⟨l,j,v,rfl,x,a1,a2,y,z⟩;dsimp only;go_wp2_with fail
 refine(Aa i f l j v u s (by omega) y).mono ?_;rintro r w2 ⟨K,m,M,rfl,A,a3,a4,S2,K2⟩;have C:=z.trans K2;dsimp only;go_wp2_with fail
 refine(PF S2 (by omega) [Fn j,Fn m] _ 2 rfl rfl (by omega) op).mono ?_;rintro r D ⟨F,o,G,rfl,q,a5,a6,H,I⟩;have J:=Ab (show ZC B R g a n c zs wild N (2*t+1) (TwX E op b f p N) L nd lt w (.returned (U V (Fn o))) D from⟨F,o,G,rfl,Ab ⟨l,j,m,Aa x,by rw[(Aa q).1];exact Aa A,(Aa q).2⟩,by omega,by omega,H,C.trans I⟩);dsimp only;go_wp2
 go_ret
 exact Aa J
section
variable {zs : List Int} {L : List (ByteArray×Int)} {wild : Bool} {d : Nat} {ty ty' x : Int} {p p1 q : Nat} {N M : List Nd} {Lf E : Drw}
theorem Ac2 (h:zs.length<=p\/300<N.length)(a:CU zs L ty p N q M):Ng zs L wild (d+1) ty p N q M:=by
 unfold Ng;rw[if_pos h];exact a
theorem Ac3 (h: ¬ (zs.length<=p\/300<N.length))(X:Hid (nx zs p=(x,p1)))(a:(if wild=R/\x=201 then 1+ty % 4 else ty)=ty')(hy:TI (CU zs L) (Ng zs L wild d) ty' x p1 N q M):Ng zs L wild (d+1) ty p N q M:=by
 unfold Ng;rw[if_neg h,Aa X];dsimp only;rw[a];exact hy
theorem Ac4 (h:x % 8<2)(a:Lf ty p N q M):TI Lf E ty x p N q M:=by
 unfold TI;rw[if_neg (by omega),if_pos h];exact a
theorem Ac5 (a: ¬ x % 8=7)(b: ¬ x % 8<2)(hs:J9 ty x=T)(c:Lf ty p N q M):TI Lf E ty x p N q M:=by
 unfold TI;rw[if_neg a,if_neg b,hs];exact c
theorem AeY {op a b:Int}(c: ¬ x % 8=7)(d: ¬ x % 8<2)(hs:J9 ty x=Y (op,a,Y b))(f:TwX E op a b p N q M):TI Lf E ty x p N q M:=by
 unfold TI;rw[if_neg c,if_neg d,hs];exact f
theorem AeZ {op:Int}{c:Nat}{a:List Nd}(d: ¬ x % 8=7)(f: ¬ x % 8<2)(hs:J9 ty x=Y (op,b,T))(h1:E b p N c a)(g:Snc c a (opN op [Fn a]) q M):TI Lf E ty x p N q M:=by
 unfold TI;rw[if_neg d,if_neg f,hs];obtain⟨rfl,rfl⟩:=g;exact⟨a,h1,rfl⟩
theorem Agn {f:Nat}{a b c:List Nd}(h:x % 8=7)(h1:E 1 p N lo a)(i:E ty lo a f b)(j:E ty f b g c)(k:Snc g c (opN 27 [Fn a,Fn b,Fn c]) q M):TI Lf E ty x p N q M:=by
 unfold TI;rw[if_pos h];obtain⟨rfl,rfl⟩:=k;exact⟨lo,a,f,b,c,h1,i,j,rfl⟩
end
end
section
section
variable {w w' : Z} {B R gb : Nat} {a : Option jD} {n c : Nat} {zs : List Int} {k : Nat} {s : Gs} {pv iv sv lv : jB} {nv : List jB}
theorem AbT (a:Option jD)(n c m d:Nat):(Value.slice a n c).ownBlock=(Value.slice a m d).ownBlock:=by cases a<;>rfl
theorem G5.pop {x:Option jD}{cx:Nat}(h:G5 w B R gb a n c zs k s pv iv (X x s.st.length cx) lv nv)(m z:Nat)(d:s.st.length-m=z):
  G5 (w.setCell ⟨gb,4,T⟩ (X x z cx)) B R gb a n c zs k (Mh s m) pv iv (X x z cx) lv nv/\DY R gb w (w.setCell ⟨gb,4,T⟩ (X x z cx)):=by
 have f:=h.low;have hz':(s.st.take (s.st.length-m)).length=z:=by rw[zv];omega
 have o:=Ij h.st (m:=z) (by omega);refine h.mkS (st':=s.st.take (s.st.length-m)) ((GW.refl _ w).setCell (p:=⟨gb,4,T⟩) (fun _=> .inl rfl) _) (h.row.set 4 _) ?_ (fun q b=>h.ap q (by rw[AbT x s.st.length cx z cx];exact b));rw[hz',d,show Aw (s.st.take z)=(Aw s.st).take (z*1) by simp[Aw,List.map_take]];exact Ai o ⟨gb,4,T⟩ _ (fun q b=>by have:=(o.lt q b).1;show q≠gb;omega)
theorem G5.slt {g cx m:Nat}(h:G5 w B R gb a n c zs k s pv iv sv (X (Y ⟨g,0,T⟩) s.sl.length cx) nv)(j:Nat)(v:Int):
  G5 (w.setCell ⟨g,j,T⟩ (U V v)) B R gb a n c zs k (XE s j v) pv iv sv (X (Y ⟨g,0,T⟩) s.sl.length cx) nv/\DY R gb w (w.setCell ⟨g,j,T⟩ (U V v)):=by
 have d:=h.low;have hg:=h.sl.lt g rfl;have K:GW (fun q=>q=g) w (w.setCell ⟨g,j,T⟩ (U V v)):=(GW.refl (fun q=>q=g) w).setCell (p:=⟨g,j,T⟩) (fun _=>rfl) _;have l:=h.bel K (fun q e=>by omega);have o:∀{e:TypeId} {size m:Nat} {v':jB} {b:List jB},v'.ownBlock≠Y g->w.ownsRow B e size v' m b->(w.setCell ⟨g,j,T⟩ (U V v)).ownsRow B e size v' m b:=fun hd o=>Ai o ⟨g,j,T⟩ _ (fun q r e=>hd (by have e:q=g:=e;rw[<-e];exact r));have f:∀{e:TypeId} {size m:Nat} {v':jB} {b:List jB},3≠e->w.ownsRow B e size v' m b->v'.ownBlock≠Y g:=fun he o=>Ak h.sl o he g rfl;refine⟨⟨h.rd.after l (by omega),⟨(K.block gb h.row.lt (fun e=>by omega)).trans h.row.out⟩,⟨h.pool.len,o (f (by decide) h.pool.own) h.pool.own,fun i hi hi'=>o (f (by decide) (h.pool.names i hi hi')) (h.pool.names i hi hi'),h.pool.apart,h.pool.far⟩,o (f (by decide) h.ins) h.ins,o (fun e=>h.ap g e rfl) h.st,?_,h.ap,⟨d.1,d.2.1,by simpa using d.2.2⟩,h.ok⟩,.kpt K (fun q e=>by omega)⟩;have:=(h.sl.stored j (U V v)).1;rw[show(Aw s.sl).set j (U V v)=Aw (s.sl.set j v) by simp[Aw,List.map_set]]at this;rw[show(XE s j v).sl.length=s.sl.length from z6 ..];exact this
theorem G5.arg {g:Nat}(h:G5 w B R gb a n c zs k s pv (X (Y ⟨g,0,T⟩) s.I.length cx) sv lv nv)(u:Nat)(hu:u<s.I.length)(v:Int):
  G5 (w.setCell ⟨g,u*2+1,T⟩ (U V v)) B R gb a n c zs k (PQ s u v) pv (X (Y ⟨g,0,T⟩) s.I.length cx) sv lv nv/\DY R gb w (w.setCell ⟨g,u*2+1,T⟩ (U V v)):=by
 have b:=h.low;have hg:=h.ins.lt g rfl;refine h.mkI (I':=s.I.modify u fun i=>⟨i.op,v⟩) ((GW.refl _ w).setCell (p:=⟨g,u*2+1,T⟩) (fun _=> .inr rfl) _) (h.row.setFar (p:=⟨g,u*2+1,T⟩) (by show gb≠g;omega) _) ?_;rw[<-Ot s.I u _ hu,List.length_modify];exact(h.ins.stored _ _).1
theorem G5.int (h:G5 w B R gb a n c zs k s pv iv sv lv nv):(∃x cx,sv=X x s.st.length cx/\s.st.length<=cx/\∀j,j<s.st.length->∃g,x=Y ⟨g,0,T⟩/\w.cell? ⟨g,j,T⟩=Y (U V (s.st.getD j 0)))/\∃x cx,lv=X x s.sl.length cx/\∀j,j<s.sl.length->∃g,x=Y ⟨g,0,T⟩/\w.cell? ⟨g,j,T⟩=Y (U V (s.sl.getD j 0))/\w.frozen? ⟨g,j,T⟩=jA:=by
 have f:∀(L:List Int) (j:Nat),j<L.length->(Aw L)[j]? =Y (U V (L.getD j 0)):=fun L j b=>by
  rw[Aw,zk,zL b,zo,zL b];rfl
 refine⟨?_,?_⟩
 ·obtain⟨x,cx,e,hx⟩:=Ae h.st;refine⟨x,cx,e,?_,fun j b=>?_⟩
  ·have o:=h.st;rw[e]at o;rcases o.2 with⟨q,h0⟩|⟨g,cap,l,q,h1,m,i,_⟩
   ·omega
   ·cases q;exact i
  ·obtain⟨g,d,-,hc⟩:=hx (by omega);exact⟨g,d,hc j _ (f _ j b)⟩
 ·obtain⟨x,cx,e,hx⟩:=Ae h.sl;refine⟨x,cx,e,fun j b=>?_⟩;obtain⟨g,d,-,hc⟩:=hx (by omega);have o:=h.sl;rw[e,d]at o;exact⟨g,d,hc j _ (f _ j b),o.frozenAt j⟩
theorem Aha {g m:Nat}{b:Int}(h:G5 w B R gb a n c zs k s pv iv sv (X (Y ⟨g,0,T⟩) m cx) nv)(j:Nat)(i:j<s.sl.length)(e:s.sl.getD j 0=b):w.cell? ⟨g,j,T⟩=Y (U V b):=by
 obtain⟨-,x,l,d,hx⟩:=h.int;obtain⟨o,f,hc,-⟩:=hx j i;simp only[Value.slice.injEq]at d;rw[<-d.1]at f;cases f;rw[<-e];exact hc
end
end
section
def AhU (want st:List Int) (w:Z) (r:Ending) (w':Z):Prop:=∃b:Bool,r= .returned (.bool b)/\(b=R↔Ue want st)/\w'=w
def Oq (want st:List Int) (z i:Nat):Prop:=(0<want.getD i 0->want.getD i 0=st.getD (z+i) 0)/\(want.getD i 0=0->st.getD (z+i) 0=st.getD z 0)
section
variable {w w' : Z} {B R gb : Nat} {a : Option jD} {n c : Nat} {zs : List Int} {k : Nat} {s : Gs} {pv iv sv lv : jB} {nv : List jB}
theorem Ag9 (h:GS B R gb a n c zs k s w)(y:Option jD)(m d:Nat)(b:List Int)(E:Em w y m d b)(hs:s.st.length<=100000):
  Calls jL 83 #[jH (Y ⟨gb,0,T⟩),X y m d] w (AhU b s.st w):=by
 obtain⟨ai,aj,ak,lv,al,h⟩:=h;obtain⟨x,cx,rfl,hx⟩:=Ae h.st;have c4:w.cell? ⟨gb,4,T⟩=Y (X x s.st.length cx):=h.row.cell 4;have ao:=E.small;have r:=Ab E.len;have O:∀j,j<s.st.length->∃g,x=Y ⟨g,0,T⟩/\w.cell? ⟨g,j,T⟩=Y (U V (s.st.getD j 0)):=fun j F=>by
  obtain⟨g,e,-,hc⟩:=hx (by omega);exact⟨g,e,hc j _ (by rw[Aw,zk,zL F,zo,zL F];rfl)⟩
 have G:=Ab O;clear h hx O;by_cases hm:m<=s.st.length
 ·obtain⟨z,H⟩:∃z,z=s.st.length-m:=⟨_,rfl⟩
  have P:=Ab (show Ue b s.st↔∀i,i<m->Oq b s.st z i by
   unfold Ue Oq;rw[Aa r,<-H];exact⟨fun t=>t.2,fun t=>⟨hm,t⟩⟩)
  generalize s.st.length=L at c4 hs hm H G;have ez:IntKind.i64.wrap ((L:Int)-(m:Int))=(z:Int):=by rw[show(L:Int)-m=(z:Int) by omega];simp[IntKind.wrap,IntKind.bits,IntKind.signed];omega
  have ad: ¬ (L:Int)<(m:Int):=by omega
  have D:=Ab (show z+m=L by omega);clear H hm;go_enter func83,ntmps83
  go_wp2_with fail
  go_loop [27] (fun i=>∃k:Nat,k<=m/\i=U V k/\Hid (∀j,j<k->Oq b s.st z j)) (fun i=>m-(RowKit.intOf i).toNat)
  case atStart=>exact⟨0,by omega,rfl,Ab fun j h=>absurd h (by omega)⟩
  case round=>
   obtain⟨i,hi,rfl,S⟩:=hrel;by_cases A:i<m
   ·have ap:(i:Int)<(m:Int):=by omega
    obtain⟨b1,aq,rfl,ar,c1⟩:=E.cells i (by rw[Aa r];exact A);obtain⟨g,rfl,ae⟩:=Aa G z (by have:=Aa D;omega);obtain⟨af,I,W⟩:=Aa G (z+i) (by have:=Aa D;omega);obtain rfl:g=af:=by injection I with I;injection I
    have aa:=Ab (show b.getD i 0=b[i]'(by rw[Aa r];exact A) by rw[zo,zL (by rw[Aa r];exact A)];rfl);have J:IntKind.i64.wrap ((z:Int)+(i:Int))=((z+i:Nat):Int):=by have:=Aa D;simp[IntKind.wrap,IntKind.bits,IntKind.signed];omega
    have ag:((z+i:Nat):Int)<(L:Int):=by have:=Aa D;omega
    have au:(z:Int)<(L:Int):=by have:=Aa D;omega
    have C:=Ab A;have p:=Ab (show Oq b s.st z i->∀j,j<i+1->Oq b s.st z j from fun e j F=>by
     by_cases J:j=i
     ·subst J;exact e
     ·exact Aa S j (by omega))
    have f:=Ab (show ¬ Oq b s.st z i->¬ Ue b s.st from fun e t=>e ((Aa P).1 t i A));generalize b[i]'(by rw[Aa r];exact A)=u at c1 aa;generalize hy:s.st.getD (z+i) 0=y at W;generalize hv:s.st.getD z 0=v at ae;have ab:=Ab hy;have ah:=Ab hv;clear hy hv;have q:Hid (Oq b s.st z i↔if 0<u then u=y else if u=0 then y=v else True):=Ab (by
     unfold Oq;rw[Aa aa,Aa ah,<-Aa ab];split
     ·exact⟨fun t=>t.1 (by assumption),fun t=>⟨fun _=>t,fun K=>by omega⟩⟩
     ·split
      ·exact⟨fun t=>t.2 (by assumption),fun t=>⟨fun K=>by omega,fun _=>t⟩⟩
      ·exact⟨fun _=>trivial,fun _=>⟨fun K=>by omega,fun K=>by omega⟩⟩)
    generalize z+i=j at W J ag ab;rcases(show u<0\/u=0\/0<u by omega)with h0|h0|h0
    ·have ac:(u==0)=jA:=zA.2 (by omega);have M: ¬ 0<u:=by omega
     have l:=Ab ((Aa p) ((Aa q).2 (by rw[if_neg M,if_neg (by omega)];trivial)));clear h0 p f q;go_wp2
     go_round
     case rel=>exact⟨i+1,Aa C,by go_num,l⟩
     case measure=>have:=Aa C;simp[RowKit.intOf];omega
    ·have ac:(u==0)=true:=zF.2 h0;have M: ¬ 0<u:=by omega
     have o:=Ab ((Aa q).trans (by rw[if_neg M,if_pos h0]));clear h0;by_cases e:y=v
     ·have N:(y !=v)=jA:=by rw[e];simp
      have l:=Ab ((Aa p) ((Aa o).2 e));clear e p f q o;go_wp2
      go_round
      case rel=>exact⟨i+1,Aa C,by go_num,l⟩
      case measure=>have:=Aa C;simp[RowKit.intOf];omega
     ·have N:(y !=v)=true:=zp.2 e;have l:=Ab ((Aa f) (fun t=>e ((Aa o).1 t)));clear e p f q o;go_wp2
      go_ret
      exact⟨jA,rfl,⟨fun e=>(by cases e),fun e=>absurd e (Aa l)⟩,rfl⟩
    ·have ac:(u==0)=jA:=zA.2 (by omega);have o:=Ab ((Aa q).trans (by rw[if_pos h0]));by_cases e:u=y
     ·have N:(u !=y)=jA:=by rw[e];simp
      have l:=Ab ((Aa p) ((Aa o).2 e));clear e p f q o;go_wp2
      go_round
      case rel=>exact⟨i+1,Aa C,by go_num,l⟩
      case measure=>have:=Aa C;simp[RowKit.intOf];omega
     ·have N:(u !=y)=true:=zp.2 e;have l:=Ab ((Aa f) (fun t=>e ((Aa o).1 t)));clear e p f q o;go_wp2
      go_ret
      exact⟨jA,rfl,⟨fun e=>(by cases e),fun e=>absurd e (Aa l)⟩,rfl⟩
   ·have e:i=m:=by omega
    subst e;have f:=Ab (show Ue b s.st from(Aa P).2 (Aa S));go_wp2
    go_ret
    exact⟨true,rfl,⟨fun _=>Aa f,fun _=>rfl⟩,rfl⟩
 ·have ad:(s.st.length:Int)<(m:Int):=by omega
  have f:=Ab (show ¬ Ue b s.st from fun t=>hm (by have:=t.1;rw[Aa r]at this;exact this));clear hm;go_enter func83,ntmps83
  go_wp2
  go_ret
  exact⟨jA,rfl,⟨fun e=>(by cases e),fun e=>absurd e (Aa f)⟩,rfl⟩
end
end
def Jc (x:Nd):Bool:=
 if x.op=5 then jA
 else if x.op=6 then decide (0<=x.num/\x.num<6)&&decide (x.text.size=0)&&decide (x.names.length=0)
 else if x.op=7\/x.op=1 then decide (x.text.size=0)&&decide (x.names.length=0)
 else U8 x
def Bb (x:Nd):Bool:=decide ((x.kids.length:Int)=Cz x.op)&&Jc x
def Cj (x:Nd):Bool:=
 decide ((x.kids.length:Int)=Cz x.op)&&
 (if x.op=1 then decide (x.text.size=0)&&decide (x.names.length=0)
   else if x.op=2 then Ci x.text&&decide (x.num=0)&&decide (x.names.length=0)
   else if x.op=3 then decide (x.num=0\/x.num=1)&&decide (x.text.size=0)&&decide (x.names.length=0)
   else if x.op=4 then AR x.names&&decide (x.num=0)&&decide (x.text.size=0)
   else if x.op=5 then jA
   else if x.op=6 then decide (0<=x.num/\x.num<=5)&&decide (x.text.size=0)&&decide (x.names.length=0)
   else if x.op=7 then decide (0<=x.num/\x.num<600)&&decide (x.text.size=0)&&decide (x.names.length=0)
   else decide (x.num=0)&&decide (x.text.size=0)&&decide (x.names.length=0))
theorem JZ (x:Nd):Cj x=R↔Bb x=R/\(x.op=7->0<=x.num/\x.num<600):=by
 unfold Cj Bb Jc U8;by_cases h1:x.op=1
 ·simp[h1]
 by_cases f:x.op=2
 ·simp[f]
 by_cases g:x.op=3
 ·simp[g]
 by_cases h:x.op=4
 ·simp[h]
 by_cases h5:x.op=5
 ·simp[h5]
 by_cases i:x.op=6
 ·simp only[i];simp;omega
 by_cases j:x.op=7
 ·simp only[j];simp;constructor
  ·rintro⟨a,⟨⟨b,c⟩,d⟩,e⟩;exact⟨⟨a,d,e⟩,b,c⟩
  ·rintro⟨⟨a,d,e⟩,b,c⟩;exact⟨a,⟨⟨b,c⟩,d⟩,e⟩
 ·simp[h1,f,g,h,h5,i,j]
set_option maxRecDepth 100000
set_option maxHeartbeats 3200000
abbrev Rc:=Except Int Int
def GH:List Rc->Except Int (List Int)
 |[]=> .ok []
 |.error c ::_=> .error c
 |.ok t ::r=>(GH r).map (t :: ·)
theorem Tp {r:List Rc}{K:List Int}(h:GH (.ok t ::r)= .ok K):∃a,GH r= .ok a/\K=t ::a:=by
 rw[GH]at h;cases b:GH r with
 |error c=>rw[b]at h;cases h
 |ok a=>rw[b]at h;cases h;exact⟨a,rfl,rfl⟩
theorem Qu:∀{os:List Rc} {K:List Int},GH os= .ok K->K.length=os.length
 |[],K,h=>by cases h;rfl
 |.error c ::_,K,h=>by cases h
 |.ok t ::r,K,h=>by
  obtain⟨a,h1,rfl⟩:=Tp h;rw[List.length_cons,List.length_cons,Qu h1]
theorem Tr (o:Rc):∀(os:List Rc) (K:List Int),GH os= .ok K->GH (os++[o])=o.map (fun t=>K++[t])
 |[],K,h=>by cases h;cases o<;>rfl
 |.error c ::_,K,h=>by cases h
 |.ok t ::r,K,h=>by
  obtain⟨a,h1,rfl⟩:=Tp h;rw[List.cons_append,GH,Tr o r a h1];cases o<;>rfl
theorem Qv:∀(os:List Rc) (k:Nat) {c:Int},GH (os.take k)= .error c->GH os= .error c
 |[],k,c,h=>by simpa using h
 |.error d ::_,0,c,h=>by cases h
 |.error d ::_,k+1,c,h=>by rw[List.take_succ_cons,GH]at h;rw[GH];exact h
 |.ok t ::r,0,c,h=>by cases h
 |.ok t ::r,k+1,c,h=>by
  rw[List.take_succ_cons,GH]at h;cases a:GH (r.take k)with
  |ok K=>rw[a]at h;cases h
  |error d=>
   rw[a]at h;cases h;rw[GH,Qv r k a];rfl
def NdC (o:Rc) (w:Z) (r:Ending) (w':Z):Prop:=(∃ty code,r= .returned (jJ #[U V ty,U V code])/\((code=0/\o= .ok ty)\/(code≠0/\o= .error code)))/\An w w'
def ofC (c:Int):Option Int->Rc
 |some t=> .ok t
 |none=> .error c
def Nx (op:Int) (os:List Rc):Rc:=match GH os with
 |.error c=> .error c
 |.ok K=>ofC 9 (nz (CD op K))
theorem Mq (a:Option jD)(n c:Nat)(N:List Nd)(S:Nat)(w:Z)(W:IY w a n c N)(i:Nat)(x:Nd)(hx:N[i]? =Y x)(l:I6 x.op)(aa:(CG x.op).1.length<=x.kids.length)(os:List Rc)(ab:os.length=x.kids.length)
  (ac:∀j,(h:j<x.kids.length)->(aT:j<os.length)->∀G,An w G->Calls jL 103 #[X a n c,U V x.kids[j],jH (Y ⟨S,0,T⟩)] G (NdC os[j] G)):
  Calls jL 103 #[X a n c,U V i,jH (Y ⟨S,0,T⟩)] w (NdC (Nx x.op os) w):=by
 obtain⟨ar,au,av,aw,ax⟩:=info_parts Mi;have ay:=W.len;have hi:i<N.length:=(zZ.1 hx).1;have ad:N[i]=x:=(zZ.1 hx).2;have aU:(i:Int)<(n:Int):=by omega
 obtain⟨b,aV,rfl,aW,an,nn,cn,s,d,z,c0,c1,c2,c3,c4,az,A⟩:=W.cells i hi;rw[ad]at c0 c1 c2 A;have ae:=Ab A.len;have aX:=A.small;have H:=Ab ab;have aA:=Ab ac;have aB:=Ab aa;have aC:=Ab (fun K h=>(show Nx x.op os=ofC 9 (nz (CD x.op K)) by rw[Nx,(show GH os= .ok K from h)]));have aD:=Ab (show ∀c,GH os= .error c->Nx x.op os= .error c from fun c h=>by rw[Nx,h]);have aY:(x.op==5)=jA:=zA.2 (by unfold I6 at l;omega);have aZ:(x.op==6)=jA:=zA.2 (by unfold I6 at l;omega);have a0:(x.op==7)=jA:=zA.2 (by unfold I6 at l;omega);have aE:=Ab l;clear az;clear ay hx ad hi aa ab ac l;have af:=Ah.new w #[U V x.op,U V x.num,Q x.text,X an nn cn,X s d z] 134;have f:=AN w (EV x.op x.num x.text an nn cn s d z);have ag:w.heap.size<(w.alloc (EV x.op x.num x.text an nn cn s d z)).heap.size:=by simp
 go_enter func103,ntmps103
 go_wp2_with fail
 generalize w.alloc (EV x.op x.num x.text an nn cn s d z)=I at af f ag|-;go_loopw [11,71] (fun v i wr=>∃ (j:Nat) (K:List Int),j<=d/\i=U V j/\wr.ownsRow I.heap.size 3 1 v K.length (Aw K)/\Hid (GH (os.take j)= .ok K)/\An I wr) (fun _ i _=>d-(intOf i).toNat)
 case atStart=>exact⟨0,[],by omega,rfl,World.ownsRow_nil _ _ _ _,Ab rfl,BRN⟩
 case round=>
  obtain⟨j,K,a1,rfl,B,J,m⟩:=hrel;have ah:=f.trans (m.mono f.size);have ai:=m.size;have a2:K.length<=d:=by have:=Qu (Aa J);rw[zv]at this;omega
  by_cases L:j<d
  ·have a3:(j:Int)<(d:Int):=by omega
   have C:j<x.kids.length:=by rw[Aa ae];exact L
   have M:j<os.length:=by rw[Aa H];exact C
   obtain⟨a4,ok,rfl,a5,aF⟩:=(A.below ah NLN).cells j C;have o:=Ab (Aa aA j C M _ ah);have p:=Ab (show GH (os.take (j+1))=os[j].map (fun t=>K++[t]) by rw[zc M];exact Tr _ _ _ (Aa J));have D:=Ab (show ∀c,os[j]= .error c->Nx x.op os= .error c from fun c e=>Aa aD c (Qv os (j+1) (by rw[Aa p,e];rfl)));have aj:=Ab L;generalize x.kids[j]=y at aF o;generalize os[j]=a6 at o p D;obtain⟨aG,aH,rfl,_⟩:=Ae B;clear C M L;go_wp2_with fail
   refine(Aa o).mono ?_;rintro r w2 ⟨⟨ty,O,rfl,aI⟩,ak⟩;have E:=m.trans (ak.mono ai);have al:=Af B ak NLN;rcases aI with⟨rfl,rfl⟩|⟨hc,rfl⟩
   ·have aJ:=Ab (show GH (os.take (j+1))= .ok (K++[ty])from Aa p);have a7:=E.size;clear p D o;dsimp only;go_wp2_with (at_builtin;refine wpList_append_own _ rfl _ _ 67 rfl I.heap.size 3 ar (U V 0) 1 8 underlying67 au av aw ax rfl (by decide) _ _ _ rfl (World.ownsRow.alloc al _) ⟨w2.heap.size,0,T⟩ 1 1 [U V ty] rfl rfl ?d1 ?d2 ?d3 ?d4 ?d5 ?_)
    case d1=>exact Dr _ _ _ _ (by simp)
    case d2=>intro u hu;simp at hu;subst hu;rfl
    case d3=>unfold maxLen;omega
    case d4=>omega
    case d5=>simp;omega
    intro v' a8 aK ao _;have aL:=(E.alloc E.size (.cells #[U V ty] 3)).grown ao (by simp;omega) (fun q aM=>(al.lt q aM).1);clear ao;go_wp2
    go_roundw
    case rel=>exact⟨j+1,K++[ty],Aa aj,by go_num,Fu aK,aJ,aL⟩
    case measure=>have:=Aa aj;simp[intOf];omega
   ·have a9:(O !=0)=R:=zp.2 hc;have g:=Ab (Aa D O rfl);have aN:=Ab hc;clear hc p D o;dsimp only;go_wp2
    exact bodyPost_ret (v:= jJ #[U V 0,U V O]) (by simp[results,results103,go_sem]) rfl ⟨⟨_,_,rfl,.inr ⟨Aa aN,Aa g⟩⟩,f.trans (E.mono f.size)⟩
  ·have e:j=d:=by omega
   subst e;have ap:=Ab (show GH os= .ok K by rw[<-Aa J,zf (by rw[Aa H,Aa ae];exact NLN)]);have g:=Ab (Aa aC K (Aa ap));have aO:=Qu (Aa ap);have aP:=Ab (show(CG x.op).1.length<=K.length by have:=Aa aB;have:=Aa H;omega);obtain⟨aG,aH,rfl,_⟩:=Ae B;have aQ:=JT B (by omega);have aR:=af.below m ag;have ba:wr.cell? ⟨w.heap.size,0,T⟩=Y (U V x.op):=aR.cell 0;clear aO;go_wp2_with fail
   refine(Yf x.op (Aa aE) _ _ _ K _ aQ (Aa aP)).mono ?_;rintro r bb ⟨rfl,aS⟩;have aq:=m.trans (aS.mono ai);dsimp only;by_cases k:CD x.op K=0
   ·have P:(CD x.op K==0)=R:=zF.2 k;have F:=Ab (show Nx x.op os= .error 9 by rw[Aa g,nz,if_pos k];rfl);clear k g;generalize CD x.op K=tt at P;go_wp2
    exact bodyPost_ret (v:= jJ #[U V 0,U V 9]) (by simp[results,results103,go_sem]) rfl ⟨⟨_,_,rfl,.inr ⟨by decide,Aa F⟩⟩,f.trans (aq.mono f.size)⟩
   ·have P:(CD x.op K==0)=jA:=zA.2 k;have F:=Ab (show Nx x.op os= .ok (CD x.op K) by rw[Aa g,nz,if_neg k];rfl);clear k g;generalize CD x.op K=tt at P F;go_wp2
    exact bodyPost_ret (v:= jJ #[U V tt,U V 0]) (by simp[results,results103,go_sem]) rfl ⟨⟨_,_,rfl,.inl ⟨rfl,Aa F⟩⟩,f.trans (aq.mono f.size)⟩
set_option maxHeartbeats 1600000
theorem VR (a:Option jD)(n c:Nat)(N:List Nd)(k:Nat)(w:Z)(d:IY w a n c N)(i:Nat)(x:Nd)(hx:N[i]? =Y x)(f:x.op=6):
  Calls jL 103 #[X a n c,U V i,jH (Y ⟨k,0,T⟩)] w (NdC (.ok (BL x.num)) w):=by
 have l:=d.len;have hi:i<N.length:=(zZ.1 hx).1;have g:N[i]=x:=(zZ.1 hx).2;have t:(i:Int)<(n:Int):=by omega
 obtain⟨b,u,rfl,y,an,nn,cn,m,o,p,c0,c1,c2,c3,c4,q,h⟩:=d.cells i hi;rw[g]at c0 c1 c2 h;rw[f]at c0;clear q h;clear l hx g hi f d;have s:=AN w (EV 6 x.num x.text an nn cn m o p);generalize x.num=j at*;generalize x.text=z at*;go_enter func103,ntmps103
 go_wp2_with fail
 refine(Gy j _).mono ?_;rintro r w2 ⟨rfl,rfl⟩;dsimp only;go_wp2
 exact bodyPost_ret (v:= jJ #[U V (BL j),U V 0]) (by simp[results,results103,go_sem]) rfl ⟨⟨_,_,rfl,.inl ⟨rfl,rfl⟩⟩,s⟩
theorem VS (a:Option jD)(n c:Nat)(N:List Nd)(g:Nat)(w:Z)(k:IY w a n c N)(i:Nat)(x:Nd)(hx:N[i]? =Y x)(m:x.op=7)(h0: 0<=x.num)(o:Option jD)(f q:Nat)(ts:List Int)
  (B:w.cell? ⟨g,1,T⟩=Y (X o f q))(C:g<w.heap.size)(r:Em w o f q ts):
  Calls jL 103 #[X a n c,U V i,jH (Y ⟨g,0,T⟩)] w (NdC (ofC 7 ts[x.num.toNat]?) w):=by
 have D:=k.len;have hi:i<N.length:=(zZ.1 hx).1;have s:N[i]=x:=(zZ.1 hx).2;have M:(i:Int)<(n:Int):=by omega
 obtain⟨b,O,rfl,P,an,nn,cn,E,F,G,c0,c1,c2,c3,c4,H,u⟩:=k.cells i hi;rw[s]at c0 c1 c2 u;rw[m]at c0;clear H u;clear D hx s hi m k;have y:=r.len;generalize x.text=I at*;obtain⟨d,z⟩:∃d:Nat,x.num=d:=⟨x.num.toNat,by omega⟩
 rw[z]at c1|-;rw[zb];have h:=AN w (EV 7 d I an nn cn E F G);have S:=(h.cell (p:=⟨g,1,T⟩) C).trans B;have J:=r.below h NLN;clear z h0;by_cases A:f<=d
 ·have K:(f:Int)<=(d:Int):=by omega
  have j:=Ab (show ofC 7 ts[d]? = .error 7 by rw[yB (by omega)];rfl);clear A y;go_enter func103,ntmps103
  go_wp2_with fail
  go_region
  all_goals
   go_wp2
   exact bodyPost_ret (v:= jJ #[U V 0,U V 7]) (by simp[results,results103,go_sem]) rfl ⟨⟨_,_,rfl,.inr ⟨by decide,Aa j⟩⟩,h.drew⟩
 ·have K: ¬ ((f:Int)<=(d:Int)):=by omega
  have W:(d:Int)<(f:Int):=by omega
  have l:d<ts.length:=by omega
  obtain⟨aa,ab,rfl,ac,L⟩:=J.cells d l;have j:=Ab (show ofC 7 ts[d]? = .ok ts[d] by rw[zL l];rfl);generalize ts[d]=t at L j;clear A y l;go_enter func103,ntmps103
  go_wp2_with fail
  go_region
  all_goals
   go_wp2_with fail
   go_region
   all_goals
    go_wp2
    exact bodyPost_ret (v:= jJ #[U V t,U V 0]) (by simp[results,results103,go_sem]) rfl ⟨⟨_,_,rfl,.inl ⟨rfl,Aa j⟩⟩,h.drew.drew⟩
def FdX (x:Nd):Prop:=(x.kids.length:Int)=Cz x.op/\(x.op=7->0<=x.num)
theorem fdB {x:Nd}(h:Bo x=R):FdX x:=by
 rw[Bo,zD,zG]at h;refine⟨h.1,fun e=>?_⟩;have:=h.2;simp[e]at this
theorem fdU {x:Nd}(h:Cj x=R):FdX x:=by
 have a:=((JZ x).1 h).2;rw[Cj,zD,zG]at h;exact⟨h.1,fun e=>(a e).1⟩
theorem VQ {x:Nd}(h:I6 x.op)(hk:(x.kids.length:Int)=Cz x.op):(CG x.op).1.length<=x.kids.length:=by
 unfold I6 at h;generalize x.op=op at*;generalize x.kids.length=m at*;by_cases h1: 1<=op/\op<=7
 ·have:op=1\/op=2\/op=3\/op=4:=by omega
  rcases this with rfl|rfl|rfl|rfl<;>simp[CG]
 by_cases a: 8<=op/\op<=10
 ·rw[Cz,if_neg h1,if_pos a]at hk;have:op=8\/op=9\/op=10:=by omega
  rcases this with rfl|rfl|rfl<;>simp[CG]<;>omega
 by_cases b: 11<=op/\op<=26
 ·rw[Cz,if_neg h1,if_neg a,if_pos b]at hk;have:op=11\/op=12\/op=13\/op=14\/op=15\/op=16\/op=17\/op=18\/op=19\/op=20\/op=21\/op=22\/op=23\/op=24\/op=25\/op=26:=by omega
  rcases this with rfl|rfl|rfl|rfl|rfl|rfl|rfl|rfl|rfl|rfl|rfl|rfl|rfl|rfl|rfl|rfl<;>simp[CG]<;>omega
 ·have c:op=27:=by omega
  rw[Cz,if_neg h1,if_neg a,if_neg b,if_pos c]at hk;subst c;simp[CG];omega
def GK (N:List Nd) (L:List St):Bool:=match EK (N.map Nd.kids) N.length [] 0 with
 |none=>jA
 |some S=>decide (As S=L.flatMap Ap)
theorem CI {w:Z}{b:Nat}{a c:jB}{t:TypeId}(R:Ah w b #[a,c] t):w.cell? ⟨b,0,T⟩=Y a/\w.cell? ⟨b,1,T⟩=Y c:=⟨R.cell 0,R.cell 1⟩
theorem MJ {a b:List jB}(f:∀j,(c:j<a.length)->∀q,a[j].ownBlock=Y q->lo<=q)(g:∀j,(c:j<b.length)->∀q,b[j].ownBlock=Y q->lo<=q):∀j,(c:j<(a++b).length)->∀q,(a++b)[j].ownBlock=Y q->lo<=q:=fun j c q d=>by
 by_cases h:j<a.length
 ·rw[zi h]at d;exact f j h q d
 ·rw[yE (by omega)]at d;exact g _ (by simp at c;omega) q d
theorem WA {v:jB}(h:∀q,v.ownBlock=Y q->lo<=q):∀j,(a:j<[v].length)->∀q,[v][j].ownBlock=Y q->lo<=q:=fun j a q b=>by
 have c:j=0:=by simp at a;exact a
 subst c;exact h q b
theorem TN {hi:Nat}{a:List jB}(c:∀j,(b:j<a.length)->∀q,a[j].ownBlock=Y q->hi<=q)(h:lo<=hi):∀j,(b:j<a.length)->∀q,a[j].ownBlock=Y q->lo<=q:=fun j b q d=>zC h (c j b q d)
theorem AK:∀(e:Ex) (b:Nat),(Eg e b).length=e.cnt
 |.int ..,_=>rfl
 |.text ..,_=>rfl
 |.bool ..,_=>rfl
 |.set ..,_=>rfl
 |.name ..,_=>rfl
 |.attr ..,_=>rfl
 |.lett ..,_=>rfl
 |.un _ _ k,b=>by simp[Eg,Ex.cnt,AK k]
 |.bin _ _ l r,b=>by simp[Eg,Ex.cnt,AK l,AK r];omega
 |.ite _ c t e,b=>by simp[Eg,Ex.cnt,AK c,AK t,AK e];omega
structure Sx where
 at':Int
 kind:Int
 name:ByteArray
 cond:Option Ex
 grant:Option Ex
def Bc:Option Ex->Nat
 |none=>0
 |some e=>e.cnt
def Pu:Option Ex->Nat->List Nd
 |none,_=> []
 |some e,b=>Eg e b
def JG:Option Ex->Nat->Int
 |none,_=>-1
 |some e,b=>((b+e.cnt-1 :Nat):Int)
theorem Jk (o:Option Ex)(b:Nat):(Pu o b).length=Bc o:=by
 cases o
 ·rfl
 ·exact AK _ _
def DG:Nat->List Sx->List Nd
 |_,[]=> []
 |b,x ::S=>Pu x.cond b++Pu x.grant (b+Bc x.cond)++DG (b+Bc x.cond+Bc x.grant) S
def Dv:Nat->List Sx->List St
 |_,[]=> []
 |b,x ::S=>⟨x.kind,x.name,JG x.cond b,JG x.grant (b+Bc x.cond)⟩ ::Dv (b+Bc x.cond+Bc x.grant) S
def Cn (S:List Sx):Nat:=(S.map fun x=>Bc x.cond+Bc x.grant).sum
theorem BI (x:Sx)(S:List Sx):Cn (x ::S)=Bc x.cond+Bc x.grant+Cn S:=by simp[Cn]
theorem IQ:∀(S:List Sx) (b:Nat),(DG b S).length=Cn S
 |[],_=>rfl
 |x ::S,b=>by rw[DG,zB,zB,Jk,Jk,IQ S,BI]
theorem IR:∀(S:List Sx) (b:Nat),(Dv b S).length=S.length
 |[],_=>rfl
 |x ::S,b=>by rw[Dv,List.length_cons,IR S,List.length_cons]
theorem Wz (A B:List Sx):Cn (A++B)=Cn A+Cn B:=by simp[Cn]
theorem TJ (x:Sx):∀(S:List Sx) (b:Nat),DG b (S++[x])=DG b S++Pu x.cond (b+Cn S)++Pu x.grant (b+Cn S+Bc x.cond)
 |[],b=>by simp[DG,Cn]
 |y ::S,b=>by
  rw[List.cons_append,DG,DG,TJ x S,BI];have e:b+Bc y.cond+Bc y.grant+Cn S=b+(Bc y.cond+Bc y.grant+Cn S):=by omega
  rw[e];simp only[zJ]
theorem TL (x:Sx):∀(S:List Sx) (b:Nat),Dv b (S++[x])=Dv b S++[⟨x.kind,x.name,JG x.cond (b+Cn S),JG x.grant (b+Cn S+Bc x.cond)⟩]
 |[],b=>by simp[Dv,Cn]
 |y ::S,b=>by
  rw[List.cons_append,Dv,Dv,TL x S,BI];have e:b+Bc y.cond+Bc y.grant+Cn S=b+(Bc y.cond+Bc y.grant+Cn S):=by omega
  rw[e];rfl
theorem Aa5 (L:List St)(s:St):En (L++[s])=En L++[U V s.kind,Q s.name,U V s.cond,U V s.grant]:=by simp[En]
theorem J2 {s:ByteArray}(h:Ek s=R):s.size<=32:=by
 unfold Ek at h;have e:(LY s).length=s.size:=by simp[LY]
 cases hs:LY s with
 |nil=>rw[hs]at e;simp at e;omega
 |cons c r=>
  rw[hs]at h;simp only[zD,zG]at h;rw[<-e,hs];exact h.1.1.1
theorem US {s:ByteArray}(h:Ci s=R):s.size<=32:=by
 unfold Ci at h;simp only[zD,zG]at h;exact h.1
theorem Id {ss:List ByteArray}(h:AR ss=R):ss.length<=64/\∀x∈ss,x.size<=32:=by
 unfold AR at h;simp only[zD,zG]at h;refine⟨h.1,fun x hx=>?_⟩;have:=zt.1 h.2.1 x hx;simp only[vnB,zD,zG]at this;omega
theorem EF {N:List Nd}{i:Nat}(b:Es.length=i)(a:∀j,(h:j<Es.length)->Bu N j Es[j]){k:Int}(hk: 0<=k/\k<i):∃ (m:Nat) (e:Ex),k=m/\m<i/\Es[m]? =Y e/\Bu N m e:=by
 refine⟨k.toNat,Es[k.toNat]'(by omega),by omega,by omega,zL _,a _ _⟩
theorem Agf {N:List Nd}{w:Z}{i:Nat}{x:Nd}{nn cn:Nat}(hx:N[i]? =Y x)(a:Bo x=R)(hk:∀k∈x.kids,0<=k/\k<i)(J:x.num<=9223372036854775807)(q:Es.length=i)
  (r:∀j,(h:j<Es.length)->Bu N j Es[j])(K:∀e∈Es,e.fit w)(H:AJ w an nn cn x.names):∃e,MkT Es i x an nn cn e/\Bu N i e/\e.fit w:=by
 unfold Bo at a;rw[zD,zG]at a;obtain⟨L,a⟩:=a;have A:∀n:Nat,Cz x.op=n->x.kids.length=n:=fun n e=>by omega
 have u:(1<=x.op/\x.op<=7)->x.kids=[]:=fun h=>zj (A 0 (by rw[Cz,if_pos h];rfl));have s:∀{m:Nat} {e:Ex},Es[m]? =Y e->e.fit w:=fun h=>K _ (zu h);by_cases h1:x.op=1
 ·rw[if_pos h1]at a;simp only[zD,zG]at a;exact⟨_,.int h1,.int hx h1 (u (by omega)),a.1.1,J⟩
 rw[if_neg h1]at a;by_cases B:x.op=2
 ·rw[if_pos B]at a;simp only[zD,zG]at a;exact⟨_,.text B,.text hx B (u (by omega)),US a.1.1⟩
 rw[if_neg B]at a;by_cases E:x.op=3
 ·exact⟨_,.bool E,.bool hx E (u (by omega)),trivial⟩
 rw[if_neg E]at a;by_cases C:x.op=4
 ·rw[if_pos C]at a;simp only[zD,zG]at a;obtain⟨s1,s2⟩:=Id a.1.1;exact⟨_,.set C,.set hx C (u (by omega)) an nn cn,H,by have:=H.len;omega,s2⟩
 rw[if_neg C]at a;by_cases h5:x.op=5
 ·rw[if_pos h5]at a;simp only[zD,zG]at a;exact⟨_,.name h5,.name hx h5 (u (by omega)),J2 a.1.1⟩
 rw[if_neg h5]at a;by_cases M:x.op=6\/x.op=7
 ·rw[if_pos M]at a;cases a
 by_cases d: 8<=x.op/\x.op<=10
 ·have v:=A 1 (by rw[Cz,if_neg (by omega),if_pos d];rfl)
  match b:x.kids,v with
  |[k],_=>
   obtain⟨m,e,rfl,hm,c,y⟩:=EF q r (hk k (by rw[b];simp));exact⟨_,.un d b c,.un hx d b hm y,d,s c⟩
 by_cases t: 11<=x.op/\x.op<=26
 ·have v:=A 2 (by rw[Cz,if_neg (by omega),if_neg d,if_pos t];rfl)
  match b:x.kids,v with
  |[k,l],_=>
   obtain⟨m,e,rfl,hm,c,y⟩:=EF q r (hk k (by rw[b];simp));obtain⟨n,f,rfl,F,z,G⟩:=EF q r (hk l (by rw[b];simp));exact⟨_,.bin t b c z,.bin hx t b ⟨hm,F⟩ y G,t,s c,s z⟩
 by_cases D:x.op=27
 ·have v:=A 3 (by rw[Cz,if_neg (by omega),if_neg d,if_neg t,if_pos D];rfl)
  match b:x.kids,v with
  |[k,l,o],_=>
   obtain⟨m,e,rfl,hm,c,y⟩:=EF q r (hk k (by rw[b];simp));obtain⟨n,f,rfl,F,z,G⟩:=EF q r (hk l (by rw[b];simp));obtain⟨p,g,rfl,hp,I,O⟩:=EF q r (hk o (by rw[b];simp));exact⟨_,.ite D b c z I,.ite hx D b ⟨hm,F,hp⟩ y G O,s c,s z,s I⟩
 ·rw[Cz,if_neg (by omega),if_neg d,if_neg t,if_neg D]at L;omega
theorem OZ {K:List (List Int)}{a b:Nat}{d:List (Nat×Nat)}(h:Ay K a d b):∀t,a<=t->t<b->∃c:List (Nat×Nat),K[t]? =Y (As c)/\∀p∈c,p.1<t:=by
 induction h with
 |nil a=>intro t h1 f;omega
 |@cons a t b c d hk g m i j=>
  intro q h1 f;by_cases k:q<t
  ·exact i q h1 k
  by_cases l:q=t
  ·subst l;exact⟨c,g,fun p hp=>(hk.lt p hp).2⟩
  ·exact j q (by omega) f
theorem Yr {e:Ex} :∀{Es:List Ex},e∈Es->e.cnt<=LI Es
 |x ::Es,h=>by
  have e5:LI (x ::Es)=x.cnt+LI Es:=by simp[LI]
  rw[e5];rcases zT.1 h with rfl|h
  ·omega
  ·have:=Yr h;omega
theorem LH:∀{L:List St},EM L=R->∀s∈L,J0 s=R
 |x ::L,h,s,hs=>by
  simp only[EM,zD]at h;rcases zT.1 hs with rfl|hs
  ·exact h.1.1
  ·exact LH h.2 s hs
set_option linter.unusedSimpArgs false
def GJ (N:List Nd) (L:List St):Bool:=decide (N.length<=4000)&&(decide (1<=L.length/\L.length<=600)&&EM L)&&N.all Bo&&GK N L
structure AcC (N:List Nd) (L:List St):Prop where
 n:N.length<=4000
 m0: 1<=L.length
 m:L.length<=600
 fields:∀x∈N,Bo x=R
 kids:∀(i:Nat) (x:Nd),N[i]? =Y x->∀k∈x.kids,0<=k/\k<(i:Int)
 roots:∀s∈L,(s.cond= -1\/(0<=s.cond/\s.cond<N.length))/\(s.grant= -1\/(0<=s.grant/\s.grant<N.length))
 stm:∀s∈L,(s.kind=1/\s.name.size<=32/\0<=s.cond/\s.grant= -1)\/(s.kind=2/\0<=s.cond)\/(s.kind=3/\s.cond= -1)
 cnt:∀(Es:List Ex),Es.length=N.length->(∀j,(h:j<Es.length)->Bu N j Es[j])->∀s∈L,∀k,(k=s.cond\/k=s.grant)->0<=k->∀e,Es[k.toNat]? =Y e->e.cnt<=4000
theorem QC {N:List Nd}{L:List St}(h:GJ N L=R):AcC N L:=by
 simp only[GJ,zD,zG]at h;obtain⟨⟨⟨h1,⟨o,v⟩,w⟩,h5⟩,b⟩:=h;obtain⟨S,y,z⟩:∃S,EK (N.map Nd.kids) N.length [] 0=Y S/\As S=L.flatMap Ap:=by
  rw[GK]at b;cases d:EK (N.map Nd.kids) N.length [] 0 with
  |none=>rw[d]at b;cases b
  |some S=>rw[d]at b;exact⟨S,rfl,of_decide_eq_true b⟩
 obtain⟨c,_⟩:=Dd N.length (.nil 0) (fun p hp=>(by cases hp)) y;rw[zP]at c;have r:∀s∈L,∀k∈Ap s,∃p∈S,k=(p.1:Int):=fun s hs k hk=>by
  have:k∈As S:=by rw[z];exact Z2.2 ⟨s,hs,hk⟩
  rw[As]at this;obtain⟨p,hp,rfl⟩:=zn.1 this;exact⟨p,hp,rfl⟩
 have f:∀s∈L,∀k∈Ap s,0<=k/\k<N.length:=fun s hs k hk=>by
  obtain⟨p,hp,rfl⟩:=r s hs k hk;have:=(c.lt p hp).2;omega
 have l:∀s∈L,s.kind≠3->s.cond∈Ap s:=fun s _ h=>by rw[Ap,if_pos h];simp
 have t:∀s∈L,s.grant≠-1->s.grant∈Ap s:=fun s _ h=>by rw[Ap,if_pos h];simp
 have A:=LH w;have stm:∀s∈L,(s.kind=1/\s.name.size<=32/\0<=s.cond/\s.grant= -1)\/(s.kind=2/\0<=s.cond)\/(s.kind=3/\s.cond= -1):=fun s hs=>by
  have h:=A s hs;rw[J0]at h;by_cases m:s.kind=1
  ·rw[if_pos m]at h;simp only[zD,zG]at h;exact .inl ⟨m,J2 h.1,(f s hs _ (l s hs (by omega))).1,h.2⟩
  rw[if_neg m]at h;by_cases u:s.kind=2
  ·exact .inr (.inl ⟨u,(f s hs _ (l s hs (by omega))).1⟩)
  rw[if_neg u]at h;by_cases a:s.kind=3
  ·rw[if_pos a]at h;simp only[zD,zG]at h;exact .inr (.inr ⟨a,h.2⟩)
  ·rw[if_neg a]at h;cases h
 refine⟨h1,o,v,fun x hx=>zt.1 h5 x hx,fun i x hx k hk=>?_,fun s hs=>⟨?_,?_⟩,stm,fun Es B C s hs k hk h0 e he=>?_⟩
 ·have hi:i<N.length:=(zZ.1 hx).1;obtain⟨D,e1,e2⟩:=OZ c i (zE _) hi;rw[zk,hx]at e1;have e3:x.kids=As D:=Option.some.inj e1;rw[e3,As]at hk;obtain⟨p,hp,rfl⟩:=zn.1 hk;have:=e2 p hp;omega
 ·by_cases a:s.kind=3
  ·rcases stm s hs with h|h|h
   ·omega
   ·omega
   ·exact .inl h.2
  ·exact .inr (f s hs _ (l s hs a))
 ·by_cases g:s.grant= -1
  ·exact .inl g
  ·exact .inr (f s hs _ (t s hs g))
 ·have E:k∈Ap s:=by
   rcases hk with rfl|rfl
   ·apply l s hs;intro a;rcases stm s hs with h|h|h<;>omega
   ·exact t s hs (by omega)
  obtain⟨p,hp,rfl⟩:=r s hs k E;have n:∀q∈S,q.1<Es.length:=fun q d=>by rw[B];exact(c.lt q d).2
  have F:=Jf c (S.attach.map (fun q=>Es[q.1.1]'(n q.1 q.2))) (by simp) (fun j h1 o=>by
   have:=C (S[j]).1 (n _ (zH h1));simpa using this)
  rw[zb]at he;have hm:e∈S.attach.map (fun q=>Es[q.1.1]'(n q.1 q.2)):=by
   refine zn.2 ⟨⟨p,hp⟩,List.mem_attach _ _,?_⟩;exact(zZ.1 he).2
  have:=Yr hm;omega
set_option maxHeartbeats 800000
theorem Dy (w:Z)(a:Option jD):AO w a []:=fun j h=>absurd h (by simp)
theorem Tq.leaf {w:Z}{e:Ex}{k:K5}(h:Tq w e k)(hk:e.kids=[]):k.kn=0:=by
 cases e<;>first|exact h.2.2.2.1|cases hk
theorem EO:∀(e:Ex) (k:K5) (w:Z),Tq w e k->Bi e=R->Calls jL 48 #[.agg #[U V k.op,U V k.num,Q k.text,X k.an k.nn k.cn,X k.ka k.kn k.kc]] w (Ry (AF e) w)
 |.un i op c,k,w,h,ho=>by
  obtain⟨h1,q,s,u,h5,b,g,m⟩:=h;simp only[Bi,zD,zG]at ho;have e0:AF (.un i op c)=Fq k.op [AF c]:=by
   rw[AF,Fq,h1,show decide (op=8\/(11<=op/\op<=16))=decide (op=8)from decide_eq_decide.2 (by omega)];simp
  rw[e0,h5];exact Dz k.op k.num k.text k.an k.nn k.cn k.ka 1 k.kc (by decide) [b] rfl [AF c] rfl w g (fun j a1 a2 d f=>by
   match j,a1 with
   |0,_=>exact EO c b d (m.below f NLN) ho.2)
 |.bin i op l r,k,w,h,ho=>by
  obtain⟨h1,q,s,u,h5,b,o,g,m,p⟩:=h;simp only[Bi,zD,zG]at ho;have e0:AF (.bin i op l r)=Fq k.op [AF l,AF r]:=by
   rw[AF,Fq,h1,show decide (op=8\/(11<=op/\op<=16))=decide (11<=op/\op<=16)from decide_eq_decide.2 (by omega)];simp
  rw[e0,h5];exact Dz k.op k.num k.text k.an k.nn k.cn k.ka 2 k.kc (by decide) [b,o] rfl [AF l,AF r] rfl w g (fun j a1 a2 d f=>by
   match j,a1 with
   |0,_=>exact EO l b d (m.below f NLN) ho.2.1
   |1,_=>exact EO r o d (p.below f NLN) ho.2.2)
 |.ite i c t e,k,w,h,ho=>by
  obtain⟨h1,q,s,u,h5,b,o,v,g,m,p,x⟩:=h;simp only[Bi,zD]at ho;have e0:AF (.ite i c t e)=Fq k.op [AF c,AF t,AF e]:=by
   rw[AF,Fq,h1];simp
  rw[e0,h5];exact Dz k.op k.num k.text k.an k.nn k.cn k.ka 3 k.kc (by decide) [b,o,v] rfl [AF c,AF t,AF e] rfl w g (fun j a1 a2 d f=>by
   match j,a1 with
   |0,_=>exact EO c b d (m.below f NLN) ho.1
   |1,_=>exact EO t o d (p.below f NLN) ho.2.1
   |2,_=>exact EO e v d (x.below f NLN) ho.2.2)
 |.int i n,k,w,h,ho=>by
  have e0:AF (.int i n)=Fq k.op []:=by rw[h.op];rfl
  rw[e0,h.leaf rfl];exact Dz k.op k.num k.text k.an k.nn k.cn k.ka 0 k.kc (by decide) [] rfl [] rfl w (Dy w _) (fun j a1=>absurd a1 (by simp))
 |.text i n,k,w,h,ho=>by
  have e0:AF (.text i n)=Fq k.op []:=by rw[h.op];rfl
  rw[e0,h.leaf rfl];exact Dz k.op k.num k.text k.an k.nn k.cn k.ka 0 k.kc (by decide) [] rfl [] rfl w (Dy w _) (fun j a1=>absurd a1 (by simp))
 |.bool i n,k,w,h,ho=>by
  have e0:AF (.bool i n)=Fq k.op []:=by rw[h.op];rfl
  rw[e0,h.leaf rfl];exact Dz k.op k.num k.text k.an k.nn k.cn k.ka 0 k.kc (by decide) [] rfl [] rfl w (Dy w _) (fun j a1=>absurd a1 (by simp))
 |.set i a n c ss,k,w,h,ho=>by
  have e0:AF (.set i a n c ss)=Fq k.op []:=by rw[h.op];rfl
  rw[e0,h.leaf rfl];exact Dz k.op k.num k.text k.an k.nn k.cn k.ka 0 k.kc (by decide) [] rfl [] rfl w (Dy w _) (fun j a1=>absurd a1 (by simp))
 |.name i n,k,w,h,ho=>by
  have e0:AF (.name i n)=Fq k.op []:=by rw[h.op];rfl
  rw[e0,h.leaf rfl];exact Dz k.op k.num k.text k.an k.nn k.cn k.ka 0 k.kc (by decide) [] rfl [] rfl w (Dy w _) (fun j a1=>absurd a1 (by simp))
 |.attr i n,k,w,h,ho=>by
  have e0:AF (.attr i n)=Fq k.op []:=by rw[h.op];rfl
  rw[e0,h.leaf rfl];exact Dz k.op k.num k.text k.an k.nn k.cn k.ka 0 k.kc (by decide) [] rfl [] rfl w (Dy w _) (fun j a1=>absurd a1 (by simp))
 |.lett i n,k,w,h,ho=>by
  have e0:AF (.lett i n)=Fq k.op []:=by rw[h.op];rfl
  rw[e0,h.leaf rfl];exact Dz k.op k.num k.text k.an k.nn k.cn k.ka 0 k.kc (by decide) [] rfl [] rfl w (Dy w _) (fun j a1=>absurd a1 (by simp))
theorem Afn {x y:Ex}(hx:Bi x=R)(hy:Bi y=R):sameL x y=(decide (FO x=FO y)&&(decide (FO x=6\/FO x=7)&&decide (Aba x=Aba y))):=by
 have no:∀{z:Ex},Bi z=R->(FO z=6↔∃i n,z= .attr i n)/\(FO z=7↔∃i n,z= .lett i n):=fun {z} hz=>by
  cases z with
  |un i op k=>
   simp only[Bi,zD,zG]at hz;exact⟨⟨fun e=>absurd (show op=6 from e) (by omega),fun ⟨_,_,e⟩=>by cases e⟩,⟨fun e=>absurd (show op=7 from e) (by omega),fun ⟨_,_,e⟩=>by cases e⟩⟩
  |bin i op l r=>
   simp only[Bi,zD,zG]at hz;exact⟨⟨fun e=>absurd (show op=6 from e) (by omega),fun ⟨_,_,e⟩=>by cases e⟩,⟨fun e=>absurd (show op=7 from e) (by omega),fun ⟨_,_,e⟩=>by cases e⟩⟩
  |attr i n=>exact⟨⟨fun _=>⟨_,_,rfl⟩,fun _=>rfl⟩,⟨fun e=>absurd (show(6 :Int)=7 from e) (by decide),fun ⟨_,_,e⟩=>by cases e⟩⟩
  |lett i n=>exact⟨⟨fun e=>absurd (show(7 :Int)=6 from e) (by decide),fun ⟨_,_,e⟩=>by cases e⟩,⟨fun _=>⟨_,_,rfl⟩,fun _=>rfl⟩⟩
  |int i n=>exact⟨⟨fun e=>absurd (show(1 :Int)=6 from e) (by decide),fun ⟨_,_,e⟩=>by cases e⟩,⟨fun e=>absurd (show(1 :Int)=7 from e) (by decide),fun ⟨_,_,e⟩=>by cases e⟩⟩
  |text i n=>exact⟨⟨fun e=>absurd (show(2 :Int)=6 from e) (by decide),fun ⟨_,_,e⟩=>by cases e⟩,⟨fun e=>absurd (show(2 :Int)=7 from e) (by decide),fun ⟨_,_,e⟩=>by cases e⟩⟩
  |bool i n=>exact⟨⟨fun e=>absurd (show(3 :Int)=6 from e) (by decide),fun ⟨_,_,e⟩=>by cases e⟩,⟨fun e=>absurd (show(3 :Int)=7 from e) (by decide),fun ⟨_,_,e⟩=>by cases e⟩⟩
  |set i a n c ss=>exact⟨⟨fun e=>absurd (show(4 :Int)=6 from e) (by decide),fun ⟨_,_,e⟩=>by cases e⟩,⟨fun e=>absurd (show(4 :Int)=7 from e) (by decide),fun ⟨_,_,e⟩=>by cases e⟩⟩
  |name i n=>exact⟨⟨fun e=>absurd (show(5 :Int)=6 from e) (by decide),fun ⟨_,_,e⟩=>by cases e⟩,⟨fun e=>absurd (show(5 :Int)=7 from e) (by decide),fun ⟨_,_,e⟩=>by cases e⟩⟩
  |ite i c t e=>exact⟨⟨fun e=>absurd (show(27 :Int)=6 from e) (by decide),fun ⟨_,_,e⟩=>by cases e⟩,⟨fun e=>absurd (show(27 :Int)=7 from e) (by decide),fun ⟨_,_,e⟩=>by cases e⟩⟩
 by_cases he:FO x=FO y
 ·by_cases b:FO x=6\/FO x=7
  ·rw[zN he,zN b];rcases b with h|h
   ·obtain⟨i,n,rfl⟩:=(no hx).1.1 h;obtain⟨j,m,rfl⟩:=(no hy).1.1 (he ▸ h);show decide (m=n)=decide (n=m);exact decide_eq_decide.2 ⟨Eq.symm,Eq.symm⟩
   ·obtain⟨i,n,rfl⟩:=(no hx).2.1 h;obtain⟨j,m,rfl⟩:=(no hy).2.1 (he ▸ h);show decide (m=n)=decide (n=m);exact decide_eq_decide.2 ⟨Eq.symm,Eq.symm⟩
  ·rw[zI b,Bool.false_and,Bool.and_false];cases x<;>first|rfl|exact absurd (.inl rfl) b|exact absurd (.inr rfl) b
 ·rw[zI he,Bool.false_and];cases x<;>cases y<;>first|rfl|exact absurd rfl he
theorem Rz {w:Z}{x y:Ex}{k l:K5}(h:Tq w x k)(h':Tq w y l)(hx:Bi x=R)(hy:Bi y=R):Calls jL 117 #[.agg #[U V k.op,U V k.num,Q k.text,X k.an k.nn k.cn,X k.ka k.kn k.kc],.agg #[U V l.op,U V l.num,Q l.text,X l.an l.nn l.cn,X l.ka l.kn l.kc]] w (BoA (sameL x y) w):=by
 have h0:=Afn hx hy;rw[<-h.op,<-h'.op,<-h.num,<-h'.num]at h0;have g:=(AN w (CZ k)).alloc (by simp) (CZ l);have i:=(Ah.new w #[U V k.op,U V k.num,Q k.text,X k.an k.nn k.cn,X k.ka k.kn k.kc] 101).alloc (CZ l);have c0:=i.cell 0;have c1:=i.cell 1;generalize sameL x y=b at h0|-;clear h h' hx hy i;by_cases he:k.op=l.op
 ·have m:(k.op==l.op)=R:=zF.2 he;by_cases d:k.op=6
  ·have n:(k.op==6)=R:=zF.2 d;by_cases a:k.num=l.num
   ·have j:(k.num==l.num)=R:=zF.2 a;have c:b=R:=h0.trans (by rw[zN he,zN (.inl d),zN a];rfl);clear h0 he d a;subst c;go_enter func117,ntmps117
    go_wp2
    go_ret
    exact⟨rfl,g⟩
   ·have j:(k.num==l.num)=jA:=zA.2 a;have c:b=jA:=h0.trans (by rw[zN he,zN (.inl d),zI a];rfl);clear h0 he d a;subst c;go_enter func117,ntmps117
    go_wp2
    go_ret
    exact⟨rfl,g⟩
  ·have n:(k.op==6)=jA:=zA.2 d;by_cases f:k.op=7
   ·have o:(k.op==7)=R:=zF.2 f;by_cases a:k.num=l.num
    ·have j:(k.num==l.num)=R:=zF.2 a;have c:b=R:=h0.trans (by rw[zN he,zN (.inr f),zN a];rfl);clear h0 he d f a;subst c;go_enter func117,ntmps117
     go_wp2
     go_ret
     exact⟨rfl,g⟩
    ·have j:(k.num==l.num)=jA:=zA.2 a;have c:b=jA:=h0.trans (by rw[zN he,zN (.inr f),zI a];rfl);clear h0 he d f a;subst c;go_enter func117,ntmps117
     go_wp2
     go_ret
     exact⟨rfl,g⟩
   ·have o:(k.op==7)=jA:=zA.2 f;have c:b=jA:=h0.trans (by rw[zI (show ¬ (k.op=6\/k.op=7)from fun e=>e.elim d f),Bool.false_and,Bool.and_false]);clear h0 he d f;subst c;go_enter func117,ntmps117
    go_wp2
    go_ret
    exact⟨rfl,g⟩
 ·have m:(k.op==l.op)=jA:=zA.2 he;have c:b=jA:=h0.trans (by rw[zI he];rfl);clear h0 he;subst c;go_enter func117,ntmps117
  go_wp2
  go_ret
  exact⟨rfl,g⟩
theorem Rl:∀(e:Ex) (b:Nat),Eg e.st b=Eg e b
 |.un i op k,b=>by rw[Ex.st,Eg,Eg,Rl k,Fi]
 |.bin i op l r,b=>by rw[Ex.st,Eg,Eg,Rl l,Fi,Fi,Rl r]
 |.ite i c t e,b=>by rw[Ex.st,Eg,Eg,Rl c,Fi,Fi,Fi,Rl t,Rl e]
 |.int ..,b=>rfl
 |.text ..,b=>rfl
 |.bool ..,b=>rfl
 |.set ..,b=>rfl
 |.name ..,b=>rfl
 |.attr ..,b=>rfl
 |.lett ..,b=>rfl
noncomputable def Ga (ls:List Ex) (x:Sx):Sx:=⟨x.at',x.kind,x.name,x.cond.map (AX ls),x.grant.map (AX ls)⟩
def SL (ls:List Ex) (y:Sx):List Ex:=if y.kind=1 then ls++[y.cond.getD (.bool 0 jA)]else ls
noncomputable def DT:List Ex->List Sx->List Sx
 |_,[]=> []
 |ls,x ::Xx=>Ga ls x ::DT (SL ls (Ga ls x)) Xx
def La (b:Bool):Option Ex->Bool
 |some e=>isB b e
 |none=>jA
def Ee:List Sx->List Sx
 |[]=> []
 |x ::Xx=>if x.kind=2/\La jA x.cond=R then Ee Xx else if x.kind=2/\La R x.cond=R then [⟨x.at',3,⟨#[]⟩,T,x.grant⟩]else x ::Ee Xx
def usE (n:Int):Ex->Bool
 |.lett _ m=>decide (m=n)
 |.un _ _ k=>usE n k
 |.bin _ _ l r=>usE n l||usE n r
 |.ite _ c t e=>usE n c||(usE n t||usE n e)
 |_=>jA
def usO (n:Int):Option Ex->Bool
 |some e=>usE n e
 |none=>jA
def usS (n:Int) (x:Sx):Bool:=usO n x.cond||usO n x.grant
def JB:Option Ex->Bool
 |some e=>AF e
 |none=>R
def G3:Int->List Sx->List (Sx×Int)
 |_,[]=> []
 |n,x ::Xx=>if x.kind=1 then (if !((G3 (n+1) Xx).any fun q=>usS n q.1)&&JB x.cond then G3 (n+1) Xx else (x,n) ::G3 (n+1) Xx)else (x,-1) ::G3 n Xx
def Dp (K:List (Sx×Int)):List Int:=(K.filter fun q=>decide (q.1.kind=1)).map Prod.snd
def ixL (left:List Int) (n:Int):Int:=(left.idxOf n:Nat)
def DU (left:List Int):Ex->Ex
 |.lett i n=> .lett i (ixL left n)
 |.un i op k=> .un i op (DU left k)
 |.bin i op l r=> .bin i op (DU left l) (DU left r)
 |.ite i c t e=> .ite i (DU left c) (DU left t) (DU left e)
 |e=>e
def PI (left:List Int) (x:Sx):Sx:=⟨x.at',x.kind,x.name,x.cond.map (DU left),x.grant.map (DU left)⟩
def YD (X:List Sx):List Sx:=(G3 0 X).map fun q=>PI (Dp (G3 0 X)) q.1
noncomputable def DE (X:List Sx):List Sx:=YD (Ee (DT [] X))
def tyG (ts:List Int):Option Ex->Prop
 |none=>True
 |some g=>AE ts g=Y 4
def Mg:List Int->List Sx->Prop
 |_,[]=>True
 |ts,x ::Xx=>(x.kind=1/\∃e t,x.cond=Y e/\AE ts e=Y t/\x.grant=T/\Mg (ts++[t]) Xx)\/
  (x.kind=2/\(∃e,x.cond=Y e/\AE ts e=Y 1)/\tyG ts x.grant/\Mg ts Xx)\/(x.kind=3/\x.cond=T/\tyG ts x.grant/\Mg ts Xx)
theorem Ki.snoc {ls:List Ex}(a:Ki ts ls)(b:ls.length=ts.length){e:Ex}(h:AE ts e=Y t):Ki (ts++[t]) (ls++[e]):=fun n c hc hk=>by
 rcases Nat.lt_trichotomy n ls.length with h1|h1|h1
 ·rw[z2 h1]at hc;obtain⟨v,hv,d⟩:=a n c hc hk;exact⟨v,hv,by rw[z2 (by omega)];exact d⟩
 ·subst h1;simp at hc;subst hc;obtain⟨v,hv⟩:=Option.isSome_iff_exists.1 hk;refine⟨v,hv,?_⟩;rw[Pi hv]at h;rw[b];simp;exact(Option.some.inj h).symm
 ·rw[yB (by simp;omega)]at hc;cases hc
theorem Adk {ls:List Ex}(a:Ki ts ls):∀{g:Option Ex},tyG ts g->tyG ts (g.map (AX ls))
 |none,_=>trivial
 |some g,h=>DR a g 4 h
theorem MP:∀(a:List Sx) (ts:List Int) (ls:List Ex),Ki ts ls->ls.length=ts.length->Mg ts a->Mg ts (DT ls a)
 |[],_,_,_,_,_=>trivial
 |x ::a,ts,ls,hl,hn,h=>by
  rw[DT];rcases h with⟨k,e,t,h1,d,b,c⟩|⟨k,⟨e,h1,d⟩,b,c⟩|⟨k,h1,b,c⟩
  ·have f:=DR hl e t d;have e1:SL ls (Ga ls x)=ls++[AX ls e]:=by rw[SL,if_pos (show(Ga ls x).kind=1 from k)];simp[Ga,h1]
   refine .inl ⟨k,AX ls e,t,by simp[Ga,h1],f,by simp[Ga,b],?_⟩;rw[e1];exact MP a (ts++[t]) (ls++[AX ls e]) (hl.snoc hn f) (by simp[hn]) c
  ·have e1:SL ls (Ga ls x)=ls:=by rw[SL,if_neg (show(Ga ls x).kind≠1 by show x.kind≠1;omega)]
   rw[e1];exact .inr (.inl ⟨k,⟨AX ls e,by simp[Ga,h1],DR hl e 1 d⟩,Adk hl b,MP a ts ls hl hn c⟩)
  ·have e1:SL ls (Ga ls x)=ls:=by rw[SL,if_neg (show(Ga ls x).kind≠1 by show x.kind≠1;omega)]
   rw[e1];exact .inr (.inr ⟨k,by simp[Ga,h1],Adk hl b,MP a ts ls hl hn c⟩)
theorem Kz:∀(a:List Sx) (ts:List Int),Mg ts a->Mg ts (Ee a)
 |[],_,_=>trivial
 |x ::a,ts,h=>by
  rw[Ee];rcases h with⟨k,e,t,h1,d,b,c⟩|⟨k,h1,b,c⟩|⟨k,h1,b,c⟩
  ·rw[if_neg (by omega),if_neg (by omega)];exact .inl ⟨k,e,t,h1,d,b,Kz a _ c⟩
  ·split
   ·exact Kz a ts c
   ·split
    ·exact .inr (.inr ⟨rfl,rfl,b,trivial⟩)
    ·exact .inr (.inl ⟨k,h1,b,Kz a ts c⟩)
  ·rw[if_neg (by omega),if_neg (by omega)];exact .inr (.inr ⟨k,h1,b,Kz a ts c⟩)
def tsL (ts:List Int) (l:List Int):List Int:=l.map fun m=>ts.getD m.toNat 0
theorem MQ {ts f r:List Int} :∀(e:Ex) (t:Int),(∀m,usE m e=R->0<=m->m.toNat<ts.length->m∈f)->AE ts e=Y t->AE (tsL ts f) (DU (f++r) e)=Y t
 |.lett i n,t,hu,h=>by
  rw[AE]at h;split at h
  ·rename_i h0;have j:n.toNat<ts.length:=(zZ.1 h).1;have hm:=hu n (by simp[usE]) h0 j;have hi:=List.idxOf_lt_length_iff.2 hm;rw[DU,ixL,List.idxOf_append,if_pos hm,AE,if_pos (by omega),zb,tsL,zk,zL hi,List.getElem_idxOf hi];simp only[Option.map_some,zo,h,Option.getD_some]
  ·cases h
 |.un i op k,t,hu,h=>by
  rw[DU,AE];rw[AE]at h;cases hk:AE ts k with
  |none=>rw[hk]at h;cases h
  |some a=>rw[hk]at h;rw[MQ k a (fun m hm=>hu m (by simp[usE,hm])) hk];exact h
 |.bin i op x y,t,hu,h=>by
  rw[DU,AE];rw[AE]at h;cases hx:AE ts x with
  |none=>rw[hx]at h;cases h
  |some a=>
   cases hy:AE ts y with
   |none=>rw[hx,hy]at h;cases h
   |some b=>rw[hx,hy]at h;rw[MQ x a (fun m hm=>hu m (by simp[usE,hm])) hx,MQ y b (fun m hm=>hu m (by simp[usE,hm])) hy];exact h
 |.ite i x y z,t,hu,h=>by
  rw[DU,AE];rw[AE]at h;cases hx:AE ts x with
  |none=>rw[hx]at h;cases h
  |some a=>
   cases hy:AE ts y with
   |none=>rw[hx,hy]at h;cases h
   |some b=>
    cases g:AE ts z with
    |none=>rw[hx,hy,g]at h;cases h
    |some d=>rw[hx,hy,g]at h;rw[MQ x a (fun m hm=>hu m (by simp[usE,hm])) hx,MQ y b (fun m hm=>hu m (by simp[usE,hm])) hy,MQ z d (fun m hm=>hu m (by simp[usE,hm])) g];exact h
 |.int i n,t,_,h=>h
 |.text i n,t,_,h=>h
 |.bool i n,t,_,h=>h
 |.set i a n c ss,t,_,h=>h
 |.name i n,t,_,h=>by cases h
 |.attr i n,t,_,h=>h
theorem Adl {a r:List Int}{g:Option Ex}(hu:∀m,usO m g=R->0<=m->m.toNat<ts.length->m∈a)(h:tyG ts g):tyG (tsL ts a) (g.map (DU (a++r))):=by
 cases g with
 |none=>trivial
 |some e=>exact MQ e 4 hu h
theorem Adm {a:List Int}(b:∀m∈a,m.toNat<ts.length)(n:Nat)(c:n=ts.length):tsL (ts++[t]) (a++[(n:Int)])=tsL ts a++[t]:=by
 subst c;rw[tsL,tsL,zl,List.map_cons,List.map_nil]
 congr 1
 ·refine List.map_congr_left (fun m hm=>?_);rw[zo,zo,z2 (b m hm)]
 ·simp
theorem Adn {a:List Int}(b:∀m∈a,m.toNat<ts.length):tsL (ts++[t]) a=tsL ts a:=
 List.map_congr_left (fun m hm=>by rw[zo,zo,z2 (b m hm)])
theorem UH {x:Sx}{n:Int}{K:List (Sx×Int)}(h:x.kind=1):Dp ((x,n) ::K)=n ::Dp K:=by simp[Dp,h]
theorem IS {x:Sx}{n:Int}{K:List (Sx×Int)}(h:x.kind≠1):Dp ((x,n) ::K)=Dp K:=by simp[Dp,h]
theorem Rm:∀(b:List Sx) (ts c:List Int),(∀m∈c,m.toNat<ts.length)->(∀q∈G3 (ts.length:Nat) b,∀m,usS m q.1=R->0<=m->m.toNat<ts.length->m∈c)->Mg ts b->
  Mg (tsL ts c) ((G3 (ts.length:Nat) b).map fun q=>PI (c++Dp (G3 (ts.length:Nat) b)) q.1)
 |[],_,_,_,_,_=>trivial
 |x ::b,ts,c,hl,hu,h=>by
  rcases h with⟨k,e,t,h1,j,i,g⟩|⟨k,⟨e,h1,j⟩,i,g⟩|⟨k,h1,i,g⟩
  ·have en:((ts.length:Nat):Int)+1=((ts++[t]).length:Nat):=by simp
   rw[G3,if_pos k]at hu|-;rw[en]at hu|-;have l:∀m∈c,m.toNat<(ts++[t]).length:=fun m hm=>by have:=hl m hm;simp;omega
   split
   ·rename_i hk;rw[if_pos hk]at hu;have o:∀q∈G3 ((ts++[t]).length:Nat) b,usS ((ts.length:Nat):Int) q.1=jA:=fun q f=>by
     simp only[zD,Bool.not_eq_true',List.any_eq_false]at hk;simpa using hk.1 q f
    have:=Rm b (ts++[t]) c l (fun q f m hm h0 d=>by
     rcases Nat.lt_or_ge m.toNat ts.length with a|a
     ·exact hu q f m hm h0 a
     ·have:m=((ts.length:Nat):Int):=by simp at d;omega
      rw[this,o q f]at hm;cases hm) g
    rw[Adn hl]at this;exact this
   ·rename_i hk;rw[if_neg hk]at hu;have n:=Rm b (ts++[t]) (c++[((ts.length:Nat):Int)]) (fun m hm=>by
     rcases zM.1 hm with hm|hm
     ·exact l m hm
     ·rw[zO.1 hm];simp) (fun q f m hm h0 d=>by
     rcases Nat.lt_or_ge m.toNat ts.length with a|a
     ·exact Z8 _ (hu q (za _ f) m hm h0 a)
     ·have:m=((ts.length:Nat):Int):=by simp at d;omega
      rw[this];simp) g
    rw[Adm hl ts.length rfl]at n;rw[UH k];have p:c++((ts.length:Nat):Int) ::Dp (G3 ((ts++[t]).length:Nat) b)=(c++[((ts.length:Nat):Int)])++Dp (G3 ((ts++[t]).length:Nat) b):=by simp
    rw[List.map_cons];refine .inl ⟨k,DU (c++((ts.length:Nat):Int) ::Dp (G3 ((ts++[t]).length:Nat) b)) e,t,by simp[PI,h1],MQ e t (fun m hm h0 d=>hu _ (zS ..) m (by simp[usS,h1,usO,hm]) h0 d) j,by simp[PI,i],?_⟩;rw[p];exact n
  ·rw[G3,if_neg (by omega)]at hu|-;rw[IS (by omega),List.map_cons];refine .inr (.inl ⟨k,⟨DU (c++Dp (G3 (ts.length:Nat) b)) e,by simp[PI,h1],MQ e 1 (fun m hm h0 d=>hu _ (zS ..) m (by simp[usS,h1,usO,hm]) h0 d) j⟩,Adl (fun m hm h0 d=>hu _ (zS ..) m (by simp[usS,hm]) h0 d) i,Rm b ts c hl (fun q f=>hu q (za _ f)) g⟩)
  ·rw[G3,if_neg (by omega)]at hu|-;rw[IS (by omega),List.map_cons];refine .inr (.inr ⟨k,by simp[PI,h1],Adl (fun m hm h0 d=>hu _ (zS ..) m (by simp[usS,hm]) h0 d) i,Rm b ts c hl (fun q f=>hu q (za _ f)) g⟩)
theorem Afc {X:List Sx}(h:Mg [] X):Mg [] (DE X):=by
 have h1:=MP X [] [] (fun n c hc=>by simp at hc) rfl h;have a:=Kz _ [] h1;have:=Rm (Ee (DT [] X)) [] [] (fun m hm=>by cases hm) (fun q d m hm h0 b=>by simp at b) a;exact this
end Go.Proofs.YtppafecmccdplaaGreat
