import Derived.Test.YtnjpihpohilnjaaGreatDoorMXAA
open List renaming length->T
open Option renaming none->U,some->Q
open Array renaming size->R,size->jh
open Go renaming World->jB,Value->jF,Addr->jG,TypeId->jV
open Bool renaming true->jD,false->jE
namespace Go.Proofs.YtnjpihpohilnjaaGreatDoor
open Proofs.Tryz
open Value renaming int->V,slice->Y,slice->je,string->jC,ownBlock->jL,agg->jM,pointer->jP
open IntKind renaming i64->X,i64->jd
open World renaming heap->Z,cell?->jI,setCell->jJ,alloc->jK,ownsRow->jO,drew->jR,frozen?->jY
open Addr renaming mk->jA
open Obj renaming cells->jH
open Ending renaming returned->jN
open Proofs.Tryz renaming prog->jZ
open Go.RowKit
set_option linter.unusedVariables false
set_option maxRecDepth 100000
set_option maxHeartbeats 6400000
variable{op:Int}{I':M2}{st':L2}{b:L7}{g cx m:Nat}{S:Nat->Prop}{xp xi:L3}{v lt:jF}
theorem Oq:∀(I:M2) (k:Nat) (a:Int),k<T I->(Cr I).set (k*2+1) (V X a)=Cr (I.modify k λi=>⟨i.op,a⟩)
 |[],k,a,h=>Hr
 |i ::I,0,a,_=>rfl
 |i ::I,k+1,a,h=>by
  have:=Oq I k a Q6;show(Value.int X i.op ::Value.int X i.aY ::Cr I).set ((k+1)*2+1) _=Value.int X i.op ::Value.int X i.aY ::Cr (I.modify k λi=>⟨i.op,a⟩)
  grind
theorem Jn:∀(I:M2) (k:Nat) (h:k<T I),(Cr I)[k*2]? =Q (V X I[k].op)/\(Cr I)[k*2+1]? =Q (V X I[k].aY)
 |[],k,h=>Hr
 |i ::I,0,_=>⟨rfl,rfl⟩
 |i ::I,k+1,h=>by
  have:=Jn I k Q6;rw[(Oa:(k+1)*2=k*2+1+1)];exact this
def PU (x:Vl):Prop:=x.text.size<=1000/\T x.aB<=1000/\∀s∈x.aB,s.size<=1000
structure G5 (w:jB) (B Rr gb:Nat) (a:L3) (n c:Nat) (zs:L2) (k:Nat) (s:Gs) (pv iv sv lv:jF) (nv:L7):Prop where
 rd:JU w Rr a n c zs s.p
 row:Ag w gb #[jP<|Q<|jA Rr 0 U,pv,V X k,iv,sv,lv] 137
 aI:Dz w B pv s.P nv
 aK:jO w B 80 2 iv (T s.I)<|Cr s.I
 st:jO w B 3 1 sv (T s.st)<|Ak s.st
 sl:jO w B 3 1 lv (T s.sl)<|Ak s.sl
 ap:∀q,jL sv=Q q->jL lv≠Q q
 low:Rr<gb/\gb<B/\B<=R (Z w)
 ok:∀v∈s.P,PU v
def GS (B Rr gb:Nat) (a:L3) (n c:Nat) (zs:L2) (k:Nat) (s:Gs) (w:jB):Prop:=∃pv iv sv lv nv,G5 w B Rr gb a n c zs k s pv iv sv lv nv
structure DC (Rr gb:Nat) (w w':jB):Prop where
 os:w'.os=w.os
 tape:w'.tape=w.tape
 output:w'.output=w.output
 size:R (Z w)<=R (Z w')
 block:∀q,q<gb->q<R (Z w)->q≠Rr->(Z w')[q]? =(Z w)[q]?
theorem DC.refl (Rr gb:Nat)(w:jB):DC Rr gb w w:=⟨rfl,rfl,rfl,NLN,λ_ _ _ _=>rfl⟩
theorem DC.trans {Rr gb:Nat}{a b c:jB}(h:DC Rr gb a b)(k:DC Rr gb b c):DC Rr gb a c:=
 ⟨k.os.trans h.os,k.tape.trans h.tape,k.output.trans h.output,zB h.size k.size,λq d f h3=>(k.block q d (zL f h.size) h3).trans<|h.block q d f h3⟩
theorem DC.of {w w':jB}(h:Ai w w'):DC g cx w w':=⟨h.os,h.tape,h.output,h.size,λq _ hq _=>h.block q hq⟩
theorem DC.drew {Rr gb:Nat}{w w':jB}(h:DC Rr gb w w'):DC Rr gb w<|jR w':=by grind [DC.trans,DC.of,Go.RowKit.Below.refl,Go.RowKit.Below.drew]
theorem DC.aR {w w':jB}(T:AU g (g+1) w w'):DC g cx w w':=⟨T.os,T.tape,T.output,T.size,λq _ hq a=>T.block q hq Oa⟩
theorem DC.bP {w w':jB}(K:AN S w w')(a:∀q,S q->cx<=q):DC g cx w w':=⟨K.os,K.tape,K.output,K.size,λq c b _=>K.block q b λt=>H2<|a q t⟩
def GA (B Rr gb:Nat) (a:L3) (n c:Nat) (zs:L2) (k:Nat) (w:jB) (X:Gs->Prop) (r:Ending) (w':jB):Prop:=r=jN (.tuple #[])/\∃s',X s'/\GS B Rr gb a n c zs k s' w'/\DC Rr gb w w'
section
variable{w w':jB}{B Rr gb:Nat}{a:L3}{n c:Nat}{zs:L2}{k:Nat}{s:Gs}{pv iv sv lv:jF}{nv:L7}
theorem G5.cP (h:G5 w B Rr gb a n c zs k s pv iv sv lv nv)(K:AN S w w')(b:∀q,S q->Rr<q):Below (Rr+1) w w':=
 ⟨K.os,K.tape,K.output,K.size,λq hq=>K.block q (H2 h.low) λt=>H2<|b q t⟩
theorem G5.aR (h:G5 w B Rr gb a n c zs k s pv iv sv lv nv){q:Nat}(f:JU w' Rr a n c zs q)(T:AU Rr (Rr+1) w w'):G5 w' B Rr gb a n c zs k ⟨q,s.P,s.I,s.st,s.sl⟩ pv iv sv lv nv:=by
 have b:=h.low;have o:∀{e:jV} {size m:Nat} {v:jF} {d:L7},jO w B e size v m d->jO w' B e size v m d:=λo=>Ad o λq hq=>T.block q (o.lt q hq).2<|.inr<|H2<|(o.lt q hq).1;exact⟨f,⟨(T.block gb h.row.lt<|.inr Oa).trans h.row.out⟩,h.aI.aR T Oa,o h.aK,o h.st,o h.sl,h.ap,⟨b.1,b.2.1,zB b.2.2 T.size⟩,h.ok⟩
theorem G5.below (h:G5 w B Rr gb a n c zs k s pv iv sv lv nv)(b:Ai w w'):G5 w' B Rr gb a n c zs k s pv iv sv lv nv:=
 h.aR (q:=s.p) (h.rd.aA b<|H2 h.low) (AU.aH b NLN)
theorem G5.mkI (h:G5 w B Rr gb a n c zs k s pv iv sv lv nv){b:jF}(K:AN (λq=>q=gb\/jL iv=Q q) w w')(R':Ag w' gb #[jP<|Q<|jA Rr 0 U,pv,V X k,b,sv,lv] 137)(g:jO w' B 80 2 b (T I')<|Cr I'):
  G5 w' B Rr gb a n c zs k ⟨s.p,s.P,I',s.st,s.sl⟩ pv b sv lv nv/\DC Rr gb w w':=by
 have d:=h.low;have i:=h.cP K (λq t=>by obtain t|t:=t;omega;have:=(h.aK.lt q t).1;omega);have l:DC Rr gb w _:= .bP K (λq t=>by obtain t|t:=t;omega;have:=(h.aK.lt q t).1;omega);have r:∀q,B<=q->¬ jL iv=Q q->¬ (q=gb\/jL iv=Q q):=λq z u t=>by obtain t|t:=t;omega;exact u t
 have o:∀{e:jV} {size m:Nat} {v:jF} {f:L7},80≠e->jO w B e size v m f->jO w' B e size v m f:=λhe o=>Ad o λq hq=>K.block q (o.lt q hq).2<|r q (o.lt q hq).1 λt=>Al h.aK o he q t hq;exact⟨⟨h.rd.aA i Oa,R',⟨h.aI.len,o Ob h.aI.aN,λj x y=>o Ob<|h.aI.aB j x y,h.aI.bA,h.aI.bF⟩,g,o Ob h.st,o Ob h.sl,h.ap,⟨d.1,d.2.1,zB d.2.2 K.size⟩,h.ok⟩,l⟩
theorem G5.mkS (h:G5 w B Rr gb a n c zs k s pv iv sv lv nv){b:jF}(K:AN (λq=>q=gb\/jL sv=Q q) w w')(R':Ag w' gb #[jP<|Q<|jA Rr 0 U,pv,V X k,iv,b,lv] 137)(i:jO w' B 3 1 b (T st')<|Ak st')(l:∀q,jL b=Q q->jL lv≠Q q):
  G5 w' B Rr gb a n c zs k ⟨s.p,s.P,s.I,st',s.sl⟩ pv iv b lv nv/\DC Rr gb w w':=by
 have d:=h.low;have r:=h.cP K (λq t=>by obtain t|t:=t;omega;have:=(h.st.lt q t).1;omega);have u:DC Rr gb w _:= .bP K (λq t=>by obtain t|t:=t;omega;have:=(h.st.lt q t).1;omega);have f:∀q,B<=q->¬ jL sv=Q q->¬ (q=gb\/jL sv=Q q):=λq A x t=>by obtain t|t:=t;omega;exact x t
 have o:∀{e:jV} {size m:Nat} {v:jF} {g:L7},3≠e->jO w B e size v m g->jO w' B e size v m g:=λhe o=>Ad o λq hq=>K.block q (o.lt q hq).2<|f q (o.lt q hq).1 λt=>Al h.st o he q t hq;exact⟨⟨h.rd.aA r Oa,R',⟨h.aI.len,o Ob h.aI.aN,λj y z=>o Ob<|h.aI.aB j y z,h.aI.bA,h.aI.bF⟩,o Ob h.aK,i,Ad h.sl λq hq=>K.block q (h.sl.lt q hq).2<|f q (h.sl.lt q hq).1 λt=>h.ap q t hq,l,⟨d.1,d.2.1,zB d.2.2 K.size⟩,h.ok⟩,u⟩
theorem G5.newP {d:jB}{g7 c7:Nat}{u:jF}{v:Vl}(h:G5 w B Rr gb a n c zs k s pv iv sv lv nv)(o:Obj)(D:PU v)(E:jO w B 9 1 u (T v.aB)<|v.aB.map Value.string)
  (z:∀q,jL u=Q q->jL pv≠Q q/\∀j,(A:j<T nv)->jL nv[j]≠Q q)(hg:(jK w o).grownBy d<|jL pv)(F:jO d B 77 4 (Y (Q<|jA g7 0 U) (T s.P+1) c7) (T s.P+1)<|JX s.P nv++vl4 v u)(hat:jL pv=Q g7\/g7=R (Z w)+1):
  G5 (jJ d (jA gb 1 U)<|Y (Q<|jA g7 0 U) (T s.P+1) c7) B Rr gb a n c zs k ⟨s.p,s.P++[v],s.I,s.st,s.sl⟩ (Y (Q<|jA g7 0 U) (T s.P+1) c7) iv sv lv (nv++[u])/\DC Rr gb w (jJ d (jA gb 1 U)<|Y (Q<|jA g7 0 U) (T s.P+1) c7)/\∀b l,Ag w b l 77->jL pv≠Q b->Ag (jJ d (jA gb 1 U)<|Y (Q<|jA g7 0 U) (T s.P+1) c7) b l 77:=by
 have i:=h.low;have f:=AE w o;have g:=h.below f;have G:=Aj E f NLN;have H:=Ck g.row hg λe=>Ac g.row g.aI.aN Ob e.symm;have K:AN (λq=>q=gb\/jL pv=Q q) w<|jJ d (jA gb 1 U)<|Y (Q<|jA g7 0 U) (T s.P+1) c7:=
  AN.setCell (S:=λq=>q=gb\/jL pv=Q q) (a:=w) ⟨hg.os,hg.tape,hg.output,zB f.size hg.size,λq hq J=>(hg.block q (zL hq f.size) λe=>J<|.inr e.symm).trans<|f.block q hq⟩ (p:=(jA gb 1 U)) (λ_=> .inl rfl) _
 have L:=h.cP K (λq t=>by obtain t|t:=t;omega;have:=(h.aI.aN.lt q t).1;omega);have M:DC Rr gb w _:= .bP K (λq t=>by obtain t|t:=t;omega;have:=(h.aI.aN.lt q t).1;omega);have N:∀q,B<=q->¬ jL pv=Q q->¬ (q=gb\/jL pv=Q q):=λq g O t=>by obtain t|t:=t;omega;exact O t
 have y:∀{e:jV} {size m:Nat} {v:jF} {C:L7},77≠e->jO w B e size v m C->jO (jJ d (jA gb 1 U)<|Y (Q<|jA g7 0 U) (T s.P+1) c7) B e size v m C:=λhe o=>Ad o λq hq=>K.block q (o.lt q hq).2<|N q (o.lt q hq).1 λt=>Al h.aI.aN o he q t hq;have W:=g.aI.bN G (λj A q hq e=>(z q e).2 j A hq) (λq hq=>(z q hq).1) F hg (λq hq=>by
  have:g7=q:=O8;subst this;exact hat.imp id λe=>Hk)
 exact⟨⟨h.rd.aA L Oa,H.set 1 _,W.set (jA gb 1 U) _ i.2.1,y Ob h.aK,y Ob h.st,y Ob h.sl,h.ap,⟨i.1,i.2.1,zB i.2.2 K.size⟩,λx hx=>by
  obtain t|t:=zO.1 hx
  .exact h.ok x t
  .rw[zR.1 t];exact D⟩,M,λb l r aa=>⟨(K.block b r.lt (λt=>by
   obtain t|t:=t
   .exact Bm r h.row Ob t
   .exact aa t)).trans r.out⟩⟩
theorem G5.cells (h:G5 w B Rr gb a n c zs k s pv iv sv lv nv):jI w (jA gb 0 U)=Q (jP<|Q<|jA Rr 0 U)/\jI w (jA gb 1 U)=Q pv/\jI w (jA gb 2 U)=Q (V X k)/\jI w (jA gb 3 U)=Q iv/\jI w (jA gb 4 U)=Q sv/\jI w (jA gb 5 U)=Q lv:=
 ⟨h.row.cell 0,h.row.cell 1,h.row.cell 2,h.row.cell 3,h.row.cell 4,h.row.cell 5⟩
theorem Adu (h:GS B Rr gb a n c zs k s w)(op d:Int)(S:T s.I<=100000):
  Calls jZ 67 #[jP<|Q<|jA gb 0 U,V X op,V X d] w λr w'=>GA B Rr gb a n c zs k w (λD=>D=ET s op d) r w'/\∀b i,Ag w b i 77->Ag w' b i 77:=by
 obtain⟨pv,iv,sv,lv,nv,h⟩:=h;obtain⟨E,F,G,H,J⟩:=info_parts Ml;have W:=h.low;obtain⟨x,cx,rfl,-⟩:=Ae h.aK;obtain⟨c0,c1,c2,c3,c4,c5⟩:=h.cells;have l:=h.aK;have K:jL (Value.slice x (T s.I) cx)≠Q gb:=Ac h.row l Ob;have g:=AE w<|jH #[V X op,V X d] 80;have L:=G4<|G8 w<|jH #[V X op,V X d] 80;have M:=Ab<|h.row.aA g NLN;have o:=Ab h;go_enter func67,ntmps67
 go_wp2_with (at_builtin;refine G6 _ rfl _ _ 24 rfl B 80 E (jM #[V X 0,V X 0]) 2 16 underlying24 F G H J rfl Ob (Y x (T s.I) cx) (T s.I) (Cr s.I) rfl (G1 l _) ⟨R<|Z w,0,U⟩ 1 1 [V X op,V X d] rfl rfl L ?c2 Ob ?c3 ?c4 ?c5 (R (Z w)+1) Ox ?_)
 case c2=>first|exact⟨rfl,rfl⟩|(intro u hu;simp at hu;obtain rfl|rfl:=hu<;>rfl)
 case c3=>unfold maxLen;omega
 case c4=>omega
 case c5=>first|omega|(simp;omega)
 intro g7 v N y f hat aa;have m:=Ck (Aa M) f λe=>K e.symm;have ab:=λj=>m.frozen j;have d3:=m.cell 3;have z:AN (λq=>q=gb\/jL (Value.slice x (T s.I) cx)=Q q) w N:=⟨f.os,f.tape,f.output,zB g.size f.size,λk A O=>(f.block k (zL A g.size) λe=>O<|.inr e.symm).trans<|g.block k A⟩
 have C:=Ab ((Aa o).mkI (I':=s.I++[⟨op,d⟩]) (z.setCell (p:=(jA gb 3 U)) (λ_=> .inl rfl)<|Y (Q<|jA g7 0 U) (T s.I+1) v) (m.set 3 _)<|by rw[Ns,zC,z1];exact Ah y (jA gb 3 U) _ λq hq=>by have:=(y.lt q hq).1;show q≠gb;omega);have P:=Ab<|z.setCell (p:=(jA gb 3 U)) (λ_=> .inl rfl)<|Y (Q<|jA g7 0 U) (T s.I+1) v;go_wp2_with fail
 go_end0
 exact⟨⟨rfl,_,rfl,⟨_,_,_,_,_,(Aa C).1⟩,(Aa C).2⟩,λb i r=>⟨((Aa P).block b r.lt (λt=>by
  obtain t|t:=t
  .exact Bm r (Aa o).row Ob t
  .exact Ac r l Ob t)).trans r.out⟩⟩
theorem Ix (h:GS B Rr gb a n c zs k s w)(op b:Int)(f:T s.I<=100000):
  Calls jZ 67 #[jP<|Q<|jA gb 0 U,V X op,V X b] w (GA B Rr gb a n c zs k w λd=>d=ET s op b):=by grind [Adu,Go.Calls.mono]
theorem VK (h:G5 w B Rr gb a n c zs k s pv iv sv lv nv)(ty:Int)(O:T s.st<=100000):
  Calls jZ 108 #[jP<|Q<|jA gb 0 U,V X ty] w λr w'=>r=jN (.tuple #[])/\(∃v,G5 w' B Rr gb a n c zs k (Nr s ty) pv iv v lv nv)/\DC Rr gb w w':=by
 obtain⟨y,z,A,C,D⟩:=info_parts If;have P:=h.low;obtain⟨x,cx,rfl,-⟩:=Ae h.st;obtain⟨c0,c1,c2,c3,c4,c5⟩:=h.cells;have g:=h.st;have E:jL (Value.slice x (T s.st) cx)≠Q gb:=Ac h.row g Ob;have d:=AE w<|jH #[V X ty] 3;have F:=G4<|G8 w<|jH #[V X ty] 3;have G:=Ab<|h.row.aA d NLN;have H:=Ab h;have I:=Ab (show ∀q,jL lv=Q q->q<R (Z w)from λq hq=>(h.sl.lt q hq).2);have J:=Ab h.ap;go_enter func108,ntmps108
 go_wp2_with (at_builtin;refine G6 _ rfl _ _ 44 rfl B 3 y (V X 0) 1 8 underlying44 z A C D rfl Ob (Y x (T s.st) cx) (T s.st) (Ak s.st) rfl (G1 g _) ⟨R<|Z w,0,U⟩ 1 1 [V X ty] rfl rfl F ?c2 Ob ?c3 ?c4 ?c5 (R (Z w)+1) Ox ?_)
 case c2=>first|rfl|trivial|(intro u hu;simp at hu;subst hu;rfl)
 case c3=>unfold maxLen;omega
 case c4=>omega
 case c5=>first|omega|(simp;omega)
 intro g7 K L i b hat S;have f:=Ck (Aa G) b λe=>E e.symm;have W:=λj=>f.frozen j;have d3:=f.cell 4;have M:AN (λq=>q=gb\/jL (Value.slice x (T s.st) cx)=Q q) w L:=⟨b.os,b.tape,b.output,zB d.size b.size,λk l N=>(b.block k (zL l d.size) λe=>N<|.inr e.symm).trans<|d.block k l⟩
 have m:=Ab ((Aa H).mkS (st':=s.st++[ty]) (M.setCell (p:=(jA gb 4 U)) (λ_=> .inl rfl)<|Y (Q<|jA g7 0 U) (T s.st+1) K) (f.set 4 _) (by rw[show Ak (s.st++[ty])=Ak s.st++[V X ty] by simp[Ak],zC,z1];exact Ah i (jA gb 4 U) _ λq hq=>by have:=(i.lt q hq).1;show q≠gb;omega) (λq hq o=>by
  have:g7=q:=O8;subst this;obtain t|t:=hat
  .exact Aa J g7 t o
  .have:=Aa I g7 o;omega))
 go_wp2_with fail
 go_end0
 exact⟨rfl,⟨_,(Aa m).1⟩,(Aa m).2⟩
theorem PV (h:GS B Rr gb a n c zs k s w)(ty:Int)(b:T s.st<=100000):
  Calls jZ 108 #[jP<|Q<|jA gb 0 U,V X ty] w (GA B Rr gb a n c zs k w λd=>d=Nr s ty):=by
 obtain⟨pv,iv,sv,lv,nv,h⟩:=h;exact(VK h ty b).mono λr w' ⟨f,⟨i,g⟩,h3⟩=>⟨f,_,rfl,⟨_,_,_,_,_,g⟩,h3⟩
end
section
open Go.RowKit Go.ChangeShapes
def Ak9 (R:Nat) (a:L3) (n c:Nat) (zs:L2) (p:Nat) (w:jB) (e:Ending) (w':jB):Prop:=
 ∃ (r:Int) (q:Nat),e=jN (V X r)/\Hid (SF zs p=(r,q))/\(-9223372036854775808<=r/\r<=9223372036854775807)/\JU w' R a n c zs q/\AU R (R+1) w w'
theorem Aan (R:Nat)(a:L3)(n c:Nat)(zs:L2)(p:Nat)(w:jB)(h:JU w R a n c zs p):
  Calls jZ 132 #[jP<|Q<|jA R 0 U] w λe w'=>Ak9 R a n c zs p w e w':=by
 go_enter func132,ntmps132
 go_wp2_with fail
 refine(BN R a n c zs p w h).mono ?_;rintro e C ⟨x,p1,rfl,D,L,M,d,f⟩;clear h;have g:=Ab (show SF zs p=Qa zs x p1 by rw[SF,Aa D]);rcases(Oa:x % 8=0\/x % 8=1\/x % 8=2\/x % 8=3\/x % 8=4\/x % 8=5\/x % 8=6\/x % 8=7)with e8|e8|e8|e8|e8|e8|e8|e8
 .have b:=Ab e8;have q0:(x % 8==0)=jD:=zD.2 e8;clear e8;go_wp2
  go_ret
  exact⟨_,p1,rfl,Ab S3,⟨Oa,Oa⟩,d,f⟩
 .have b:=Ab e8;have q0:(x % 8==0)=jE:=zA.2 Oa;have q1:(x % 8==1)=jD:=zD.2 e8;clear e8;go_wp2
  go_ret
  exact⟨_,p1,rfl,Ab S3,⟨Oa,Oa⟩,d,f⟩
 .have b:=Ab e8;have q0:(x % 8==0)=jE:=zA.2 Oa;have q1:(x % 8==1)=jE:=zA.2 Oa;have q2:(x % 8==2)=jD:=zD.2 e8;clear e8;go_wp2
  go_ret
  exact⟨_,p1,rfl,Ab S3,⟨Oa,Oa⟩,d,f⟩
 .have b:=Ab e8;have q0:(x % 8==0)=jE:=zA.2 Oa;have q1:(x % 8==1)=jE:=zA.2 Oa;have q2:(x % 8==2)=jE:=zA.2 Oa;have j:(x % 8==3)=jD:=zD.2 e8;clear e8;go_wp2
  go_ret
  exact⟨_,p1,rfl,Ab S3,⟨Oa,Oa⟩,d,f⟩
 .have b:=Ab e8;have q0:(x % 8==0)=jE:=zA.2 Oa;have q1:(x % 8==1)=jE:=zA.2 Oa;have q2:(x % 8==2)=jE:=zA.2 Oa;have j:(x % 8==3)=jE:=zA.2 Oa;have s:(x % 8==4)=jD:=zD.2 e8;clear e8;go_wp2_with fail
  refine(BN R a n c zs p1 C d).mono ?_;rintro e w2 ⟨y,l,rfl,E,F,G,o,r⟩;go_wp2_with fail
  refine(BN R a n c zs l w2 o).mono ?_;rintro e H ⟨z,t,rfl,u,N,O,h3,hb3⟩;go_wp2
  go_ret
  exact⟨_,t,rfl,Ab<|by rw[Aa g,Qa];simp only[Aa E,Aa u,Aa b];simp,⟨Oa,Oa⟩,h3,(f.trans r).trans hb3⟩
 .have b:=Ab e8;have q0:(x % 8==0)=jE:=zA.2 Oa;have q1:(x % 8==1)=jE:=zA.2 Oa;have q2:(x % 8==2)=jE:=zA.2 Oa;have j:(x % 8==3)=jE:=zA.2 Oa;have s:(x % 8==4)=jE:=zA.2 Oa;have A:(x % 8==5)=jD:=zD.2 e8;clear e8;go_wp2_with fail
  go_loopw [5,6] (λv i wr=>∃ (k:Nat) (m:Int) (q:Nat),k<=8/\i=V X k/\v=V X m/\Hid (AbE zs 8 p1 0=AbE zs (8-k) q m)/\(-9223372036854775808<=m/\m<=9223372036854775807)/\JU wr R a n c zs q/\AU R (R+1) w wr) (λ_ i _=>8-(intOf i).toNat)
  case atStart=>exact⟨0,0,p1,Oa,rfl,rfl,Ab rfl,⟨Oa,Oa⟩,d,f⟩
  case round=>
   obtain⟨k,m,l,P,rfl,rfl,B,hm,o,r⟩:=hrel;by_cases S:k<8
   .have I:(k:Int)<8:=Oa;go_wp2_with (go_at_call 26;refine(BN R a n c zs l _ o).mono ?_;rintro e H ⟨y,t,rfl,u,F,G,h3,hb3⟩)
    go_roundw
    case rel=>exact⟨k+1,_,t,Oa,O1,rfl,Ab<|by rw[Aa B,(Oa:8-k=(8-(k+1))+1),AbE,Aa u],bounds_i64<|wf_bits _ _ _ _,h3,r.trans hb3⟩
    case measure=>simp[intOf];omega
   .have I: ¬ (k:Int)<8:=Oa;have J:=Ab (Oa:k=8);go_wp2
    go_ret
    exact⟨_,l,rfl,Ab<|by rw[Aa g,Qa];simp only[Aa b];simp only[Aa B,Aa J];rfl,hm,o,r⟩
 .have b:=Ab e8;have q0:(x % 8==0)=jE:=zA.2 Oa;have q1:(x % 8==1)=jE:=zA.2 Oa;have q2:(x % 8==2)=jE:=zA.2 Oa;have j:(x % 8==3)=jE:=zA.2 Oa;have s:(x % 8==4)=jE:=zA.2 Oa;have A:(x % 8==5)=jE:=zA.2 Oa;have K:(x % 8==6)=jD:=zD.2 e8;clear e8;go_wp2
  go_ret
  exact⟨_,p1,rfl,Ab S3,⟨Oa,Oa⟩,d,f⟩
 .have b:=Ab e8;have q0:(x % 8==0)=jE:=zA.2 Oa;have q1:(x % 8==1)=jE:=zA.2 Oa;have q2:(x % 8==2)=jE:=zA.2 Oa;have j:(x % 8==3)=jE:=zA.2 Oa;have s:(x % 8==4)=jE:=zA.2 Oa;have A:(x % 8==5)=jE:=zA.2 Oa;have K:(x % 8==6)=jE:=zA.2 Oa;clear e8;go_wp2
  go_ret
  exact⟨_,p1,rfl,Ab S3,⟨Oa,Oa⟩,d,f⟩
theorem QV (w:jB)(k:Nat)(a:k<6):(Lu k).size<=10/\jI (jK w<|jH #[jC ⟨#[108,101,118,101,108]⟩,jC ⟨#[110,111,119]⟩,jC ⟨#[99,108,105,101,110,116]⟩,jC ⟨#[117,115,101,114]⟩,jC ⟨#[97,115,107,101,100]⟩,jC ⟨#[97,103,114,101,101,100]⟩] 9) ⟨R<|Z w,k,U⟩=Q (jC<|Lu k):=by
 have h:=(Ag.new w #[jC ⟨#[108,101,118,101,108]⟩,jC ⟨#[110,111,119]⟩,jC ⟨#[99,108,105,101,110,116]⟩,jC ⟨#[117,115,101,114]⟩,jC ⟨#[97,115,107,101,100]⟩,jC ⟨#[97,103,114,101,101,100]⟩] 9).cell k
 match k,a with
 |0,_=>exact⟨Ob,h⟩
 |1,_=>exact⟨Ob,h⟩
 |2,_=>exact⟨Ob,h⟩
 |3,_=>exact⟨Ob,h⟩
 |4,_=>exact⟨Ob,h⟩
 |5,_=>exact⟨Ob,h⟩
def LtI (L:List<|K9×Int) (ty x:Int) (w1:jB) (vi:jF) (wr:jB):Prop:=
 ∃i:Int,-1<=i/\i<(T L:Int)/\vi=V X i/\Hid (Gj L ty x (T L)=Gj L ty x (i+1).toNat)/\Ai w1 wr
theorem Kj.let_at {B R d:Nat}{a:L3}{n c:Nat}{zs:L2}{wild:Bool}{p:Nat}{N:L6}{L:List (K9×Int)}{nd:jF}{b:L3}{cl:Nat}{w:jB}(h:Kj B R d a n c zs wild p N L nd (Y b (T L) cl) w)(j:Nat)(f:j<T L):∃g,b=Q (jA g 0 U)/\jI w ⟨g,j*2,U⟩=Q (jC L[j].1)/\jI w ⟨g,j*2+1,U⟩=Q (V X L[j].2)/\L[j].1.size<=1000:=by
 obtain⟨i,k,C⟩:=h;obtain⟨l,c',m,o⟩:=Ae C.aU
 grind [AaL,SW.bL]
theorem Acd {L:List (K9×Int)}{ty x:Int}{j:Nat}(a:j<T L):Gj L ty x (j+1)=if L[j].2=ty/\((j:Int)+x) % 2=0 then Q L[j].1 else Gj L ty x j:=by grind [Gj]
section
variable{zs:L2}{L:List (K9×Int)}{ty x:Int}{p p1 q0:Nat}{N:L6}{y:Nd}
theorem lfx (X:Hid<|nx zs p=(x,p1)){q:Nat}{M:L6}(hs:Snc q0 N y q M)(h:Pq zs L ty x p1 y q0):Cy zs L ty p N q M:=by
 obtain⟨rfl,rfl⟩:=hs;exact⟨y,by rw[Aa X];exact h,rfl⟩
theorem AiV {s:K9}(e:x % 3=2)(h:Gj L ty x (T L)=Q s):Pq zs L ty x p ⟨5,0,s,[],[]⟩ p:=by grind [Pq]
theorem U0 (e:x % 3=1)(ht:ty≠1):Pq zs L ty x p ⟨5,0,Lu ((ty-2)*2+x / 3 % 2).toNat,[],[]⟩ p:=by grind [Pq]
theorem AaN (h0: ¬ (x % 3=2/\(Gj L 1 x<|T L).isSome=jD)):Pq zs L 1 x p ⟨3,x / 3 % 2,⟨#[]⟩,[],[]⟩ p:=by grind [Pq]
theorem Akn (h0: ¬ (x % 3=2/\(Gj L 3 x<|T L).isSome=jD))(a: ¬ x % 3=1)(c: 250<x):Pq zs L 3 x p ⟨2,0,⟨#[]⟩,[],[]⟩ p:=by grind [Pq]
theorem Ako {s:K9}{q:Nat}(h0: ¬ (x % 3=2/\(Gj L 3 x<|T L).isSome=jD))(a: ¬ x % 3=1)(c: ¬ 250<x)(h:Hid<|Gb zs p=(s,q)):Pq zs L 3 x p ⟨2,0,s,[],[]⟩ q:=by grind [Pq,Aa]
theorem AiW {K:L4}{q:Nat}(h0: ¬ (x % 3=2/\(Gj L 4 x<|T L).isSome=jD))(a: ¬ x % 3=1)(h:Hid<|Nq zs p K q):Pq zs L 4 x p ⟨4,0,⟨#[]⟩,K,[]⟩ q:=by grind [Pq,Aa]
theorem Aip {q:Nat}(h0: ¬ (x % 3=2/\(Gj L 2 x<|T L).isSome=jD))(a: ¬ x % 3=1)(c: 220<x)(h:Hid<|SF zs p=(op,q)){v:Int}(hv:Ag6 op=v):Pq zs L 2 x p ⟨1,v,⟨#[]⟩,[],[]⟩ q:=by grind [Pq,Aa]
theorem Akp (h0: ¬ (x % 3=2/\(Gj L 2 x<|T L).isSome=jD))(a: ¬ x % 3=1)(c: ¬ 220<x):Pq zs L 2 x p ⟨1,x / 3 % 6,⟨#[]⟩,[],[]⟩ p:=by grind [Pq]
end
theorem Kk {B R I:Nat}{a:L3}{n c:Nat}{zs:L2}{wild:Bool}{p:Nat}{N:L6}{L:List (K9×Int)}{nd:jF}{w:jB}(h:Kj B R I a n c zs wild p N L nd lt w)(hm:T N+1<=1000000)(aD:T L<=100)(ty:Int)(aa:ty=1\/ty=2\/ty=3\/ty=4):
  Calls jZ 119 #[jP<|Q<|jA I 0 U,V X ty] w (GnA B R I a n c zs wild N 1 (Cy zs L ty p N) L nd lt w):=by
 obtain⟨aE,cn,ap,cl,aF,aq,c0,c1,c2,c3⟩:=h.cells;subst aq;go_enter func119,ntmps119
 go_wp2_with fail
 refine(BN R a n c zs p w h.lt.2.2).mono ?_;rintro e f ⟨x,p1,rfl,k,aG,aI,ar,ab⟩;have A:=h.aR ab ar;have J:Gk B R I (je ap (T L) cl) nd w nd f:=Gk.bO ab h.lt.2.1.2 h.lt.1.2.2;obtain⟨aJ,aK,aL,aM,aN,aO,c0,c1,c2,c3⟩:=A.cells;rcases(Oa:x % 3=2\/x % 3=1\/x % 3=0)with e3|e3|e3
 case inr.inl=>
  have q2:(x % 3==2)=jE:=zA.2 Oa;have q1:(x % 3==1)=jD:=zD.2 e3;have E:=Ab e3;have l:=Ab (show ¬ (x % 3=2/\(Gj L ty x<|T L).isSome=jD)from λh=>by omega);obtain rfl|rfl|rfl|rfl:=aa
  .go_wp2_with fail
   refine(Ee A hm 3 (x / 3 % 2) ⟨#[]⟩ Oa Ob).mono ?_;intro r m b;have d:=Ab<|b.to J (Y:=Cy zs L 1 p N) (λq M hs=>lfx k hs<|AaN<|Aa l) NLN;obtain⟨o,t,u,rfl,-⟩:=b;go_wp2
   go_ret
   exact Aa d
  case' inr.inl=>
   obtain⟨hs,hc⟩:=QV f (x / 3 % 2).toNat Oa;have C:=Ab (show Pq zs L 2 x p1 ⟨5,0,Lu (x / 3 % 2).toNat,[],[]⟩ p1 by
    have:=U0 (zs:=zs) (L:=L) (p:=p1) (ty:=2) (Aa E) Ob;rw[(Oa:((2 :Int)-2)*2+x / 3 % 2=(x / 3 % 2))]at this;exact this)
   generalize Lu (x / 3 % 2).toNat=s at hs hc C
  case' inr.inr.inl=>
   obtain⟨hs,hc⟩:=QV f (2+x / 3 % 2).toNat Oa;have C:=Ab (show Pq zs L 3 x p1 ⟨5,0,Lu (2+x / 3 % 2).toNat,[],[]⟩ p1 by
    have:=U0 (zs:=zs) (L:=L) (p:=p1) (ty:=3) (Aa E) Ob;rw[(Oa:((3 :Int)-2)*2+x / 3 % 2=(2+x / 3 % 2))]at this;exact this)
   generalize Lu (2+x / 3 % 2).toNat=s at hs hc C
  case' inr.inr.inr=>
   obtain⟨hs,hc⟩:=QV f (4+x / 3 % 2).toNat Oa;have C:=Ab (show Pq zs L 4 x p1 ⟨5,0,Lu (4+x / 3 % 2).toNat,[],[]⟩ p1 by
    have:=U0 (zs:=zs) (L:=L) (p:=p1) (ty:=4) (Aa E) Ob;rw[(Oa:((4 :Int)-2)*2+x / 3 % 2=(4+x / 3 % 2))]at this;exact this)
   generalize Lu (4+x / 3 % 2).toNat=s at hs hc C
  all_goals
   have S2:=A.below<|AE f<|jH #[jC ⟨#[108,101,118,101,108]⟩,jC ⟨#[110,111,119]⟩,jC ⟨#[99,108,105,101,110,116]⟩,jC ⟨#[117,115,101,114]⟩,jC ⟨#[97,115,107,101,100]⟩,jC ⟨#[97,103,114,101,101,100]⟩] 9;have K2:=J.trans<|Gk.aH (nd:=nd) (AE f<|jH #[jC ⟨#[108,101,118,101,108]⟩,jC ⟨#[110,111,119]⟩,jC ⟨#[99,108,105,101,110,116]⟩,jC ⟨#[117,115,101,114]⟩,jC ⟨#[97,115,107,101,100]⟩,jC ⟨#[97,103,114,101,101,100]⟩] 9) A.lt.1.1;go_wp2_with fail
   refine(Ee S2 hm 5 0 s Oa Oa).mono ?_;intro r m b;have d:=Ab<|b.to K2 (Y:=Cy zs L _ p N) (λq M hs=>lfx k hs<|Aa C) NLN;obtain⟨o,t,u,rfl,-⟩:=b;go_wp2
   go_ret
   exact Aa d
 case' inl=>
  have q2:(x % 3==2)=jD:=zD.2 e3;have q1:(x % 3==1)=jE:=zA.2 Oa;have E:=Ab e3;have z:=Ab (Oa:¬ x % 3=1);have au:=Ab<|show LtI L ty x f (V X<|(T L:Int)-1) f from⟨(T L:Int)-1,Oa,Oa,rfl,Ab<|by rw[(Oa:((T L:Int)-1+1).toNat=T L)],BRN⟩;have ac:=Ab A;have av:=Ab J;go_wp2_with fail
  go_loopw [6] (λO wr=>LtI L ty x f O wr) (λO _=>(intOf O+1).toNat)
  case atStart=>exact Aa au
  case' round=>
   obtain⟨i,aP,aQ,rfl,ad,P⟩:=hrel;have S2:=(Aa ac).below P;have K2:=(Aa av).trans<|Gk.aH (nd:=nd) P (Aa ac).lt.1.1;obtain⟨aS,aT,aU,aV,aW,aX,c0,c1,c2,c3⟩:=S2.cells;by_cases hi: 0<=i
   case pos=>
    obtain⟨j,rfl⟩:=zo hi;have ae:j<T L:=Oa;obtain⟨g,rfl,aw,d1,ax⟩:=S2.let_at j ae;have F:=Ab (show Gj L ty x (T L)=if L[j].2=ty/\((j:Int)+x) % 2=0 then Q L[j].1 else Gj L ty x j by rw[Aa ad,(Oa:((j:Int)+1).toNat=j+1),Acd ae]);have af:=Ab (show(intOf (V X<|(j:Int)-1)+1).toNat<(intOf (V X (j:Int))+1).toNat by simp[intOf]);have ag:=Ab<|show Gj L ty x (T L)=Gj L ty x j->LtI L ty x f (V X<|(j:Int)-1) wr from λhh=>⟨(j:Int)-1,Oa,Oa,rfl,Ab<|by rw[hh,(Oa:((j:Int)-1+1).toNat=j)],P⟩;generalize L[j].1=ls at aw ax F;generalize L[j].2=ay at d1 F;cases ah:(ay==ty)
    .have G:=Ab (Aa ag<|by rw[Aa F,H7 λh=>zA.1 ah h.1]);go_wp2_with fail
     exact⟨Aa G,Aa af⟩
    .cases ai:(((j:Int)+x) % 2==0)
     .have G:=Ab (Aa ag<|by rw[Aa F,H7 λh=>zA.1 ai h.2]);go_wp2_with fail
      exact⟨Aa G,Aa af⟩
     .have G:=Ab (show Gj L ty x (T L)=Q ls by rw[Aa F,H8 ⟨zD.1 ah,zD.1 ai⟩]);go_wp2_with fail
      refine(Ee S2 hm 5 0 ls Oa Oa).mono ?_;intro r m b;have d:=Ab<|b.to K2 (Y:=Cy zs L ty p N) (λq M hs=>lfx k hs<|AiV (Aa E)<|Aa G) NLN;obtain⟨o,t,u,rfl,-⟩:=b;go_wp2
      go_ret
      exact Aa d
   case' neg=>
    have aY: ¬ ((0 :Int)<=i):=hi;have l:=Ab (show ¬ (x % 3=2/\(Gj L ty x<|T L).isSome=jD) by rw[Aa ad,(Oa:(i+1).toNat=0)];simp[Gj])
 case' inr.inr=>
  have q2:(x % 3==2)=jE:=zA.2 Oa;have q1:(x % 3==1)=jE:=zA.2 Oa;have z:=Ab (Oa:¬ x % 3=1);have l:=Ab (show ¬ (x % 3=2/\(Gj L ty x<|T L).isSome=jD)from λh=>by omega);have S2:=A;have K2:=J
 all_goals
  obtain rfl|rfl|rfl|rfl:=aa
  .go_wp2_with fail
   refine(Ee S2 hm 3 (x / 3 % 2) ⟨#[]⟩ Oa Ob).mono ?_;intro r m b;have d:=Ab<|b.to K2 (Y:=Cy zs L 1 p N) (λq M hs=>lfx k hs<|AaN<|Aa l) NLN;obtain⟨o,t,u,rfl,-⟩:=b;go_wp2
   go_ret
   exact Aa d
  .by_cases aj: 220<x
   .have K:=Ab aj;go_wp2_with fail
    refine(Aan R a n c zs p1 _ S2.lt.2.2).mono ?_;rintro r ak ⟨y,al,rfl,D,⟨aZ,a0⟩,H,v⟩;have S5:=S2.aR v H;have K5:=K2.trans<|Gk.bO v S2.lt.2.1.2 S2.lt.1.2.2;by_cases hy:y<0
    .have S:=Ab hy;go_wp2_with fail
     refine(Ee S5 hm 1 (-(y+1)) ⟨#[]⟩ Oa Ob).mono ?_;intro r m b;have d:=Ab<|b.to K5 (Y:=Cy zs L 2 p N) (λq M hs=>lfx k hs<|Aip (Aa l) (Aa z) Hw D<|by rw[Ag6,H8<|H2<|Aa S]) NLN;obtain⟨o,t,u,rfl,-⟩:=b;go_wp2
     go_ret
     exact Aa d
    .have S:=Ab hy;go_wp2_with fail
     refine(Ee S5 hm 1 y ⟨#[]⟩ Oa Ob).mono ?_;intro r m b;have d:=Ab<|b.to K5 (Y:=Cy zs L 2 p N) (λq M hs=>lfx k hs<|Aip (Aa l) (Aa z) Hw D<|by rw[Ag6,H7<|H2<|Aa S]) NLN;obtain⟨o,t,u,rfl,-⟩:=b;go_wp2
     go_ret
     exact Aa d
   .have K:=Ab aj;go_wp2_with fail
    refine(Ee S2 hm 1 (x / 3 % 6) ⟨#[]⟩ Oa Ob).mono ?_;intro r m b;have d:=Ab<|b.to K2 (Y:=Cy zs L 2 p N) (λq M hs=>lfx k hs<|Akp (Aa l) (Aa z) Hw) NLN;obtain⟨o,t,u,rfl,-⟩:=b;go_wp2
    go_ret
    exact Aa d
  .by_cases ao: 250<x
   .have W:=Ab ao;go_wp2_with fail
    refine(Ee S2 hm 2 0 ⟨#[]⟩ Oa Ob).mono ?_;intro r m b;have d:=Ab<|b.to K2 (Y:=Cy zs L 3 p N) (λq M hs=>lfx k hs<|Akn (Aa l) (Aa z)<|H2<|Aa W) NLN;obtain⟨o,t,u,rfl,-⟩:=b;go_wp2
    go_ret
    exact Aa d
   .have W:=Ab ao;go_wp2_with fail
    refine(JY R a n c zs p1 _ S2.lt.2.2).mono ?_;rintro r ak ⟨s,al,rfl,D,a1,H,v⟩;go_wp2_with fail
    refine(Ee (S2.aR v H) hm 2 0 s Oa Oa).mono ?_;intro r m b;have d:=Ab<|b.to (K2.trans<|Gk.bO v S2.lt.2.1.2 S2.lt.1.2.2) (Y:=Cy zs L 3 p N) (λq M hs=>lfx k hs<|Ako (Aa l) (Aa z) (H2<|Aa W) D) NLN;obtain⟨o,t,u,rfl,-⟩:=b;go_wp2
    go_ret
    exact Aa d
  .go_wp2_with fail
   refine(Pw R a n c zs p1 _ S2.lt.2.2).mono ?_;rintro r ak ⟨az,c5,aA,al,rfl,D,aB,aC,H,v⟩;go_wp2_with fail
   refine(Aev S2 v H hm aA az c5 aC aB).mono ?_;intro r m b;have d:=Ab<|b.to (K2.trans<|Gk.bO v S2.lt.2.1.2 S2.lt.1.2.2) (Y:=Cy zs L 4 p N) (λq M hs=>lfx k hs<|AiW (Aa l) (Aa z) D) NLN;obtain⟨o,t,u,rfl,-⟩:=b;go_wp2
   go_ret
   exact Aa d
end
theorem YC (R:Nat)(a:L3)(n c:Nat)(zs:L2)(p:Nat)(w:jB)(h:JU w R a n c zs p):
  Calls jZ 89 #[jP<|Q<|jA R 0 U] w λe w'=>∃r:Int,e=jN (V X r)/\Hid (r=(T zs:Int)-p)/\0<=r/\r<=1048576/\Ai w w':=by
 have c0:=h.row.cell 0;have c1:=h.row.cell 1;have d:=h.le;have f:=h.aJ;have b:=Ab h.len;go_enter func89,ntmps89
 go_wp2_with fail
 go_quiet (fail)
 go_wp2
 go_ret
 exact⟨_,rfl,Ab<|by rw[Aa b],Oa,Oa,⟨rfl,rfl,rfl,NLN,λ_ _=>rfl⟩⟩
theorem PB {B R d:Nat}{a:L3}{n c:Nat}{zs:L2}{wild:Bool}{p:Nat}{N:L6}{L:List (K9×Int)}{nd:jF}{w:jB}(h:Kj B R d a n c zs wild p N L nd lt w)(hm:T N+1<=1000000)(f:L2)(b:Array jF)(j:Nat)(hv:b.toList=Ak f)(i:b.size=j)(h3:j<=3)(op:Int):
  Calls jZ 120 #[jP<|Q<|jA d 0 U,V X op,Y (Q ⟨jh<|Z w,0,U⟩) j j] (jK w<|jH b 3) (GnA B R d a n c zs wild N 1 (Snc p N<|opN op f) L nd lt w):=by
 have k:=AE w<|jH b 3;have l:Gk B R d lt nd w nd<|jK w<|jH b 3:=Gk.aH k h.lt.1.1;go_enter func120,ntmps120
 go_wp2_with fail
 refine(Acc h hm f b j hv i h3 op _ BRN).mono ?_;intro r o g;have m:=Ab<|g.to l (λ_ _ h=>h) NLN;obtain⟨q,s,t,rfl,-⟩:=g;dsimp only;go_wp2
 go_ret
 exact Aa m
def tpN:Nat->Nat
 |0=>1
 |d+1=>3*tpN d+1
def ExD (B R gb:Nat) (a:L3) (n c:Nat) (zs:L2) (wild:Bool) (L:List<|K9×Int) (lt:jF) (d:Nat):Prop:=
 ∀(ty:Int) (p:Nat) (N:L6) (nd:jF) (w:jB),(ty=1\/ty=2\/ty=3\/ty=4)->T N+tpN d<=1000000->Kj B R gb a n c zs wild p N L nd lt w->Calls jZ 90 #[jP<|Q<|jA gb 0 U,V X ty,V X (d:Int)] w (GnA B R gb a n c zs wild N (tpN d) (MI zs L wild d ty p N) L nd lt w)
def TwX (E:Drw) (op t1 t2:Int) (p:Nat) (N:L6) (q:Nat) (M:L6):Prop:=∃q1 N1 N2,E t1 p N q1 N1/\E t2 q1 N1 q N2/\M=N2++[opN op [Fl N1,Fl N2]]
theorem Ag7 {B R g:Nat}{a:L3}{n c d:Nat}{zs:L2}{wild:Bool}{p:Nat}{N:L6}{L:List (K9×Int)}{nd:jF}{w:jB}(o:ExD B R g a n c zs wild L lt d)(h:Kj B R g a n c zs wild p N L nd lt w)(hm:T N+2*tpN d+1<=1000000)(op b f:Int)(q:b=1\/b=2\/b=3\/b=4)(s:f=1\/f=2\/f=3\/f=4):
  Calls jZ 121 #[jP<|Q<|jA g 0 U,V X op,V X b,V X f,V X (d:Int)] w (GnA B R g a n c zs wild N (2*tpN d+1) (TwX (MI zs L wild d) op b f p N) L nd lt w):=by
 have i:=Ab o;unfold ExD at i;generalize tpN d=t at hm i|-;generalize MI zs L wild d=E at i|-;go_enter func121,ntmps121
 go_wp2_with fail
 refine(Aa i b p N nd w q Oa h).mono ?_;rintro r u ⟨q1,j,v,rfl,x,a1,a2,y,z⟩;go_wp2_with fail
 refine(Aa i f q1 j v u s Oa y).mono ?_;rintro r w2 ⟨q2,k,J,rfl,A,a3,a4,S2,K2⟩;go_wp2_with fail
 refine(PB S2 Oa [Fl j,Fl k] _ 2 rfl rfl Oa op).mono ?_;rintro r C ⟨D,l,F,rfl,m,a5,K,G,H⟩;have I:=Ab<|show GnA B R g a n c zs wild N (2*t+1) (TwX E op b f p N) L nd lt w (jN<|V X<|Fl l) C from⟨D,l,F,rfl,Ab ⟨q1,j,k,Aa x,by rw[(Aa m).1];exact Aa A,(Aa m).2⟩,Oa,Oa,G,(z.trans K2).trans H⟩;go_wp2
 go_ret
 exact Aa I
section
variable{zs:L2}{L:List (K9×Int)}{wild:Bool}{d:Nat}{ty ty' x:Int}{p p1 q:Nat}{N M:L6}{Lf E:Drw}
theorem Aew (h:T zs<=p\/300<T N)(a:Cy zs L ty p N q M):MI zs L wild (d+1) ty p N q M:=by grind [MI]
theorem Aex (h: ¬ (T zs<=p\/300<T N))(X:Hid<|nx zs p=(x,p1))(ht:(if wild=jD/\x=201 then 1+ty % 4 else ty)=ty')(hy:SU (Cy zs L) (MI zs L wild d) ty' x p1 N q M):MI zs L wild (d+1) ty p N q M:=by grind [MI,Aa]
theorem Aey (h:x % 8<2)(a:Lf ty p N q M):SU Lf E ty x p N q M:=by grind [SU]
theorem Aez (a: ¬ x % 8=7)(b: ¬ x % 8<2)(hs:Lv ty x=U)(c:Lf ty p N q M):SU Lf E ty x p N q M:=by grind [SU]
theorem Ag8 {a b:Int}(c: ¬ x % 8=7)(d: ¬ x % 8<2)(hs:Lv ty x=Q (op,a,Q b))(f:TwX E op a b p N q M):SU Lf E ty x p N q M:=by unfold SU;rw[H7 c,H7 d,hs];exact f
theorem Ag9 {b:Int}{c:Nat}{a:L6}(d: ¬ x % 8=7)(f: ¬ x % 8<2)(hs:Lv ty x=Q (op,b,U))(g:E b p N c a)(h:Snc c a (opN op [Fl a]) q M):SU Lf E ty x p N q M:=by unfold SU;rw[H7 d,H7 f,hs];obtain⟨rfl,rfl⟩:=h;exact⟨a,g,rfl⟩
theorem AiX {q1 q2:Nat}{a b c:L6}(f:x % 8=7)(g:E 1 p N q1 a)(h:E ty q1 a q2 b)(h3:E ty q2 b m c)(i:Snc m c (opN 27 [Fl a,Fl b,Fl c]) q M):SU Lf E ty x p N q M:=by unfold SU;rw[H8 f];obtain⟨rfl,rfl⟩:=i;exact⟨q1,a,q2,b,c,g,h,h3,rfl⟩
end
section
variable{w w':jB}{B Rr gb:Nat}{a:L3}{n c:Nat}{zs:L2}{k:Nat}{s:Gs}{pv iv sv lv:jF}{nv:L7}
theorem Adw (a:L3)(n c m d:Nat):jL (Value.slice a n c)=jL (Value.slice a m d):=by cases a<;>rfl
theorem G5.pop {x:L3}{cx:Nat}(h:G5 w B Rr gb a n c zs k s pv iv (Y x (T s.st) cx) lv nv)(m z:Nat)(b:T s.st-m=z):
  G5 (jJ w (jA gb 4 U)<|Y x z cx) B Rr gb a n c zs k (Mk s m) pv iv (Y x z cx) lv nv/\DC Rr gb w (jJ w (jA gb 4 U)<|Y x z cx):=by
 have f:=h.low;have d:T (s.st.take<|T s.st-m)=z:=by rw[zg];omega
 have o:=Iz h.st (m:=z) Oa;refine h.mkS (st':=s.st.take<|T s.st-m) ((AN.refl _ w).setCell (p:=(jA gb 4 U)) (λ_=> .inl rfl) _) (h.row.set 4 _) ?_ (λq hq=>h.ap q<|by rw[Adw x (T s.st) cx z cx];exact hq);rw[d,b,show Ak (s.st.take z)=(Ak s.st).take (z*1) by simp[Ak,List.map_take]];exact Ah o (jA gb 4 U) _ (λq hq=>by have:=(o.lt q hq).1;show q≠gb;omega)
theorem G5.slt {g cx m:Nat}(h:G5 w B Rr gb a n c zs k s pv iv sv (Y (Q<|jA g 0 U) (T s.sl) cx) nv)(j:Nat)(v:Int):
  G5 (jJ w (jA g j U)<|V X v) B Rr gb a n c zs k (YA s j v) pv iv sv (Y (Q<|jA g 0 U) (T s.sl) cx) nv/\DC Rr gb w (jJ w (jA g j U)<|V X v):=by
 have d:=h.low;have hg:=h.sl.lt g rfl;have K:AN (λq=>q=g) w<|jJ w (jA g j U)<|V X v:=(AN.refl (λq=>q=g) w).setCell (p:=(jA g j U)) (λ_=>rfl) _;have l:=h.cP K λq e=>Oa;have o:∀{e:jV} {size m:Nat} {v':jF} {b:L7},jL v'≠Q g->jO w B e size v' m b->jO (jJ w (jA g j U)<|V X v) B e size v' m b:=λhd o=>Ah o (jA g j U) _ λq hq e=>hd (by have e:q=g:=e;rw[<-e];exact hq);have f:∀{e:jV} {size m:Nat} {v':jF} {b:L7},3≠e->jO w B e size v' m b->jL v'≠Q g:=λhe o=>Al h.sl o he g rfl;refine⟨⟨h.rd.aA l Oa,⟨(K.block gb h.row.lt λe=>Oa).trans h.row.out⟩,⟨h.aI.len,o (f Ob h.aI.aN) h.aI.aN,λi hi hi'=>o (f Ob<|h.aI.aB i hi hi')<|h.aI.aB i hi hi',h.aI.bA,h.aI.bF⟩,o (f Ob h.aK) h.aK,o (λe=>h.ap g e rfl) h.st,?_,h.ap,⟨d.1,d.2.1,by simpa using d.2.2⟩,h.ok⟩,.bP K λq e=>Oa⟩;have:=(h.sl.stored j<|V X v).1
 simp_all[List.map_set,Ak,YA,List.length_set]
theorem G5.aY (h:G5 w B Rr gb a n c zs k s pv (Y (Q<|jA g 0 U) (T s.I) cx) sv lv nv)(u:Nat)(hu:u<T s.I)(v:Int):
  G5 (jJ w ⟨g,u*2+1,U⟩<|V X v) B Rr gb a n c zs k (PT s u v) pv (Y (Q<|jA g 0 U) (T s.I) cx) sv lv nv/\DC Rr gb w (jJ w ⟨g,u*2+1,U⟩<|V X v):=by
 have b:=h.low;have hg:=h.aK.lt g rfl;refine h.mkI (I':=s.I.modify u λi=>⟨i.op,v⟩) ((AN.refl _ w).setCell (p:=⟨g,u*2+1,U⟩) (λ_=> .inr rfl) _) (h.row.aF (p:=⟨g,u*2+1,U⟩) (Oa:gb≠g) _) ?_;rw[<-Oq s.I u _ hu,List.length_modify]
 grind [G5.aK,Go.World.ownsRow.stored]
theorem G5.int (h:G5 w B Rr gb a n c zs k s pv iv sv lv nv):(∃x cx,sv=Y x (T s.st) cx/\T s.st<=cx/\∀j,j<T s.st->∃g,x=Q (jA g 0 U)/\jI w (jA g j U)=Q (V X<|s.st.getD j 0))/\∃x cx,lv=Y x (T s.sl) cx/\∀j,j<T s.sl->∃g,x=Q (jA g 0 U)/\jI w (jA g j U)=Q (V X<|s.sl.getD j 0)/\jY w (jA g j U)=jE:=by
 have d:∀(L:L2) (j:Nat),j<T L->(Ak L)[j]? =Q (V X<|L.getD j 0):=λL j b=>by grind [Ak]
 refine⟨?_,?_⟩
 .obtain⟨x,cx,e,hx⟩:=Ae h.st;refine⟨x,cx,e,?_,λj b=>?_⟩
  .have o:=h.st;rw[e]at o;obtain⟨q,h0⟩|⟨g,cap,f,q,i,l,h3,_⟩:=o.2
   all_goals grind
  grind
 .obtain⟨x,cx,e,hx⟩:=Ae h.sl;refine⟨x,cx,e,λj b=>?_⟩;obtain⟨g,m,-,hc⟩:=hx Oa;have o:=h.sl
  grind [Go.World.ownsRow.frozenAt]
theorem Aj4 {b:Int}(h:G5 w B Rr gb a n c zs k s pv iv sv (Y (Q<|jA g 0 U) m cx) nv)(j:Nat)(d:j<T s.sl)(e:s.sl.getD j 0=b):jI w (jA g j U)=Q (V X b):=by grind [G5.int]
end
theorem UB:(jZ.info? 77).map (λi=>(i.zero,i.size,i.bytes))=Q (Q<|jM #[V X 0,V X 0,jC ByteArray.empty,Y U 0 0],4,56):=Oy
section
variable{w w':jB}{B Rr gb:Nat}{a:L3}{n c:Nat}{zs:L2}{k:Nat}{s:Gs}{pv iv sv lv:jF}{nv:L7}
theorem PW (h:GS B Rr gb a n c zs k s w)(ty:Int)(ad:T s.P<=90000)(hi:T s.I<=90000):
  Calls jZ 131 #[jP<|Q<|jA gb 0 U,V X ty] w (GA B Rr gb a n c zs k w λo=>o=IM s ty):=by
 obtain⟨pv,iv,sv,lv,nv,h⟩:=h;obtain⟨A,C,D,E,F⟩:=info_parts UB;have p:=AE w<|jH #[V X ty,V X 0,jC ⟨#[]⟩,Y U 0 0] 77;have j:=Ag.new w #[V X ty,V X 0,jC ⟨#[]⟩,Y U 0 0] 77;have d:=h.below p;have t:DC Rr gb w _:= .of p;have G:=h.row.lt;go_enter func131,ntmps131
 go_wp2_with fail
 generalize jK w (jH #[V X ty,V X 0,jC ⟨#[]⟩,Y U 0 0] 77)=b at d t j|-;generalize R (Z w)=i at j G|-;obtain⟨f,cn,H,-⟩:=Ae d.aI.aN;subst H;obtain⟨e0,e1,e2,e3⟩:=Cx j;have J:jI b (jA gb 1 U)=Q (Y f (T s.P) cn):=d.row.cell 1;have K:=d.row.frozen 1;have L:=G4<|G8 b<|jH #[V X ty,V X 0,jC ⟨#[]⟩,Y U 0 0] 77;have M:=(G1 d.aI.aN<|jH #[V X ty,V X 0,jC ⟨#[]⟩,Y U 0 0] 77).drew;have l:Ag (jR<|jK b<|jH #[V X ty,V X 0,jC ⟨#[]⟩,Y U 0 0] 77) gb #[jP<|Q<|jA Rr 0 U,Y f (T s.P) cn,V X k,iv,sv,lv] 137:=⟨(d.row.alloc<|jH #[V X ty,V X 0,jC ⟨#[]⟩,Y U 0 0] 77).out⟩
 have ae:jI (jR b) (jA gb 1 U)=Q (Y f (T s.P) cn)/\jY (jR b) (jA gb 1 U)=jE:=⟨J,K⟩
 have d1:jI (jR b) (jA i 0 U)=Q (V X ty):=e0;have d2:jI (jR b) (jA i 1 U)=Q (V X 0):=e1;have d3:jI (jR b) (jA i 2 U)=Q (jC ⟨#[]⟩):=e2;have d4:jI (jR b) (jA i 3 U)=Q (Y U 0 0):=e3;have af:=l.cell 1;have N:jL (Value.slice f (T s.P) cn)≠Q gb:=Ac d.row d.aI.aN Ob;have ag:B<=R (Z b):=d.low.2.2;go_region_law (refine step_append_lies _ rfl _ _ 23 rfl B 77 A (jM #[V X 0,V X 0,jC ByteArray.empty,Y U 0 0]) 4 56 underlying23 C D E F rfl Ob (Y f (T s.P) cn) (T s.P) (JX s.P nv) rfl M ⟨R<|Z b,0,U⟩ 1 1 [V X ty,V X 0,jC ⟨#[]⟩,Y U 0 0] rfl rfl L (by intro u hu;simp at hu;obtain rfl|rfl|rfl|rfl:=hu<;>rfl) Ob O2 Oa O0 _ rfl ?_;intro g7 c7 x O g hat ah;have y:Ag x gb #[jP (Q (jA Rr 0 U)),Y f (T s.P) cn,V X k,iv,sv,lv] 137:=⟨(g.block gb l.lt λe=>N e.symm).trans l.out⟩;have S:=y.cell 1;have ai:=y.frozen 1)
 all_goals
  obtain⟨m,W,-⟩:=d.newP (g7:=g7) (c7:=c7) (v:=⟨ty,0,⟨#[]⟩,[]⟩) (u:= Y U 0 0) (jH #[V X ty,V X 0,jC ⟨#[]⟩,Y U 0 0] 77) ⟨zE _,zE _,λs hs=>H9 hs Ox⟩ H3 (λq hq=>Hj) ⟨g.os,g.tape,g.output,g.size,g.block⟩ O (hat.imp id λe=>by rw[e];show R (Z<|jK b _)=_;simp);have z:=t.trans W;generalize jJ x (jA gb 1 U) (Y (Q (jA g7 0 U)) (T s.P+1) c7)=aa at m z|-;have S:jI aa (jA gb 1 U)=Q (Y (Q<|jA g7 0 U) (T s.P+1) c7):=m.row.cell 1;go_wp2_with fail
  refine(Ix ⟨_,_,_,_,_,m⟩ 1 (T s.P:Int) (Oa:T s.I<=100000)).mono ?_;rintro r aj ⟨rfl,o,rfl,ab,ac⟩;go_wp2_with fail
  go_end0
  exact⟨rfl,_,rfl,ab,z.trans ac⟩
end
structure Th (w:jB) (B:Nat) (v:jF) (P:M1) (nv:L7):Prop where
 len:T nv=T P
 aN:jO w B 77 4 v (T P)<|JX P nv
 aB:∀j,(h:j<T P)->(h':j<T nv)->jO w 0 9 1 nv[j] (T P[j].aB) (P[j].aB.map Value.string)
 ok:∀x∈P,PU x
theorem Dz.plo {w:jB}{B:Nat}{P:M1}{a:L7}(h:Dz w B v P a)(ok:∀x∈P,PU x):Th w B v P a:=⟨h.len,h.aN,λj b c=>Az (h.aB j b c)<|zE _,ok⟩
theorem Th.low {w:jB}{B B':Nat}{P:M1}{a:L7}(h:Th w B v P a)(b:B'<=B):Th w B' v P a:=⟨h.len,Az h.aN b,h.aB,h.ok⟩
theorem UC {w:jB}{B:Nat}{e:jV}{size n:Nat}{a:L7}(h:jO w B e size v n a){q:Nat}(hq:jL v=Q q):∃b,Ag w q b e:=by
 obtain⟨hv,_⟩|⟨g,cap,c,hv,_,hg,_⟩:=h.2
 .rw[hv]at hq;cases hq
 .rw[hv]at hq;obtain rfl:g=q:=O8;exact⟨c,⟨hg⟩⟩
theorem Th.aM {w w':jB}{B:Nat}{P:M1}(h:Th w B v P b)(c:∀q a t,Ag w q a t->t= 77\/t= 9->(Z w')[q]? =(Z w)[q]?):Th w' B v P b:=
 ⟨h.len,Ad h.aN (λq hq=>by obtain⟨a,r⟩:=UC h.aN hq;exact c q a _ r<|.inl rfl),λj d f=>Ad (h.aB j d f) (λq hq=>by obtain⟨a,r⟩:=UC (h.aB j d f) hq;exact c q a _ r<|.inr rfl),h.ok⟩
theorem Th.vls {w:jB}{lo n c:Nat}{a:L3}{P:M1}{d:L7}(h:Th w lo (Y a n c) P d)(l:T P=n)(p:n<=100000):SC w a n c P:=by
 refine⟨l,Oa,λx hx=>H2<|(h.ok x hx).1,λj b=>?_⟩;have k:j<T d:=by rw[h.len];exact b
 obtain⟨c0,c1,c2,c3⟩:=UD P d j b k;obtain⟨g,o⟩:∃g,a=Q (jA g 0 U):=by
  obtain⟨_,h0⟩|⟨g,cap,q,hv,_⟩:=h.aN.2
  all_goals grind
 subst o;subst l;have f:∀i,i<4->jI w ⟨g,0+j*4+i,U⟩=(JX P d)[j*4+i]? :=λi hi=>by rw[zY];exact h.aN.cellAt (g:=g) (n:=T P) (j*4+i) Oa
 obtain⟨an,cn,hu⟩:=AA<|h.aB j b k;have m:=h.aB j b k;rw[hu]at c3 m;refine⟨g,0,rfl,(h.aN.lt g rfl).2,an,_,cn,(f 0 Oa).trans c0,(f 1 Oa).trans c1,(f 2 Oa).trans c2,(f 3 Oa).trans c3,Aq.bG m ?_⟩;intro i hi;have hm:=(h.ok P[j]<|zI b).2.2 _<|zI hi;rw[Dd _ i hi];unfold maxLen;omega
def Adx (M:Nat) (X:M1->Int->M2->Prop) (w:jB) (r:Ending) (w':jB):Prop:=
 ∃P s I x cx y cy nv,r=jN (jM #[Y x (T P) cx,V jd s,Y y (T I) cy])/\Hid (X P s I)/\Th w' (R<|Z w) (Y x (T P) cx) P nv/\jO w' (R<|Z w) 80 2 (Y y (T I) cy) (T I) (Cr I)/\T P<=100000/\T I<=M
theorem UE {w:jB}{lo c:Nat}{x:L3}(h:jO w lo 80 2 (Y x (T I') c) (T I')<|Cr I')(b:T I'<=100000):PX w x (T I') c I':=by
 refine⟨rfl,Oa,λj a=>?_⟩;obtain⟨d,c',e,hx⟩:=Ae h;cases e;obtain⟨g,rfl,-,hc⟩:=hx Oa;exact⟨g,0,rfl,(h.lt g rfl).2,by rw[zY];exact hc _ _ (Jn I' j a).1,by rw[zY];exact hc _ _ (Jn I' j a).2⟩
structure L5 (w w':jB) (tl th B b0 b1:Nat) (kN:Int) (P:M1) (I:M2) (pv iv:jF) (nv:L7):Prop where
 row:Ag w' b1 #[pv,V X kN,iv] 26
 aI:Th w' B pv P nv
 aK:jO w' B 80 2 iv (T I)<|Cr I
 out:Ag w' b0 #[Y U 0 0,V X 0,Y U 0 0] 26
 cP:AU tl th w w'
 lo:R (Z w)<=b0/\b0<B/\b0≠b1/\R (Z w)<=b1/\B<=R (Z w')
section
variable{w w' W w7:jB}{tl th B b0 b1:Nat}{kN:Int}{P:M1}{I:M2}{pv iv:jF}{nv:L7}
theorem L5.bF (h:L5 w w' tl th B b0 b1 kN P I pv iv nv)(hv:∀q,jL v=Q q->B<=q)(K:AN (λq=>q=b1\/jL v=Q q) w' W):Ag W b0 #[Y U 0 0,V X 0,Y U 0 0] 26/\AU tl th w W/\B<=R (Z W):=by
 have a:=h.lo;have b:∀q,q<B->q≠b1->¬ (q=b1\/jL v=Q q):=λq c d t=>S4;exact⟨⟨(K.block b0 h.out.lt<|b b0 a.2.1 a.2.2.1).trans h.out.out⟩,⟨K.os.trans h.cP.os,K.tape.trans h.cP.tape,K.output.trans h.cP.output,zB h.cP.size K.size,λq hq hd=>(K.block q (zL hq h.cP.size)<|b q Oa Oa).trans<|h.cP.block q hq hd⟩,zB a.2.2.2.2 K.size⟩
theorem L5.pk (h:L5 w w' tl th B b0 b1 kN P I pv iv nv)(K:AN (λq=>q=b1\/jL iv=Q q) w' W):Th W B pv P nv:=
 h.aI.aM λq a t r ht=>K.block q r.lt (λe=>by
  obtain e|e:=e
  .exact Bm r h.row (by obtain rfl|rfl:=ht<;>decide) e
  .exact Ac r h.aK (by obtain rfl|rfl:=ht<;>decide) e)
theorem L5.ik (h:L5 w w' tl th B b0 b1 kN P I pv iv nv)(K:AN (λq=>q=b1\/jL pv=Q q) w' W):jO W B 80 2 iv (T I)<|Cr I:=
 Ad h.aK λq hq=>K.block q (h.aK.lt q hq).2 (λe=>by
  obtain e|e:=e
  .exact Ac h.row h.aK Ob Hb
  .exact Al h.aI.aN h.aK Ob q e hq)
theorem L5.below (h:L5 w w' tl th B b0 b1 kN P I pv iv nv)(a:Ai w' W):L5 w W tl th B b0 b1 kN P I pv iv nv:=by
 have b:=h.lo;obtain⟨f1,f2,c⟩:=h.bF (λq hq=>(h.aK.lt q hq).1)<|AN.aH a;exact⟨h.row.aA a NLN,h.pk<|AN.aH a,h.ik<|AN.aH a,f1,f2,⟨b.1,b.2.1,b.2.2.1,b.2.2.2.1,c⟩⟩
theorem L5.app (h:L5 w w' tl th B b0 b1 kN P I pv iv nv)(op a:Int){b:jF}(hg:(jK w'<|jH #[V X op,V X a] 80).grownBy w7<|jL iv)(m:jO w7 B 80 2 b (T I+1)<|Cr I++[V X op,V X a]):
  L5 w (jJ w7 (jA b1 2 U) b) tl th B b0 b1 kN P (I++[⟨op,a⟩]) pv b nv/\Ag w7 b1 #[pv,V X kN,iv] 26/\Ag w7 b0 #[Y U 0 0,V X 0,Y U 0 0] 26:=by
 have c:=h.lo;have d:=AE w'<|jH #[V X op,V X a] 80;have f:AN (λq=>q=b1\/jL iv=Q q) w' w7:=⟨hg.os,hg.tape,hg.output,zB d.size hg.size,λk g j=>(hg.block k (zL g d.size) λe=>j<|.inr e.symm).trans<|d.block k g⟩
 have i:=Ck (h.row.aA d NLN) hg λe=>Ac h.row h.aK Ob e.symm;have K:=f.setCell (p:=(jA b1 2 U)) (λ_=> .inl rfl) b;obtain⟨f1,f2,l⟩:=h.bF (λq hq=>(h.aK.lt q hq).1) K;refine⟨⟨i.set 2 _,h.pk K,?_,f1,f2,⟨c.1,c.2.1,c.2.2.1,c.2.2.2.1,l⟩⟩,i,(h.bF (λq hq=>(h.aK.lt q hq).1) f).1⟩
 grind [Ac,Ns,Ah]
theorem L5.cG {cp ci:Nat}(h:L5 w W tl th B b0 b1 kN P I (Y xp (T P) cp) (Y xi (T I) ci) nv){X:M1->Int->M2->Prop}(b:X P kN I)(c:T P<=100000){M:Nat}(d:T I<=M){a:jB}(f:a=jJ (jJ (jJ W (jA b0 0 U)<|Y xp (T P) cp) (jA b0 1 U)<|V jd kN) (jA b0 2 U) (Y xi (T I) ci)):
  (jI a (jA b0 0 U)=Q (Y xp (T P) cp)/\jI a (jA b0 1 U)=Q (V jd kN)/\jI a (jA b0 2 U)=Q (Y xi (T I) ci))/\Adx M X w (jN<|jM #[Y xp (T P) cp,V jd kN,Y xi (T I) ci]) a/\AU tl th w a:=by
 subst f;have g:=h.lo;have K:AN (λq=>q=b0) W<|jJ (jJ (jJ W (jA b0 0 U)<|Y xp (T P) cp) (jA b0 1 U)<|V jd kN) (jA b0 2 U)<|Y xi (T I) ci:=(((AN.refl (λq=>q=b0) W).setCell (p:=(jA b0 0 U)) (λ_=>rfl) _).setCell (p:=(jA b0 1 U)) (λ_=>rfl) _).setCell (p:=(jA b0 2 U)) (λ_=>rfl) _;exact⟨At<|((h.out.set 0 _).set 1 _).set 2 _,⟨P,kN,I,xp,cp,xi,ci,nv,rfl,Ab b,(h.aI.aM λq i t r ht=>K.block q r.lt λe=>Bm r h.out (by obtain rfl|rfl:=ht<;>decide) e).low Oa,Az (Ad h.aK λq hq=>K.block q (h.aK.lt q hq).2 λe=>Ac h.out h.aK Ob Hb) Oa,c,d⟩,⟨K.os.trans h.cP.os,K.tape.trans h.cP.tape,K.output.trans h.cP.output,zB h.cP.size K.size,λq hq hd=>(K.block q (zL hq h.cP.size) Oa).trans<|h.cP.block q hq hd⟩⟩
theorem EV (T:AU 0 0 w W):Ai w W:=⟨T.os,T.tape,T.output,T.size,λq hq=>T.block q hq<|.inr<|zE _⟩
end
theorem Aiz (m:Nat)(hm:m<=200)(w:jB):Calls jZ 28 #[V jd m] w λr w'=>Adx 90000 (λP s I=>P=[]/\s=0/\I=List.replicate m ⟨2,4⟩++[⟨25,0⟩]) w r w'/\Ai w w':=by
 obtain⟨y,z,A,B,C⟩:=info_parts Ml;have D:L5 w (jK (jK w<|jH #[Y U 0 0,V jd 0,Y U 0 0] 26)<|jH #[Y U 0 0,V jd 0,Y U 0 0] 26) 0 0 (R (Z w)+2) (R<|Z w) (R (Z w)+1) 0 [] [] (Y U 0 0) (Y U 0 0) []:=
  ⟨by simpa using Ag.new (jK w<|jH #[Y U 0 0,V jd 0,Y U 0 0] 26) #[Y U 0 0,V jd 0,Y U 0 0] 26,⟨rfl,H3,λj H=>H9 H Ox,λv hv=>H9 hv Ox⟩,H3,(Ag.new w #[Y U 0 0,V jd 0,Y U 0 0] 26).alloc _,AU.aH ((AE w _).alloc Ox _) NLN,⟨NLN,Oa,Oa,Oa,Ox⟩⟩
 go_enter func28,ntmps28
 go_wp2_with fail
 go_loopw [4] (λl wr=>∃ (i:Nat) (iv:jF),i<=m/\l=V jd i/\Hid (L5 w wr 0 0 (R (Z w)+2) (R<|Z w) (R (Z w)+1) 0 [] (List.replicate i ⟨2,4⟩) (Y U 0 0) iv [])) (λl _=>m-(RowKit.intOf l).toNat)
 case atStart=>exact⟨0,_,Oa,rfl,Ab D⟩
 case round=>
  obtain⟨i,iv,hi,rfl,E⟩:=hrel;have h:=Aa E;obtain⟨I,g⟩:∃I,I=List.replicate i (⟨2,4⟩:Be):=⟨_,rfl⟩
  rw[<-g]at h;have O:T I<=200:=by rw[g,List.length_replicate];omega
  have F:=Ab g;clear E g D;obtain⟨xi,ci,rfl,-⟩:=Ae h.aK;obtain⟨S,W,aa⟩:=At h.row;have ab:=h.lo.2.2.2.2;by_cases n:i<m
  .have ac:(i:Int)<(m:Int):=Oa;have G:=Ab n;clear n;go_wp2_with (at_builtin;refine G6 _ rfl _ _ 24 rfl (R (Z w)+2) 80 y (jM #[V jd 0,V jd 0]) 2 16 underlying24 z A B C rfl Ob (Y xi (T I) ci) (T I) (Cr I) rfl (G1 h.aK _) ⟨R<|Z wr,0,U⟩ 1 1 [V jd 2,V jd 4] rfl rfl (G4<|G8 wr<|jH #[V jd 2,V jd 4] 80) ?c1 Ob ?d1 ?e1 ?f1 (R (Z wr)+1) Ox ?_)
   case c1=>first|exact⟨rfl,rfl⟩|(intro u hu;simp at hu;obtain rfl|rfl:=hu<;>rfl)
   case d1=>unfold maxLen;omega
   case e1=>omega
   case f1=>first|omega|(simp;omega)
   intro g7 k w7 b c hat o;obtain⟨d,a,f⟩:=h.app 2 4 c b;have J:=λj=>a.frozen j;have ad:=a.cell 2;have K:=Ab d;clear b c hat o d a f h;go_wp2
   go_roundw
   case rel=>exact⟨i+1,_,Aa G,O1,Ab<|by rw[List.replicate_succ',<-Aa F];exact Aa K⟩
   case measure=>have:=Aa G;simp[RowKit.intOf];omega
  .have e:i=m:=Oa;subst e;clear n;go_wp2_with (at_builtin;refine G6 _ rfl _ _ 24 rfl (R (Z w)+2) 80 y (jM #[V jd 0,V jd 0]) 2 16 underlying24 z A B C rfl Ob (Y xi (T I) ci) (T I) (Cr I) rfl (G1 h.aK _) ⟨R<|Z wr,0,U⟩ 1 1 [V jd 25,V jd 0] rfl rfl (G4<|G8 wr<|jH #[V jd 25,V jd 0] 80) ?c2 Ob ?d2 ?e2 ?f2 (R (Z wr)+1) Ox ?_)
   case c2=>first|exact⟨rfl,rfl⟩|(intro u hu;simp at hu;obtain rfl|rfl:=hu<;>rfl)
   case d2=>unfold maxLen;omega
   case e2=>omega
   case f2=>first|omega|(simp;omega)
   intro g7 k w7 b c hat o;obtain⟨d,a,f⟩:=h.app 25 0 c b;have J:=λj=>a.frozen j;have ae:=λj=>f.frozen j;obtain⟨af,d1,d2⟩:=At a;obtain⟨e0,e1,e2⟩:=At f;have L:=Ab d;clear b c hat o d a f h;go_wp2_with fail
   have p:T (I++[(⟨25,0⟩:Be)])=T I+1:=Ox;have N:L5 w (jJ w7 ⟨R (Z w)+1,2,U⟩<|Y (Q<|jA g7 0 U) (T I+1) k) 0 0 (R (Z w)+2) (R<|Z w) (R (Z w)+1) 0 [] (I++[⟨25,0⟩]) (Y U (T ([]:M1)) 0) (Y (Q<|jA g7 0 U) (T<|I++[(⟨25,0⟩:Be)]) k) []:=by rw[p];exact Aa L
   obtain⟨⟨q,t,x⟩,a1,a2⟩:=N.cG (M:=90000) (X:=λP s I=>P=[]/\s=0/\I=List.replicate i ⟨2,4⟩++[⟨25,0⟩]) ⟨rfl,rfl,by rw[<-Aa F]⟩ (zE _) (by rw[p];omega) rfl;dsimp only[List.length_nil]at q t x a1 a2;rw[p]at q t x a1 a2;exact G2 (v:= jM #[Y U 0 0,V jd 0,Y (Q<|jA g7 0 U) (T I+1) k]) (by simp[results,results28,go_sem,q,t,x]) rfl ⟨a1,EV a2⟩
end Go.Proofs.YtnjpihpohilnjaaGreatDoor
