import Derived.Test.YtppafecmccdplaaGreatMXAF
import Derived.Lib.SmallJoins
open Option renaming none->T,some->Y
open Go.Value renaming int->U,slice->X,string->Q
open Go.IntKind renaming i64->V
open Go renaming World->Z,Value->jB,TypeId->jI
open Go.Proofs.Tryz renaming prog->jL
namespace Go.Proofs.YtppafecmccdplaaGreat
open Go.RowKit
set_option linter.unusedVariables false
variable {ty:Int}{O:List Int}{N:List Nd}{k l:List jB}{lo n c:Nat}{o:Oper}{a:Option Addr}{P:Program}{t:jI}{v v' d f:jB}{w w':Z}
theorem Mx {L:List Int}(h:w.ownsRow lo 3 1 (X a n c) n (Aw L))(b:L.length=n)(d:n<=1048576):Em w a n c L:=by
 refine⟨b,d,fun j f=>?_⟩;obtain⟨x,c',e,hx⟩:=Ae h;cases e;obtain⟨g,rfl,hg,hc⟩:=hx (by omega);refine⟨g,0,rfl,(h.lt g rfl).2,?_⟩;rw[zP];exact hc j _ (by rw[Aw,zk,zL f];rfl)
def En (L:List St):List jB:=L.flatMap fun s=> [U V s.kind,Q s.name,U V s.cond,U V s.grant]
theorem QH:∀(L:List St),(En L).length=L.length*4
 |[]=>rfl
 |s ::L=>by
  have:=QH L;rw[En,zm,zB];rw[En]at this;rw[this,List.length_cons];simp;omega
theorem UA:∀(L:List St) (j:Nat) (h:j<L.length),∀r,r<4->(En L)[j*4+r]? =([Value.int V L[j].kind,Q L[j].name,U V L[j].cond,U V L[j].grant]:List jB)[r]?
 |s ::L,0,_,r,hr=>by
  rw[En,zm,zw,zP,z2 (by simp;omega)];rfl
 |s ::L,j+1,h,r,hr=>by
  have a:=UA L j (by simpa using h) r hr;rw[En,zm,z8 (by simp;omega)];have e:(j+1)*4+r-([Value.int V s.kind,Q s.name,U V s.cond,U V s.grant]:List jB).length=j*4+r:=by simp;omega
  rw[e];rw[En]at a;rw[a];rfl
 |[],_,h,_,_=>absurd h (by simp)
theorem Du.nds (h:Du w lo (X a n c) N k l)(r:N.length=n)(hs:n<=1048576)(ok:∀x∈N,okN x/\x.text.size<=1048576):IY w a n c N:=by
 refine⟨r,hs,fun x hx=>(ok x hx).2,fun j b=>?_⟩;have m:j<k.length:=by rw[h.len];exact b
 have o:j<l.length:=by rw[h.lenk];exact b
 have d:=YB N k l j b m o;have s:=d 0 (by decide);have t:=d 1 (by decide);have u:=d 2 (by decide);have p:=d 3 (by decide);have q:=d 4 (by decide);simp only[nd5,ze,z4,z1]at s t u p q;obtain⟨g,A⟩:∃g,a=Y ⟨g,0,T⟩:=by
  rcases h.own.2 with⟨_,h0⟩|⟨g,cap,E,hv,_⟩
  ·omega
  ·simp only[Value.slice.injEq]at hv;exact⟨g,hv.1⟩
 subst A;subst r;have f:∀i,i<5->w.cell? ⟨g,0+j*5+i,T⟩=(XA N k l)[j*5+i]? :=fun i hi=>by
  rw[zP];exact h.own.cellAt (g:=g) (n:=N.length) (j*5+i) (by omega)
 obtain⟨an,cn,hu⟩:=Au (h.names j b m);obtain⟨B,C,D⟩:=Au (h.kids j b o);have v:=h.names j b m;have y:=h.kids j b o;rw[hu]at p v;rw[D]at q y;have z:=ok _ (zH b);refine⟨g,0,rfl,(h.own.lt g rfl).2,an,_,cn,B,_,C,(f 0 (by omega)).trans s,(f 1 (by omega)).trans t,(f 2 (by omega)).trans u,(f 3 (by omega)).trans p,(f 4 (by omega)).trans q,AJ.of_owns v (fun i hi=>?_),Mx y rfl z.1.2.1⟩;rw[BM _ i hi];exact z.1.2.2 _ (zH hi)
theorem FT {L:List St}(h:w.ownsRow lo 93 4 (X a n c) n (En L))(l:L.length=n)(m:n<=1048576)(ok:∀s∈L,s.name.size<=1048576):Ss w a n c L:=by
 refine⟨l,m,ok,fun j o=>?_⟩;have b:=UA L j o;have d:=b 0 (by decide);have f:=b 1 (by decide);have i:=b 2 (by decide);have k:=b 3 (by decide);simp only[ze,z4,z1]at d f i k;obtain⟨x,c',e,hx⟩:=Ae h;cases e;obtain⟨g,rfl,hg,hc⟩:=hx (by omega);refine⟨g,0,rfl,(h.lt g rfl).2,?_,?_,?_,?_⟩
 ·rw[zP];exact hc _ _ d
 ·rw[zP];exact hc _ _ f
 ·rw[zP];exact hc _ _ i
 ·rw[zP];exact hc _ _ k
def Ln (k:Nat):ByteArray:= [⟨#[108,101,118,101,108]⟩,⟨#[110,111,119]⟩,⟨#[99,108,105,101,110,116]⟩,⟨#[117,115,101,114]⟩,⟨#[97,115,107,101,100]⟩,⟨#[97,103,114,101,101,100]⟩].getD k ⟨#[]⟩
def Gr (L:List (ByteArray×Int)) (ty x:Int):Nat->Option ByteArray
 |0=>T
 |i+1=>if (L.getD i (⟨#[]⟩,0)).2=ty/\((i:Int)+x) % 2=0 then Y (L.getD i (⟨#[]⟩,0)).1 else Gr L ty x i
def Aaq (zs:List Int):Nat->Nat->Int->Int×Nat
 |0,p,v=>(v,p)
 |k+1,p,v=>Aaq zs k (nx zs p).2 (bits .or V (wrap64 (v*256)) (nx zs p).1)
def PY (zs:List Int) (x:Int) (p:Nat):Int×Nat:=
 if x % 8=0 then (9223372036854775807-x / 8 % 3,p)
 else if x % 8=1 then (-9223372036854775808+x / 8 % 3,p)
 else if x % 8=2 then (x / 8 % 3,p)
 else if x % 8=3 then (-(x / 8 % 3),p)
 else if x % 8=4 then ((nx zs p).1*16777216+(nx zs (nx zs p).2).1,(nx zs (nx zs p).2).2)
 else if x % 8=5 then Aaq zs 8 p 0
 else if x % 8=6 then (3037000499+x / 8 % 3,p)
 else (x-128,p)
def Sw (zs:List Int) (p:Nat):Int×Nat:=PY zs (nx zs p).1 (nx zs p).2
def AeW (y:Int):Int:=if y<0 then -(y+1)else y
def Pv (zs:List Int) (L:List (ByteArray×Int)) (ty x:Int) (p:Nat) (y:Nd) (q:Nat):Prop:=
 if x % 3=2/\(Gr L ty x L.length).isSome=true then Y y.text=Gr L ty x L.length/\y=⟨5,0,y.text,[],[]⟩/\q=p
 else if x % 3=1/\ty≠1 then y=⟨5,0,Ln ((ty-2)*2+x / 3 % 2).toNat,[],[]⟩/\q=p
 else if ty=1 then y=⟨3,x / 3 % 2,⟨#[]⟩,[],[]⟩/\q=p
 else if ty=3 then (if 250<x then y=⟨2,0,⟨#[]⟩,[],[]⟩/\q=p else y=⟨2,0,(Hb zs p).1,[],[]⟩/\q=(Hb zs p).2)
 else if ty=4 then y=⟨4,0,⟨#[]⟩,y.names,[]⟩/\XC zs p y.names q
 else if 220<x then y=⟨1,AeW (Sw zs p).1,⟨#[]⟩,[],[]⟩/\q=(Sw zs p).2
 else y=⟨1,x / 3 % 6,⟨#[]⟩,[],[]⟩/\q=p
theorem Pv.unique {zs:List Int}{L:List (ByteArray×Int)}{ty x:Int}{p q b:Nat}{y a:Nd}(h:Pv zs L ty x p y q)(h':Pv zs L ty x p a b):y=a/\q=b:=by
 unfold Pv at h h';split at h
 ·rename_i c;rw[if_pos c]at h';have e:y.text=a.text:=Option.some.inj (h.1.trans h'.1.symm);exact⟨by rw[h.2.1,h'.2.1,e],by rw[h.2.2,h'.2.2]⟩
 ·rename_i c;rw[if_neg c]at h';split at h
  ·rename_i c;rw[if_pos c]at h';exact⟨by rw[h.1,h'.1],by rw[h.2,h'.2]⟩
  ·rename_i c;rw[if_neg c]at h';split at h
   ·rename_i c;rw[if_pos c]at h';exact⟨by rw[h.1,h'.1],by rw[h.2,h'.2]⟩
   ·rename_i c;rw[if_neg c]at h';split at h
    ·rename_i c;rw[if_pos c]at h';split at h
     ·rename_i c;rw[if_pos c]at h';exact⟨by rw[h.1,h'.1],by rw[h.2,h'.2]⟩
     ·rename_i c;rw[if_neg c]at h';exact⟨by rw[h.1,h'.1],by rw[h.2,h'.2]⟩
    ·rename_i c;rw[if_neg c]at h';split at h
     ·rename_i c;rw[if_pos c]at h';obtain⟨e1,e2⟩:=h.2.unique h'.2;exact⟨by rw[h.1,h'.1,e1],e2⟩
     ·rename_i c;rw[if_neg c]at h';split at h
      ·rename_i c;rw[if_pos c]at h';exact⟨by rw[h.1,h'.1],by rw[h.2,h'.2]⟩
      ·rename_i c;rw[if_neg c]at h';exact⟨by rw[h.1,h'.1],by rw[h.2,h'.2]⟩
def CU (zs:List Int) (L:List (ByteArray×Int)) (ty:Int) (p:Nat) (N:List Nd) (q:Nat) (N':List Nd):Prop:=∃y,Pv zs L ty (nx zs p).1 (nx zs p).2 y q/\N'=N++[y]
theorem CU.unique {zs:List Int}{L:List (ByteArray×Int)}{ty:Int}{p q a:Nat}{N M b:List Nd}(h:CU zs L ty p N q M)(h':CU zs L ty p N a b):q=a/\M=b:=by
 obtain⟨y,h1,rfl⟩:=h;obtain⟨d,c,rfl⟩:=h';obtain⟨rfl,rfl⟩:=h1.unique c;exact⟨rfl,rfl⟩
def opN (op:Int) (ks:List Int):Nd:=⟨op,0,⟨#[]⟩,[],ks⟩
def Fn (N:List Nd):Int:=(N.length:Int)-1
def J9 (ty x:Int):Option (Int×Int×Option Int):=
 if ty=1 then
  if x / 8 % 8=0\/x / 8 % 8=1 then Y (25+x / 8 / 8 % 2,ty,Y ty)
  else if x / 8 % 8=2 then Y (26,ty,Y ty)
  else if x / 8 % 8=3 then Y (9,ty,T)
  else if x / 8 % 8=4 then Y (23,3,Y 4)
  else if x / 8 % 8=5 then Y (24,4,Y 4)
  else if x / 8 % 8=6 then Y (21+x / 8 / 8 % 2,2,Y 2)
  else Y (19+x % 2,1+x / 8 / 8,Y (1+x / 8 / 8))
 else if ty=2 then
  if x / 8 % 8=6 then Y (10,4,T)
  else if x / 8 % 8=7 then Y (8,ty,T)
  else Y (11+x / 8 % 5,ty,Y ty)
 else if ty=4 then Y (16+x / 8 % 3,ty,Y ty)
 else T
abbrev Drw:=Int->Nat->List Nd->Nat->List Nd->Prop
def TI (Lf E:Drw) (ty x:Int) (p:Nat) (N:List Nd) (q:Nat) (N':List Nd):Prop:=
 if x % 8=7 then ∃q1 N1 q2 N2 N3,E 1 p N q1 N1/\E ty q1 N1 q2 N2/\E ty q2 N2 q N3/\N'=N3++[opN 27 [Fn N1,Fn N2,Fn N3]]
 else if x % 8<2 then Lf ty p N q N'
 else match J9 ty x with
  |none=>Lf ty p N q N'
  |some (op,t1,T)=>∃N1,E t1 p N q N1/\N'=N1++[opN op [Fn N1]]
  |some (op,t1,Y t2)=>∃q1 N1 N2,E t1 p N q1 N1/\E t2 q1 N1 q N2/\N'=N2++[opN op [Fn N1,Fn N2]]
def Ng (zs:List Int) (L:List (ByteArray×Int)) (wild:Bool):Nat->Drw
 |0=>CU zs L
 |d+1=>fun ty p N q N'=>if zs.length<=p\/300<N.length then CU zs L ty p N q N'
   else TI (CU zs L) (Ng zs L wild d) (if wild=true/\(nx zs p).1=201 then 1+ty % 4 else ty) (nx zs p).1 (nx zs p).2 N q N'
def Uni (E:Drw):Prop:=∀(ty:Int) (p q q':Nat) (N M M':List Nd),E ty p N q M->E ty p N q' M'->q=q'/\M=M'
theorem TI.unique {b E:Drw}(d:Uni b)(a:Uni E){x:Int}{p q f:Nat}{M g:List Nd}(h:TI b E ty x p N q M)(h':TI b E ty x p N f g):q=f/\M=g:=by
 unfold TI at h h';split at h
 ·rename_i c;rw[if_pos c]at h';obtain⟨k,i,r,l,t,a1,a2,a3,rfl⟩:=h;obtain⟨m,j,u,n,v,b1,b2,b3,rfl⟩:=h';obtain⟨rfl,rfl⟩:=a _ _ _ _ _ _ _ a1 b1;obtain⟨rfl,rfl⟩:=a _ _ _ _ _ _ _ a2 b2;obtain⟨rfl,rfl⟩:=a _ _ _ _ _ _ _ a3 b3;exact⟨rfl,rfl⟩
 ·rename_i c;rw[if_neg c]at h';split at h
  ·rename_i c;rw[if_pos c]at h';exact d _ _ _ _ _ _ _ h h'
  ·rename_i c;rw[if_neg c]at h';cases hs:J9 ty x with
   |none=>rw[hs]at h h';exact d _ _ _ _ _ _ _ h h'
   |some s=>
    obtain⟨op,w,o⟩:=s;rw[hs]at h h';cases o with
    |none=>
     obtain⟨i,a1,rfl⟩:=h;obtain⟨j,b1,rfl⟩:=h';obtain⟨rfl,rfl⟩:=a _ _ _ _ _ _ _ a1 b1;exact⟨rfl,rfl⟩
    |some y=>
     obtain⟨k,i,l,a1,a2,rfl⟩:=h;obtain⟨m,j,n,b1,b2,rfl⟩:=h';obtain⟨rfl,rfl⟩:=a _ _ _ _ _ _ _ a1 b1;obtain⟨rfl,rfl⟩:=a _ _ _ _ _ _ _ a2 b2;exact⟨rfl,rfl⟩
theorem Ng.unique (zs:List Int)(L:List (ByteArray×Int))(wild:Bool):∀d,Uni (Ng zs L wild d)
 |0=>fun _ _ _ _ _ _ _ h h'=>CU.unique h h'
 |d+1=>fun _ _ _ _ _ _ _ h h'=>by
  unfold Ng at h h';split at h
  ·rename_i c;rw[if_pos c]at h';exact h.unique h'
  ·rename_i c;rw[if_neg c]at h';exact TI.unique (fun _ _ _ _ _ _ _ a b=>CU.unique a b) (Ng.unique zs L wild d) h h'
def DpX (zs:List Int) (L:List (ByteArray×Int)):Nat->Nat->List Nd->Nat->List Nd->Prop
 |0,p,N,q,N'=>False
 |1,p,N,q,N'=>CU zs L 1 p N q N'
 |k+2,p,N,q,N'=>∃N1,DpX zs L (k+1) p N q N1/\N'=N1++[opN 9 [Fn N1]]
theorem DpX.unique {zs:List Int}{L:List (ByteArray×Int)} :∀{k p q a:Nat} {N M b:List Nd},DpX zs L k p N q M->DpX zs L k p N a b->q=a/\M=b
 |0,_,_,_,_,_,_,h,_=>by cases h
 |1,_,_,_,_,_,_,h,h'=>CU.unique h h'
 |k+2,_,_,_,_,_,_,h,h'=>by
  obtain⟨c,a1,rfl⟩:=h;obtain⟨d,b1,rfl⟩:=h';obtain⟨rfl,rfl⟩:=DpX.unique a1 b1;exact⟨rfl,rfl⟩
def AeO (w:Z) (b o:Nat) (x:Vl):Prop:=∃an nn cn,w.cell? ⟨b,o,T⟩=Y (U V x.kind)/\w.cell? ⟨b,o+1,T⟩=Y (U V x.num)/\w.cell? ⟨b,o+2,T⟩=Y (Q x.text)/\w.cell? ⟨b,o+3,T⟩=Y (X an nn cn)/\AJ w an nn cn x.names
structure Vls (w:Z) (a:Option Addr) (n c:Nat) (L:List Vl):Prop where
 len:L.length=n
 small:n<=1048576
 sizes:∀x∈L,x.text.size<=1048576
 cells:∀j,(h:j<L.length)->∃b off,a=Y ⟨b,off,T⟩/\b<w.heap.size/\AeO w b (off+j*4) L[j]
structure Iss (w:Z) (a:Option Addr) (n c:Nat) (L:List Cg):Prop where
 len:L.length=n
 small:n<=1048576
 cells:∀j,(h:j<L.length)->∃b off,a=Y ⟨b,off,T⟩/\b<w.heap.size/\w.cell? ⟨b,off+j*2,T⟩=Y (U V L[j].op)/\w.cell? ⟨b,off+j*2+1,T⟩=Y (U V L[j].arg)
theorem AeO.below {w w':Z}{B b o:Nat}{x:Vl}(h:AeO w b o x)(g:b<w.heap.size)(a:Below B w w')(d:w.heap.size<=B):AeO w' b o x:=by
 obtain⟨an,nn,cn,c0,c1,c2,c3,f⟩:=h;have c:b<B:=by omega
 exact⟨an,nn,cn,(a.cell (p:=⟨b,o,T⟩) c).trans c0,(a.cell (p:=⟨b,o+1,T⟩) c).trans c1,(a.cell (p:=⟨b,o+2,T⟩) c).trans c2,(a.cell (p:=⟨b,o+3,T⟩) c).trans c3,f.below a d⟩
theorem Vls.below {w w':Z}{B:Nat}{a:Option Addr}{n c:Nat}{L:List Vl}(h:Vls w a n c L)(d:Below B w w')(g:w.heap.size<=B):Vls w' a n c L:=
 ⟨h.len,h.small,h.sizes,fun j i=>by
  obtain⟨b,k,l,f,hc⟩:=h.cells j i;exact⟨b,k,l,zR f d.size,hc.below f d g⟩⟩
theorem Iss.below {B:Nat}{L:List Cg}(h:Iss w a n c L)(d:Below B w w')(m:w.heap.size<=B):Iss w' a n c L:=
 ⟨h.len,h.small,fun j i=>by
  obtain⟨b,f,k,l,c0,c1⟩:=h.cells j i;have g:b<B:=by omega
  exact⟨b,f,k,zR l d.size,(d.cell (p:=⟨b,f+j*2,T⟩) g).trans c0,(d.cell (p:=⟨b,f+j*2+1,T⟩) g).trans c1⟩⟩
theorem Mm:(jL.info? 5).map (fun i=>(i.zero,i.size,i.bytes))=Y (Y (U .u8 0),1,1):=by kernel_rfl
theorem Yc (y:Int):IntKind.u8.wrap y=y % 256:=by simp[IntKind.wrap,IntKind.bits,IntKind.signed]
theorem LA {B:Nat}{x:Int}(h:w.ownsRow B 5 1 v (O.length+1) (AA O++[U .u8 x])):w.ownsRow B 5 1 v (O++[x]).length (AA (O++[x])):=by
 rw[zB,zg,AA,zl];exact h
section
open Go.RowKit Go.Lib
theorem V8 (s:ByteArray):strCells s=AA (KM s):=by
 simp[strCells,AA,KM]
theorem KY (base:Nat)(t u ty e:jI)(i:TypeInfo)(d:P.underlying t=Y (.slice e))(hu:P.underlying u=Y .string)(hi:P.info? e=Y i)(k:i.zero=Y (U .u8 0))
  (l:i.size=1)(m:i.bytes=1)(v:jB)(n:Nat)(c:List jB)(f:w.ownsRow base e 1 v n c)(s:ByteArray)
  (o:n+s.size<=maxLen)(r:n+s.size<=140737488355328)(x:base<=w.heap.size):
  ∃v' w',(Builtin.append_ #[t,u] ty #[v,Q s]).run P w= .ok v' w'/\w'.ownsRow base e 1 v' (n+s.size) (c++strCells s)/\w.grownBy w' v.ownBlock/\∀q,v'.ownBlock=Y q->v.ownBlock=Y q\/q=w.heap.size:=by
 obtain⟨v',w',h,y,z,A⟩:=run_append_own_string (P:=P) w base t u ty e i d hu hi k l m v n c f s o r x;refine⟨v',w',h,y,z,fun q b=>?_⟩;have F:n+s.size<=9223372036854775807:=by simp only[maxLen]at o;omega
 have B:c.length=n:=by simpa using f.1
 rcases f.2 with⟨rfl,rfl⟩|⟨g,cap,p,rfl,G,hg,H,I,C,J⟩
 ·by_cases hm:s.size=0
  ·rw[A.2 ⟨rfl,hm⟩]at b;cases b
  ·have a:=run_append_nil_string (P:=P) w t u ty e i (U .u8 0) d hu hi k s (by omega) (by omega) (by rw[m];omega);rw[h]at a;injection a with e1 e2;subst e1;simp[Value.ownBlock]at b;exact .inr b.symm
 ·by_cases D:n+s.size<=cap
  ·have a:=run_append_room_string (P:=P) w t u ty e i d hu hi l g n cap p hg s D (by have K:p.size=cap:=(by simpa using C);omega);rw[h]at a;injection a with e1 e2;subst e1;exact .inl b
  ·have E:∀j u,c[j]? =Y u->w.cell? ((⟨g,0,T⟩:Addr).add j)=Y u:=f.cells (g:=g) rfl;have a:=run_append_grow_string (P:=P) w t u ty e i (U .u8 0) d hu hi k ⟨g,0,T⟩ n cap c (by rw[l];simpa using B) E s (by omega) (by omega) (by rw[m];exact growslice_fits (by omega) (by omega));rw[h]at a;injection a with e1 e2;subst e1;simp[Value.ownBlock]at b;exact .inr b.symm
theorem LD {a:Act}{K:Act->Z->Prop}{Q:Exit->Act->Z->Prop}(sl x:Operand)(t u:jI)
  (c:o.op= .call { callee:= .builtin .append,args:=#[sl,x],argTypes:=#[t,u] })
  (base:Nat)(e:jI)(i:TypeInfo)(d:P.underlying t=Y (.slice e))(hu:P.underlying u=Y .string)(hi:P.info? e=Y i)(f:i.zero=Y (U .u8 0))
  (g:i.size=1)(j:i.bytes=1)
  (v:jB)(n:Nat)(b:List jB)(hs:a.eval sl=v)(k:w.ownsRow base e 1 v n b)(s:ByteArray)(hx:a.eval x= .string s)
  (l:n+s.size<=maxLen)(m:n+s.size<=140737488355328)(p:base<=w.heap.size)
  (h:∀v' w',w'.ownsRow base e 1 v' (n+s.size) (b++strCells s)->w.grownBy w' v.ownBlock->(∀q,v'.ownBlock=Y q->v.ownBlock=Y q\/q=w.heap.size)->K (a.put o.dst v') w'):o.wp P a w K Q:=by
 obtain⟨v',w',r,y,z,A⟩:=KY (P:=P) base t u o.type e i d hu hi f g j v n b k s l m p;unfold Oper.wp execOp;simp only[c,resolve,invoke,builtin,Sem.run_bind,Sem.run_pure,Result.andThen_ok,List.map_toArray,List.map_cons,List.map_nil,hs,hx,r];exact h v' w' y z A
theorem Di {ops:Array Oper}{rest:List Oper}{a:Act}{Q:Exit->Act->Z->Prop}(c:o.guard=T)(sl x:Operand)(t u:jI)
  (d:o.op= .call { callee:= .builtin .append,args:=#[sl,x],argTypes:=#[t,u] })
  (base:Nat)(e:jI)(i:TypeInfo)(f:P.underlying t=Y (.slice e))(hu:P.underlying u=Y .string)(hi:P.info? e=Y i)(g:i.zero=Y (U .u8 0))
  (j:i.size=1)(k:i.bytes=1)
  (v:jB)(n:Nat)(b:List jB)(hs:a.eval sl=v)(l:w.ownsRow base e 1 v n b)(s:ByteArray)(hx:a.eval x= .string s)
  (m:n+s.size<=maxLen)(p:n+s.size<=140737488355328)(r:base<=w.heap.size)
  (h:∀v' w',w'.ownsRow base e 1 v' (n+s.size) (b++strCells s)->w.grownBy w' v.ownBlock->(∀q,v'.ownBlock=Y q->v.ownBlock=Y q\/q=w.heap.size)->wpList P ops Q rest (a.put o.dst v') w'):wpList P ops Q (o ::rest) a w:=
 wpList_plain c fun _ y=>LD sl x t u d base e i f hu hi g j k v n b hs l s hx m p r fun v' w' z A B=>y _ _ (h v' w' z A B)
theorem Ty {B:Nat}{s:ByteArray}(h:w.ownsRow B 5 1 v (O.length+s.size) (AA O++strCells s)):w.ownsRow B 5 1 v (O++KM s).length (AA (O++KM s)):=by
 rw[zB,IB,AA,zl];rw[V8]at h;exact h
theorem Ff {a:Type}(f:a->List Int)(L:List a)(k:Nat)(h:k<L.length):(L.take (k+1)).flatMap f=(L.take k).flatMap f++f L[k]:=by
 rw[zc h,Z3];simp
theorem QK {a:Type}(f:a->List Int)(m:Nat):∀(L:List a),(∀x∈L,(f x).length<=m)->(L.flatMap f).length<=m*L.length
 |[],_=>by simp
 |x ::L,h=>by
  have h1:=QK f m L (fun y hy=>h y (za _ hy));have b:=h x (zS ..);rw[zm,zB,List.length_cons,Nat.mul_succ];omega
theorem Ao {b:Nat}{a c:jB}(R:Ah w b #[a,c,d] t):w.cell? ⟨b,0,T⟩=Y a/\w.cell? ⟨b,1,T⟩=Y c/\w.cell? ⟨b,2,T⟩=Y d:=
 ⟨by simpa using R.cell 0,by simpa using R.cell 1,by simpa using R.cell 2⟩
theorem AcK (i:Cg):(I9 i).length=3:=by rw[I9,zB,AZ,AZ]
theorem Aj {base base':Nat}{e:jI}{size:Nat}{n:Nat}{a:List jB}(h:w.ownsRow base e size v n a)(i:base'<=base):w.ownsRow base' e size v n a:=by
 refine⟨h.1,?_⟩;rcases h.2 with b|⟨g,cap,c,hv,h1,d,f⟩
 ·exact .inl b
 ·exact .inr ⟨g,cap,c,hv,by omega,d,f⟩
end
def Ed:Ex->Nd
 |.int _ n=>⟨1,n,⟨#[]⟩,[],[]⟩
 |.text _ s=>⟨2,0,s,[],[]⟩
 |.bool _ b=>⟨3,if b then 1 else 0,⟨#[]⟩,[],[]⟩
 |.set _ _ _ _ ss=>⟨4,0,⟨#[]⟩,ss,[]⟩
 |.name _ s=>⟨5,0,s,[],[]⟩
 |.attr _ n=>⟨6,n,⟨#[]⟩,[],[]⟩
 |.lett _ n=>⟨7,n,⟨#[]⟩,[],[]⟩
 |.un _ op _=>⟨op,0,⟨#[]⟩,[],[]⟩
 |.bin _ op _ _=>⟨op,0,⟨#[]⟩,[],[]⟩
 |.ite .. =>⟨27,0,⟨#[]⟩,[],[]⟩
theorem DM {b:Nat}{a c g:jB}(R:Ah w b #[a,c,d,f,g] t):w.cell? ⟨b,0,T⟩=Y a/\w.cell? ⟨b,1,T⟩=Y c/\w.cell? ⟨b,2,T⟩=Y d/\w.cell? ⟨b,3,T⟩=Y f/\w.cell? ⟨b,4,T⟩=Y g:=⟨R.cell 0,R.cell 1,R.cell 2,R.cell 3,R.cell 4⟩
theorem Du.snoc {l w2:Z}{u k:jB}{b c:List jB}{x:Nd}(h:Du l lo v N b c)
  (hu:l.ownsRow lo 9 1 u x.names.length (x.names.map Value.string))(hk:l.ownsRow lo 3 1 k x.kids.length (Aw x.kids))(z:∀j,(f:j<b.length)->∀q,b[j].ownBlock=Y q->u.ownBlock≠Y q)(A:∀j,(f:j<c.length)->∀q,c[j].ownBlock=Y q->k.ownBlock≠Y q)
  (B:w2.ownsRow lo 134 5 v' (N.length+1) (XA N b c++nd5 x u k))(hg:l.grownBy w2 v.ownBlock):Du w2 lo v' (N++[x]) (b++[u]) (c++[k]):=by
 have r:=h.len;have s:=h.lenk;have t:∀{n:Nat} {y:jB} {m:List jB},l.ownsRow lo 9 1 y n m->w2.ownsRow lo 9 1 y n m:=fun o=>Ad o (fun q a=>hg.block q (o.lt q a).2 (fun e=>Ak o h.own (by decide) q a e.symm));have w:∀{n:Nat} {y:jB} {m:List jB},l.ownsRow lo 3 1 y n m->w2.ownsRow lo 3 1 y n m:=fun o=>Ad o (fun q a=>hg.block q (o.lt q a).2 (fun e=>Ak o h.own (by decide) q a e.symm));refine⟨by simp[r],by simp[s],by rw[zB,zg,Wx _ _ _ _ _ _ r s];exact B,fun j f p=>?_,fun j f p=>?_,fun i j g f q a=>?_,fun i j g f q a=>?_⟩
 ·by_cases d:j<b.length
  ·have a1:(b++[u])[j]=b[j]:=zi d;have a2:(N++[x])[j]=N[j]'(by omega):=zi (by omega);rw[a1,a2];exact t (h.names j (by omega) d)
  ·have e:j=b.length:=by simp at p;omega
   subst e;have a1:(b++[u])[b.length]'p=u:=by simp
   have a2:(N++[x])[b.length]'f=x:=by simp[r]
   rw[a1,a2];exact t hu
 ·by_cases d:j<c.length
  ·have a1:(c++[k])[j]=c[j]:=zi d;have a2:(N++[x])[j]=N[j]'(by omega):=zi (by omega);rw[a1,a2];exact w (h.kids j (by omega) d)
  ·have e:j=c.length:=by simp at p;omega
   subst e;have a1:(c++[k])[c.length]'p=k:=by simp
   have a2:(N++[x])[c.length]'f=x:=by simp[s]
   rw[a1,a2];exact w hk
 ·by_cases d:j<b.length
  ·rw[zi d];rw[zi (by omega)]at a;exact h.apart i j g d q a
  ·have e:j=b.length:=by simp at f;omega
   subst e;rw[zi g]at a;simp;exact z i g q a
 ·by_cases d:j<c.length
  ·rw[zi d];rw[zi (by omega)]at a;exact h.apartk i j g d q a
  ·have e:j=c.length:=by simp at f;omega
   subst e;rw[zi g]at a;simp;exact A i g q a
theorem BJ {a b:Z}{o:Obj}{row:Option Nat}(hg:(a.alloc o).grownBy b row):∀q,q<a.heap.size->row≠Y q->b.heap[q]? =a.heap[q]? :=fun q h1 c=>(hg.block q (by simp;omega) (fun e=>c e.symm)).trans (Below.heap_alloc a o q h1)
def Eg:Ex->Nat->List Nd
 |.un i op k,b=>Eg k b++[⟨op,0,⟨#[]⟩,[],[((b+k.cnt-1 :Nat):Int)]⟩]
 |.bin i op l r,b=>Eg l b++Eg r (b+l.cnt)++[⟨op,0,⟨#[]⟩,[],[((b+l.cnt-1 :Nat):Int),((b+l.cnt+r.cnt-1 :Nat):Int)]⟩]
 |.ite i c t e,b=>Eg c b++Eg t (b+c.cnt)++Eg e (b+c.cnt+t.cnt)++[⟨27,0,⟨#[]⟩,[],[((b+c.cnt-1 :Nat):Int),((b+c.cnt+t.cnt-1 :Nat):Int),((b+c.cnt+t.cnt+e.cnt-1 :Nat):Int)]⟩]
 |e,_=> [Ed e]
theorem Ym:(jL.info? 134).map (fun i=>(i.zero,i.size,i.bytes))=Y (Y (.agg #[U V 0,U V 0,Q ByteArray.empty,X T 0 0,X T 0 0]),5,80):=by kernel_rfl
theorem AfY (w:Z):An w w.drew:=⟨rfl,rfl,rfl,NLN,fun _ _=>rfl⟩
end Go.Proofs.YtppafecmccdplaaGreat
