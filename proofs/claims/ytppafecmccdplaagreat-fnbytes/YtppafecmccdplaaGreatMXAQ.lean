import Derived.Test.YtppafecmccdplaaGreatBTF
import Derived.Test.YtppafecmccdplaaGreatMXAW
import Derived.Test.YtppafecmccdplaaGreatBTN
import Derived.Test.YtppafecmccdplaaGreatCPI
open Go.Proofs.Tryz
open Option renaming none->T,some->Y
open Go.Value renaming int->U,slice->X,agg->jE,pointer->jH
open Go.IntKind renaming i64->V
open Go renaming World->Z,Value->jB,Addr->jD
open Go.Obj renaming cells->jC
open Go.Proofs.Tryz renaming prog->jL
namespace Go.Proofs.YtppafecmccdplaaGreat
open Go.RowKit
set_option linter.unusedVariables false
set_option maxRecDepth 100000
set_option maxHeartbeats 12800000
variable {I:List Cg}{A:List Int}{N:List Nd}{L:List St}{h:List jB}{P:List Vl}{i lo lo' cx:Nat}{x y:Option jD}{j:jB}{b d:Z}
section
def WiX (zs:List Int) (p:Nat) (P:List Vl) (k:Int) (I:List Cg):Prop:=
 ∃s,Mf (Hj zs ((nx zs p).1 % 4).toNat 3) zs ((nx zs p).1 % 4).toNat 0 0 40 ⟨(nx zs p).2,[],[],[],List.replicate ((nx zs p).1 % 4).toNat 0⟩ s/\k=(nx zs p).1 % 4/\P=s.P/\
  I=s.I++(if 0<(nx zs s.p).1 % 3 then [⟨2,4+(nx zs (nx zs s.p).2).1 % 2⟩,⟨25,0⟩]else [⟨24,0⟩])
section
variable {w w' : Z} {B R gb : Nat} {a : Option jD} {n c : Nat} {zs : List Int} {k : Nat} {s : Gs} {pv iv sv lv : jB} {nv : List jB}
theorem XH (z:jB)(n:Nat):madeCells #[z] n=(List.replicate n z).toArray:=by
 apply Array.ext
 ·rw[size_madeCells];simp
 ·intro i h1 a;simp[madeCells,Nat.mod_one]
theorem Aam (S:Nat)(h:S<=600)(w':Z):(Instr.makeSlice 67 (U V (S:Int)) (U V (S:Int))).run jL w'= .ok (X (Y ⟨w'.heap.size,0,T⟩) S S) (w'.alloc (jC (List.replicate S (U V 0)).toArray 3)):=by
 obtain⟨i,hi,b,a,c⟩:=info_parts Mi;have q:=run_makeSlice (P:=jL) w' 67 3 i _ underlying67 hi b V V (S:Int) (S:Int) (by omega) (zq _) (by rw[a,zb];omega) (by rw[c];omega) (by omega);rw[zb,a,Nat.mul_one]at q;rw[<-XH];exact q
theorem Vd (hk:k<=3):∀d,d<=3->AbS B R gb a n c zs k d
 |0,_=>Y5 hk 0 (by omega) (fun h=>absurd h (by omega))
 |d+1,h=>Y5 hk (d+1) h (fun _=>Aal d (by omega) (Vd hk d (by omega)))
theorem Af2 {p:Nat}(ag:KL w R a n c zs p):Calls jL 29 #[jH (Y ⟨R,0,T⟩)] w fun r w'=>AbU 90000 (WiX zs p) w r w'/\Al R (R+1) w w':=by
 have s:=ag.lt;have E:=(AN w (jC #[X T 0 0,U V 0,X T 0 0] 26)).alloc (by simp) (jC #[jH (Y ⟨R,0,T⟩),X T 0 0,U V 0,X T 0 0,X T 0 0,X T 0 0] 117);have h0:=ag.after E s;go_enter func29,ntmps29
 go_wp2_with fail
 have RO:=(Ah.new w #[X T 0 0,U V 0,X T 0 0] 26).alloc (jC #[jH (Y ⟨R,0,T⟩),X T 0 0,U V 0,X T 0 0,X T 0 0,X T 0 0] 117);have g:=Ah.new (w.alloc (jC #[X T 0 0,U V 0,X T 0 0] 26)) #[jH (Y ⟨R,0,T⟩),X T 0 0,U V 0,X T 0 0,X T 0 0,X T 0 0] 117;simp only[World.size_alloc]at g;generalize (w.alloc (jC #[X T 0 0,U V 0,X T 0 0] 26)).alloc (jC #[jH (Y ⟨R,0,T⟩),X T 0 0,U V 0,X T 0 0,X T 0 0,X T 0 0] 117)=aw at E h0 RO g|-;obtain⟨b,K⟩:∃b,b=w.heap.size:=⟨_,rfl⟩
 rw[<-K]at RO g s|-;have L:=Ab K;clear K;refine(BH R a n c zs p aw h0).mono ?_;rintro r d ⟨x,M,rfl,ah,aW,aX,h1,F⟩;replace RO:=RO.touchR F s;replace g:=g.touchR F (by omega);obtain⟨k,hk⟩:∃k:Nat,x % 4=(k:Int):=⟨(x % 4).toNat,by omega⟩
 have ax:k<=3:=by omega
 have f2:=g.frozen 2;have ay:=g.frozen 5;have az:d.cell? ⟨b+1,2,T⟩=Y (U V 0):=g.cell 2;have aA:d.cell? ⟨b+1,5,T⟩=Y (X T 0 0):=g.cell 5;have ai:=Ab hk;have mk:=fun w'=>Aam k (by omega) w';have aB:=g.lt;dsimp only;go_wp2_with fail
 have N:GS (b+2) R (b+1) a n c zs k ⟨M,[],[],[],List.replicate k 0⟩ (((d.setCell ⟨b+1,2,T⟩ (U V k)).setCell ⟨b+1,5,T⟩ (X (Y ⟨d.heap.size,0,T⟩) k k)).alloc (jC (Array.replicate k (U V 0)) 3)):=by
  refine⟨X T 0 0,X T 0 0,X T 0 0,X (Y ⟨d.heap.size,0,T⟩) k k,[],h1.after (B:=R+1) ((((Below.refl (R+1) d).setCell (p:=⟨b+1,2,T⟩) (by show R+1<=b+1;omega) _).setCell (p:=⟨b+1,5,T⟩) (by show R+1<=b+1;omega) _).alloc (by simp;omega) _) (by omega),((g.set 2 _).set 5 _).alloc _,BU.nil _ _,World.ownsRow_nil _ _ _ _,World.ownsRow_nil _ _ _ _,?_,(fun q l=>by cases l),⟨by omega,by omega,(by simp;omega)⟩,fun v hv=>absurd hv (by simp)⟩;have o:=World.ownsRow_lit (base:=b+2) (e:=3) (size:=1) ((d.setCell ⟨b+1,2,T⟩ (U V k)).setCell ⟨b+1,5,T⟩ (X (Y ⟨d.heap.size,0,T⟩) k k)) (Array.replicate k (U V 0)) k (by simp;omega) (by unfold maxLen;omega) (by simp);simpa[Aw]using o
 have O:DY R (b+1) w (((d.setCell ⟨b+1,2,T⟩ (U V k)).setCell ⟨b+1,5,T⟩ (X (Y ⟨d.heap.size,0,T⟩) k k)).alloc (jC (Array.replicate k (U V 0)) 3)):=
  (((DY.of E).trans (.touch F)).trans (.kpt (((GW.refl (fun q=>q=b+1) d).setCell (p:=⟨b+1,2,T⟩) (fun _=>rfl) _).setCell (p:=⟨b+1,5,T⟩) (fun _=>rfl) _) (fun q e=>by omega))).trans (.of (BRN.alloc NLN _))
 have G:=((RO.setFar (p:=⟨b+1,2,T⟩) (by show b≠b+1;omega) (U V k)).setFar (p:=⟨b+1,5,T⟩) (by show b≠b+1;omega) (X (Y ⟨d.heap.size,0,T⟩) k k)).alloc (jC (Array.replicate k (U V 0)) 3);generalize ((d.setCell ⟨b+1,2,T⟩ (U V k)).setCell ⟨b+1,5,T⟩ (X (Y ⟨d.heap.size,0,T⟩) k k)).alloc (jC (Array.replicate k (U V 0)) 3)=aC at N O G|-;clear g RO f2 ay az aA mk aB h1 F h0 E hk;refine(Vd ax 3 NLN 40 _ aC NLN N ⟨(by show 0+40*60<=80000;decide),(by show 0+40*60<=80000;decide),(by show 0+40*8<=80000;decide),by simp⟩).mono ?_;rintro r aj ⟨rfl,h,S,⟨aY,aZ,a0,lv,a1,W⟩,b3⟩;have aa:=Mf.grw (fun t aD=>Hj.grw zs k 3 _ t aD) 40 S (zE _);have a2:h.I.length<=0+40*60:=aa.ins;have a3:h.P.length<=0+40*60:=aa.pool;have aE:=Ab S;have ak:=O.trans b3;have al:Ah aj b _ _:=⟨(b3.block b (by omega) G.lt (by omega)).trans G.out⟩
 clear aa S b3 O G N;dsimp only;go_wp2_with fail
 refine(BH R a n c zs h.p aj W.rd).mono ?_;rintro r aF ⟨y,ab,rfl,aG,a4,a5,ao,H⟩;have ac:=W.touch ao H;have ap:=ak.trans (.touch H);have ad:=al.touchR H s;clear W ak al ao H;by_cases hy: 0<y % 3
 case' pos=>
  go_wp2_with fail
  refine(BH R a n c zs ab aF ac.rd).mono ?_;rintro r a6 ⟨z,a7,rfl,aH,a8,a9,aI,ae⟩;have h5:=ac.touch aI ae;have aJ:=ap.trans (.touch ae);have aq:=ad.touchR ae s;dsimp only;go_wp2_with fail
  refine(Ii ⟨_,_,_,_,_,h5⟩ 2 (4+z % 2) (by show h.I.length<=_;omega)).mono ?_;rintro r aK ⟨rfl,ba,rfl,aL,ar⟩;have aM:=aJ.trans ar;have au:Ah aK b _ _:=⟨(ar.block b (by omega) aq.lt (by omega)).trans aq.out⟩
  dsimp only;go_wp2_with fail
  refine(Ii aL 25 0 (by show(h.I++[_]).length<=_;rw[zB,zg];omega)).mono ?_;rintro r af ⟨rfl,f,A,⟨aN,aO,aP,aQ,av,i⟩,C⟩;have D:Hid (f.P=h.P/\f.I=h.I++if 0<y % 3 then [⟨2,4+(nx zs ab).1 % 2⟩,⟨25,0⟩]else [⟨24,0⟩]):=Ab (by
   rw[if_pos hy,Aa aH,A];exact⟨rfl,by show(h.I++[_])++[_]=_;rw[zJ];rfl⟩)
  have m:=aM.trans C;have J:Ah af b _ _:=⟨(C.block b (by omega) au.lt (by omega)).trans au.out⟩
  clear A
 case' neg=>
  have aR:=Ab hy;go_wp2_with fail
  refine(Ii ⟨_,_,_,_,_,ac⟩ 24 0 (by show h.I.length<=_;omega)).mono ?_;rintro r af ⟨rfl,f,A,⟨aN,aO,aP,aQ,av,i⟩,C⟩;have D:Hid (f.P=h.P/\f.I=h.I++if 0<y % 3 then [⟨2,4+(nx zs ab).1 % 2⟩,⟨25,0⟩]else [⟨24,0⟩]):=Ab (by
   rw[if_neg (by have:=Aa aR;omega),A];exact⟨rfl,rfl⟩)
  have m:=ap.trans C;have J:Ah af b _ _:=⟨(C.block b (by omega) ad.lt (by omega)).trans ad.out⟩
  clear A
 all_goals
  obtain⟨xp,cp,rfl,-⟩:=Ae i.pool.own;obtain⟨xi,ci,rfl,-⟩:=Ae i.ins;obtain⟨c0,c1,c2,c3,c4,c5⟩:=i.cells;have bb:=fun j=>J.frozen j;obtain⟨bc,bd,bf⟩:=Ao J;dsimp only;go_wp2_with fail
  have aS:=((J.set 0 (X xp f.P.length cp)).set 1 (U V k)).set 2 (X xi f.I.length ci);obtain⟨aT,M,aU⟩:=Ao aS;refine bodyPost_ret (v:= jE #[X xp f.P.length cp,U V k,X xi f.I.length ci]) (by simp[results,results29,go_sem,aT,M,aU]) rfl ⟨⟨f.P,k,f.I,xp,cp,xi,ci,av,rfl,Ab ?_,?_,?_,by rw[(Aa D).1];omega,?_⟩,?_⟩
  ·refine⟨h,?_,?_,(Aa D).1,?_⟩
   ·rw[Aa ah];dsimp only;rw[Aa ai,zb];exact Aa aE
   ·rw[Aa ah];exact(Aa ai).symm
   ·rw[Aa aG];exact(Aa D).2
  ·exact((((i.pool.set ⟨b,0,T⟩ _ (by show b<b+2;omega)).set ⟨b,1,T⟩ _ (by show b<b+2;omega)).set ⟨b,2,T⟩ _ (by show b<b+2;omega)).low (lo':=w.heap.size) (by have:=Aa L;omega)).plo i.ok
  ·have o:=fun (aV:Z) (j:Nat) (u:jB) (o:aV.ownsRow (b+2) 49 2 (X xi f.I.length ci) f.I.length (Cm f.I))=>Ai o ⟨b,j,T⟩ u (fun q l=>by have:=(o.lt q l).1;show q≠b;omega);exact Aj (o _ _ _ (o _ _ _ (o _ _ _ i.ins))) (by have:=Aa L;omega)
  ·have:=(Aa D).2;rw[this,zB];split<;>simp<;>omega
  ·refine⟨m.os,m.tape,m.output,by simpa using m.size,fun q l hd=>?_⟩;have bg:q<b:=by rw[Aa L];exact l
   rw[heap_setCell_other _ _ _ _ (by show q≠b;omega),heap_setCell_other _ _ _ _ (by show q≠b;omega),heap_setCell_other _ _ _ _ (by show q≠b;omega)];exact m.block q (by omega) l (by omega)
end
end
theorem WiX.one {zs:List Int}{p:Nat}{P b:List Vl}{k c:Int}{I I':List Cg}(h:WiX zs p P k I)(h':WiX zs p b c I'):P=b/\k=c/\I=I':=by
 obtain⟨s,a,rfl,rfl,rfl⟩:=h;obtain⟨f,d,rfl,rfl,rfl⟩:=h';obtain rfl:=Mf.one (Hj.one zs _ 3) 40 _ _ _ a d;exact⟨rfl,rfl,rfl⟩
section
theorem Hr:FJ 0:=⟨by decide,by decide⟩
theorem Lt:∀(e:Ex) (b:Nat),Ix e->∀x∈Eg e b,x.op=1->FJ x.num
 |.un i op k,b,h,x,hx,ho=>by
  rw[Eg]at hx;rcases zM.1 hx with q|q
  ·exact Lt k b h x q ho
  ·rw[zO.1 q];exact Hr
 |.bin i op l r,b,h,x,hx,ho=>by
  rw[Eg]at hx;rcases zM.1 hx with q|q
  ·rcases zM.1 q with q|q
   ·exact Lt l b h.1 x q ho
   ·exact Lt r _ h.2 x q ho
  ·rw[zO.1 q];exact Hr
 |.ite i c t e,b,h,x,hx,ho=>by
  rw[Eg]at hx;rcases zM.1 hx with q|q
  ·rcases zM.1 q with q|q
   ·rcases zM.1 q with q|q
    ·exact Lt c b h.1 x q ho
    ·exact Lt t _ h.2.1 x q ho
   ·exact Lt e _ h.2.2 x q ho
  ·rw[zO.1 q];exact Hr
 |.int i n,b,h,x,hx,ho=>by rw[zO.1 hx];exact h
 |.text i s,b,h,x,hx,ho=>by rw[zO.1 hx]at ho;cases ho
 |.bool i s,b,h,x,hx,ho=>by rw[zO.1 hx]at ho;cases ho
 |.set i _ _ _ s,b,h,x,hx,ho=>by rw[zO.1 hx]at ho;cases ho
 |.name i s,b,h,x,hx,ho=>by rw[zO.1 hx]at ho;cases ho
 |.attr i s,b,h,x,hx,ho=>by rw[zO.1 hx]at ho;cases ho
 |.lett i s,b,h,x,hx,ho=>by rw[zO.1 hx]at ho;cases ho
def AbX (N:List Nd):Prop:=∀x∈N,x.op=1->FJ x.num
theorem Vf:∀(a:List Sx) (b:Nat),GdX a->AbX (DG b a)
 |[],_,_,x,hx=>by cases hx
 |y ::a,b,h,x,hx=>by
  have hy:=h y zS;have d:∀(o:Option Ex) (c:Nat),gdO o->x∈Pu o c->x.op=1->FJ x.num:=fun o c g f=>by
   cases o with
   |none=>cases f
   |some e=>exact Lt e c (g e rfl).2.1 x f
  rw[DG]at hx;rcases zM.1 hx with q|q
  ·rcases zM.1 q with q|q
   ·exact d _ _ hy.1 q
   ·exact d _ _ hy.2 q
  ·exact Vf a _ (fun z i=>h z (za _ i)) x q
theorem Sy.int {T:List Int}{o:List Nd×List St×List Int}(h:Sy N L T o)(a:∀x∈N,FJ x.num/\x.names.length<=1048576):AbX o.1:=by
 rcases h with⟨_,rfl⟩|⟨hv,Es,h1,b,rfl⟩
 ·intro x hx;cases hx
 ·exact Vf _ 0 (Y7 (AbY hv a h1 b).2.gd)
def okJ:Ex->Prop
 |.int _ n=>FJ n
 |.un _ _ k=>okJ k
 |.bin _ _ l r=>okJ l/\okJ r
 |.ite _ c t e=>okJ c/\okJ t/\okJ e
 |_=>True
theorem Bu.okJ (d:AbX N){e:Ex}(t:Bu N i e):okJ e:=by
 induction t with
 |int h a hk=>exact d _ (zu h) a
 |un h a hk hi t f=>exact f
 |bin h a hk hi t u b c=>exact⟨b,c⟩
 |ite h a hk hi t u v b c g=>exact⟨b,c,g⟩
 |_=>exact trivial
def SZ (v:Vl):Prop:=FJ v.num
theorem Aap:∀(e:Ex),okJ e->∀a,∀j∈Ar e a,SZ j.val:=by
 have d:∀{A B:List I5},(∀j∈A,SZ j.val)->(∀j∈B,SZ j.val)->∀j∈A++B,SZ j.val:=fun p q j o=>(zM.1 o).elim (p j) (q j);have f:∀{i:I5},SZ i.val->∀j∈ [i],SZ j.val:=fun h j o=>by rw[zO.1 o];exact h
 have z:SZ Ax:=Hr;have b1:SZ ⟨1,1,⟨#[]⟩,[]⟩:=⟨by show(-9223372036854775808 :Int)<=1;decide,by show(1 :Int)<=9223372036854775807;decide⟩
 intro e
 induction e with
 |int i n=>exact fun h a=>f h
 |bool i b=>exact fun h a=>f (by cases b;exact Hr;exact b1)
 |un i op k s=>exact fun h a=>d (s h a) (f z)
 |bin i op l r g m=>
  intro h a;rw[Ar];split
  ·exact d (d (d (d (g h.1 _) (f z)) (m h.2 _)) (f z)) (f Hr)
  ·split
   ·exact d (d (d (d (g h.1 _) (f z)) (f b1)) (f z)) (m h.2 _)
   ·exact d (d (g h.1 _) (m h.2 _)) (f z)
 |ite i c t e g m u=>exact fun h a=>d (d (d (d (g h.1 _) (f z)) (m h.2.1 _)) (f z)) (u h.2.2 _)
 |_=>exact fun h a=>f Hr
theorem Ta {Es:List Ex}(l:∀e∈Es,okJ e):∀(L:List St) (k a:Nat),∀j∈CC Es k a L,SZ j.val
 |[],k,a=>fun j b=>by cases b
 |s ::L,k,a=>by
  have d:∀{A B:List I5},(∀j∈A,SZ j.val)->(∀j∈B,SZ j.val)->∀j∈A++B,SZ j.val:=fun n o j b=>(zM.1 b).elim (n j) (o j);have f:∀{i:I5},SZ i.val->∀j∈ [i],SZ j.val:=fun h j b=>by rw[zO.1 b];exact h
  have z:SZ Ax:=Hr;have g:∀(c:Int) (a:Nat),∀j∈Ar (Dh Es c) a,SZ j.val:=fun c a=>Aap _ (by
   rw[Dh,zo];cases p:Es[c.toNat]? with
   |none=>exact Hr
   |some e=>exact l e (zu p)) a
  have m:∀a,∀j∈hD Es s.grant a,SZ j.val:=fun a=>by
   rw[hD];split
   ·exact f z
   ·exact d (g _ _) (f z)
  rw[CC];refine d ?_ (Ta l L _ _);rw[KO];split
  ·exact d (g _ _) (f z)
  ·split
   ·exact d (d (g _ _) (f z)) (m _)
   ·exact m _
theorem Lu.num {T:List Int}{c:Dm}(h:Lu N L T c)(a:AbX N):∀v∈c.pool,SZ v:=by
 rcases h with⟨_,rfl⟩|⟨hv,Es,f,b,rfl⟩
 ·exact fun v hv=>absurd hv (by simp)
 ·rw[PX];exact Mk _ _ (Ta (fun e he=>by obtain⟨j,d,rfl⟩:=z9 he;exact(b j d).okJ a) L 0 0) (fun v hv=>absurd hv (by simp))
theorem AhV (x:Int):FJ (IntKind.i64.wrap x):=by
 constructor<;>simp[IntKind.wrap,IntKind.bits,IntKind.signed]<;>omega
theorem Aer (zs:List Int)(d:∀p,0<=(nx zs p).1/\(nx zs p).1<=255)(p:Nat):FJ (Sw zs p).1:=by
 have wr:∀(k p:Nat) (v:Int),FJ v->FJ (Aaq zs k p v).1:=fun k=>by
  induction k with
  |zero=>exact fun p v h=>h
  |succ k f=>exact fun p v h=>f _ _ (AhV _)
 have a:=d p;have b:=d (nx zs p).2;have c:=d (nx zs (nx zs p).2).2;unfold Sw PY;split
 ·exact⟨by dsimp only;omega,by dsimp only;omega⟩
 split
 ·exact⟨by dsimp only;omega,by dsimp only;omega⟩
 split
 ·exact⟨by dsimp only;omega,by dsimp only;omega⟩
 split
 ·exact⟨by dsimp only;omega,by dsimp only;omega⟩
 split
 ·exact⟨by dsimp only;omega,by dsimp only;omega⟩
 split
 ·exact wr 8 _ 0 Hr
 split
 ·exact⟨by dsimp only;omega,by dsimp only;omega⟩
 ·exact⟨by dsimp only;omega,by dsimp only;omega⟩
def Ja (P:List Vl):Prop:=∀v∈P,SZ v
section
variable {zs : List Int} (hz : ∀p, 0 <= (nx zs p).1 /\ (nx zs p).1 <= 255)
include hz
theorem VaX.num {s a:Gs}(h:VaX zs s a)(hs:Ja s.P):Ja a.P:=by
 obtain⟨v,q,hv,rfl⟩:=h;intro u hu;rcases zM.1 hu with e|e
 ·exact hs u e
 ·rw[zO.1 e];unfold Lr at hv;split at hv
  ·rw[hv.1];exact⟨by show _<=(nx zs s.p).1 / 4 % 2;omega,by show(nx zs s.p).1 / 4 % 2<=_;omega⟩
  split at hv
  ·rw[hv.1];exact Aer zs hz _
  split at hv
  ·rw[hv.1];exact Hr
  ·rw[hv.1];exact Hr
omit hz in
theorem Vg:∀(l:List Int) (s:Gs),Ja s.P->Ja (l.foldl GX s).P
 |[],s,h=>h
 |x ::l,s,h=>Vg l (GX s x) fun v hv=>by
  rcases zM.1 hv with e|e
  ·exact h v e
  ·rw[zO.1 e];exact Hr
theorem Mf.num {f:Mv}(g:∀s c,f s c->Ja s.P->Ja c.P){k low Cq:Nat} :∀(n:Nat) {s c:Gs},Mf f zs k low Cq n s c->Ja s.P->Ja c.P
 |0,s,c,h,hs=>by obtain rfl:c=s:=h;exact hs
 |n+1,s,c,h,hs=>by
  unfold Mf at h;split at h
  ·obtain⟨s1,a,b⟩:=h;refine Mf.num g n b ?_;have d:Ja (XF zs s).P:=hs;generalize XF zs s=t at a d;unfold Gx at a;split at a
   ·subst a;exact d
   split at a
   ·split at a
    ·subst a;exact d
    ·subst a;exact d
   split at a
   ·subst a;exact d
   split at a
   ·subst a;exact d
   split at a
   ·exact g _ _ a d
   ·exact VaX.num hz a d
  ·subst h;exact hs
theorem Hj.num (k:Nat):∀(d:Nat) (s c:Gs),Hj zs k d s c->Ja s.P->Ja c.P
 |0,_,_,h,_=>h.elim
 |d+1,s,c,h,hs=>by
  obtain⟨s1,s2,a,b,rfl⟩:=h;have hv:=VaX.num hz b (Mf.num hz (Hj.num k d) 2 a hs);exact Vg _ (PQ (EZ s2 22 0) s.I.length (s2.I.length+1)) hv
theorem WiX.num {p:Nat}{P:List Vl}{k:Int}{I:List Cg}(h:WiX zs p P k I):Ja P:=by
 obtain⟨s,a,-,rfl,-⟩:=h;exact Mf.num hz (Hj.num hz _ 3) 40 a fun v hv=>by cases hv
end
theorem AbZ {m:Nat}{s:Int}(h:Pt m P s I):Ja P:=by
 unfold Pt at h;split at h
 ·rw[h.1];intro v hv;cases hv
 split at h
 ·rw[h.1];intro v hv;rw[(List.mem_replicate.1 hv).2];exact Hr
 ·rw[h.1];intro v hv;cases hv
theorem Ab0 {zs:List Int}{p:Nat}{b:List Vl}{s d:Int}{I':List Cg}(h:(b,d,I')=JI zs p P s I)(a:Ja P):Ja b:=by
 have e:b=(JI zs p P s I).1:=by rw[<-h]
 rw[e];unfold JI;dsimp only;split
 ·exact a
 split
 ·exact a
 dsimp only;split
 ·intro v hv;obtain⟨j,c,rfl⟩:=z9 hv;rw[List.getElem_modify];have q:SZ (P[j]'(by simpa using c)):=a _ (zH (by simpa using c));split
  ·exact q
  ·exact q
 ·exact a
end
def XK (zs:List Int) (P:List Vl) (s:Int) (I:List Cg):Prop:=
 if (nx zs 0).1 % 16=15 then P=[]/\s=0/\I=List.replicate (100+(nx zs 0).1 / 16 % 2).toNat ⟨2,4⟩++[⟨25,0⟩]
 else if (nx zs 0).1 % 2=0 then ∃t o k,TyX zs (nx zs 0).2 t/\(if (nx zs 0).1 % 4=0 then Sy t.1 t.2.1 t.2.2 o else o=t)/\Lu o.1 o.2.1 o.2.2 k/\P=k.pool/\s=k.slots/\I=k.ins
 else WiX zs (nx zs 0).2 P s I
def Xy (zs:List Int) (P:List Vl) (s:Int) (I:List Cg):Prop:=
 if 250<=(nx zs 0).1 then Pt ((nx zs 0).1-250).toNat P s I
 else ∃P0 s0 I0,XK zs P0 s0 I0/\(if (nx zs 0).1 % 5=4 then (P,s,I)=JI zs (zs.length / 2) P0 s0 I0 else P=P0/\s=s0/\I=I0)
theorem XK.one {zs:List Int}{P c:List Vl}{s d:Int}{I I':List Cg}(h:XK zs P s I)(h':XK zs c d I'):P=c/\s=d/\I=I':=by
 unfold XK at h h';split at h
 ·rw[if_pos (by assumption)]at h';exact⟨h.1.trans h'.1.symm,h.2.1.trans h'.2.1.symm,h.2.2.trans h'.2.2.symm⟩
 ·rw[if_neg (by assumption)]at h';split at h
  ·rw[if_pos (by assumption)]at h';obtain⟨t,o,k,h1,b,f,rfl,rfl,rfl⟩:=h;obtain⟨l,g,m,i,a,j,rfl,rfl,rfl⟩:=h';obtain rfl:=h1.one i;have e:o=g:=by
    split at b
    ·rw[if_pos (by assumption)]at a;exact b.one a
    ·rw[if_neg (by assumption)]at a;rw[b,a]
   subst e;rw[f.one j];exact⟨rfl,rfl,rfl⟩
  ·rw[if_neg (by assumption)]at h';exact h.one h'
theorem Xy.one {zs:List Int}{P a:List Vl}{s c:Int}{I I':List Cg}(h:Xy zs P s I)(h':Xy zs a c I'):P=a/\s=c/\I=I':=by
 unfold Xy at h h';split at h
 ·rw[if_pos (by assumption)]at h';unfold Pt at h h';split at h
  ·rw[if_pos (by assumption)]at h';exact⟨h.1.trans h'.1.symm,h.2.1.trans h'.2.1.symm,h.2.2.trans h'.2.2.symm⟩
  ·rw[if_neg (by assumption)]at h';split at h
   ·rw[if_pos (by assumption)]at h';exact⟨h.1.trans h'.1.symm,h.2.1.trans h'.2.1.symm,h.2.2.trans h'.2.2.symm⟩
   ·rw[if_neg (by assumption)]at h';exact⟨h.1.trans h'.1.symm,h.2.1.trans h'.2.1.symm,h.2.2.trans h'.2.2.symm⟩
 ·rw[if_neg (by assumption)]at h';obtain⟨f,g,i,b,e⟩:=h;obtain⟨j,s1,k,d,e'⟩:=h';obtain⟨rfl,rfl,rfl⟩:=b.one d;split at e
  ·rw[if_pos (by assumption)]at e';have:=e.trans e'.symm;simp only[Prod.mk.injEq]at this;exact this
  ·rw[if_neg (by assumption)]at e';exact⟨e.1.trans e'.1.symm,e.2.1.trans e'.2.1.symm,e.2.2.trans e'.2.2.symm⟩
theorem XL {w:Z}{R p:Nat}{a:Option jD}{n c:Nat}{zs:List Int}(g:Ah d R #[X a n c,U V (p:Int)] 56)(h:Eh w a n c zs)(i:An w d)(r:w.heap.size<=R)(hp:p<=n)(k:n<=1048576):KL d R a n c zs p:=
 ⟨g,h.len,hp,k,fun j l=>by
  obtain⟨b,f,m,o,hc,q⟩:=h.cells j l;exact⟨b,f,m,by omega,by rw[<-hc];exact i.cell (p:=⟨b,f+j,T⟩) o,q⟩⟩
def CdA (X:List Vl->Int->List Cg->Prop) (r:Ending) (w':Z):Prop:=
 ∃P s I x cx y cy nv,r= .returned (jE #[.slice x P.length cx,U V s,.slice y I.length cy])/\Hid (X P s I)/\SV w' 0 (.slice x P.length cx) P nv/\w'.ownsRow 0 49 2 (.slice y I.length cy) I.length (Cm I)/\P.length<=100000/\I.length<=100000/\Ja P
theorem Aeu {a:Nat}{k l:jB}{s:Int}{c:Nat}{X:List Vl->Int->List Cg->Prop}(f:Ah b a #[j,k,l] 26)(m:SV b lo (.slice x P.length cx) P h)(g:b.ownsRow lo' 49 2 (.slice y I.length c) I.length (Cm I))(h1:P.length<=100000)(n:I.length<=100000)(o:Ja P)(u:X P s I)(v:d=((b.setCell ⟨a,0,T⟩ (.slice x P.length cx)).setCell ⟨a,1,T⟩ (U V s)).setCell ⟨a,2,T⟩ (.slice y I.length c)):
  (d.cell? ⟨a,0,T⟩=Y (.slice x P.length cx)/\d.cell? ⟨a,1,T⟩=Y (U V s)/\d.cell? ⟨a,2,T⟩=Y (.slice y I.length c))/\CdA X (.returned (jE #[.slice x P.length cx,U V s,.slice y I.length c])) d:=by
 subst v;have K:GW (fun q=>q=a) b (((b.setCell ⟨a,0,T⟩ (.slice x P.length cx)).setCell ⟨a,1,T⟩ (U V s)).setCell ⟨a,2,T⟩ (.slice y I.length c)):=(((GW.refl (fun q=>q=a) b).setCell (p:=⟨a,0,T⟩) (fun _=>rfl) _).setCell (p:=⟨a,1,T⟩) (fun _=>rfl) _).setCell (p:=⟨a,2,T⟩) (fun _=>rfl) _;exact⟨Ao (((f.set 0 _).set 1 _).set 2 _),P,s,I,x,cx,y,c,h,rfl,Ab u,(m.keep fun q z t r w=>K.block q r.lt (fun e=>Bk r f (by rcases w with rfl|rfl<;>decide) e)).low (zE _),Aj (Ad g fun q i=>K.block q (g.lt q i).2 (fun e=>Ac f g (by decide) (by rw[<-e];exact i))) (zE _),h1,n,o⟩
theorem NmS.nmq {w:Z}{a:Option jD}(h:NmS w a N)(d:∀x∈N,x.names.length<=1048576):NmQ w a N:=fun j c b f g an nn cn hc=>⟨d _ (zH c),h j c b f g an nn cn hc⟩
theorem NmQ.nmz {w:Z}{a:Option jD}(h:NmQ w a N):NmZ w a N:=fun j c b d f an nn cn hc=>(h j c b d f an nn cn hc).2.1
theorem Ahd {w:Z}{a:Option jD}{n c:Nat}{zs:List Int}(h:Eh w a n c zs)(p:Nat): 0<=(nx zs p).1/\(nx zs p).1<=255:=by
 unfold nx;split
 ·rename_i hp;obtain⟨_,_,_,_,_,q⟩:=h.cells p (by rw[h.len];exact hp);exact q
 ·exact⟨zq 0,by show(0 :Int)<=255;decide⟩
def Ahe (zs:List Int) (w:Z) (ob:Nat) (wx:Z):Prop:=
 ∃P s I x cx y cy nv lo,Ah wx ob #[X x P.length cx,U V s,X y I.length cy] 26/\Hid (XK zs P s I)/\SV wx lo (X x P.length cx) P nv/\wx.ownsRow lo 49 2 (X y I.length cy) I.length (Cm I)/\P.length<=100000/\I.length<=90000/\Ja P/\Ah wx w.heap.size #[X T 0 0,U V 0,X T 0 0] 26/\An w wx
def Af7 (zs:List Int) (w:Z) (ob tb:Nat) (wx:Z):Prop:=
 ∃ (o:List Nd×List St×List Int) (x:Option jD) (n c:Nat) (y:Option jD) (m d:Nat) (z:Option jD) (k e:Nat),Ah wx tb #[X x n c,X y m d,X z k e] 69/\(IY wx x n c o.1/\NmZ wx x o.1/\Ss wx y m d o.2.1/\Em wx z k e o.2.2)/\Ah wx ob #[X T 0 0,U V 0,X T 0 0] 26/\Ah wx w.heap.size #[X T 0 0,U V 0,X T 0 0] 26/\An w wx/\Hid (AbX o.1)/\Hid (∀k:Dm,Lu o.1 o.2.1 o.2.2 k->XK zs k.pool k.slots k.ins)
theorem Ul {zs:List Int}{w b:Z}{a:Nat}{s:Int}{cx c:Nat}{g:List jB}{k l:jB}(m:XK zs P s I)(d:Ah b a #[j,k,l] 26)(n:SV b lo (X x P.length cx) P g)(f:b.ownsRow lo 49 2 (X y I.length c) I.length (Cm I))(h1:P.length<=100000)(o:I.length<=90000)(u:Ja P)(h:Ah b w.heap.size #[X T 0 0,U V 0,X T 0 0] 26)(v:An w b)(A:w.heap.size<a):
  Ahe zs w a (((b.setCell ⟨a,0,T⟩ (X x P.length cx)).setCell ⟨a,1,T⟩ (U V s)).setCell ⟨a,2,T⟩ (X y I.length c)):=by
 have K:GW (fun q=>q=a) b (((b.setCell ⟨a,0,T⟩ (X x P.length cx)).setCell ⟨a,1,T⟩ (U V s)).setCell ⟨a,2,T⟩ (X y I.length c)):=(((GW.refl (fun q=>q=a) b).setCell (p:=⟨a,0,T⟩) (fun _=>rfl) _).setCell (p:=⟨a,1,T⟩) (fun _=>rfl) _).setCell (p:=⟨a,2,T⟩) (fun _=>rfl) _;exact⟨P,s,I,x,cx,y,c,g,lo,((d.set 0 _).set 1 _).set 2 _,Ab m,n.keep fun q B t r z=>K.block q r.lt (fun e=>Bk r d (by rcases z with rfl|rfl<;>decide) e),Ad f fun q i=>K.block q (f.lt q i).2 (fun e=>Ac d f (by decide) (by rw[<-e];exact i)),h1,o,u,⟨(K.block _ h.lt (by omega)).trans h.out⟩,((v.setCell (p:=⟨a,0,T⟩) (by show _<=a;omega) _).setCell (p:=⟨a,1,T⟩) (by show _<=a;omega) _).setCell (p:=⟨a,2,T⟩) (by show _<=a;omega) _⟩
theorem AfO (a:Option jD)(n c:Nat)(zs:List Int)(w:Z)(h:Eh w a n c zs)(bi:n<=1048576):
  Calls jL 11 #[.slice a n c] w fun r w'=>CdA (Xy zs) r w'/\An w w':=by
 go_enter func11,ntmps11
 go_wp2_with fail
 refine Vh (P:=fun aV=>Calls _ _ _ aV _) fun bE aH aW ad=>?_;refine(BH (w.heap.size+1) a n c zs 0 bE (XL ad h aH (by omega) (zE _) bi)).mono ?_;rintro r aI ⟨y,ae,rfl,aJ,ce,cf,aX,aY⟩;have aZ:=AT aH aY (by omega) aH.size;have bj:Ah aI w.heap.size #[.slice T 0 0,U V 0,.slice T 0 0] 26:=⟨(aY.block _ aW.lt (.inl (by omega))).trans aW.out⟩
 have bk:w.heap.size+1<aI.heap.size:=aX.lt;have a0:=Ab h;have bF:=Ab (Ahd h);clear aH aW ad aY h;dsimp only;go_upto_region 4 with fail
 refine Gh (P:=Code.wp _ _ _ _) fun a1 aK RO=>?_;have a2:=aX.after aK bk;have F:=aZ.trans (aK.mono aZ.size);have H:=bj.after aK NLN;have bG:aI.heap.size<a1.heap.size:=RO.lt;obtain⟨l,bl⟩:∃l,l=aI.heap.size:=⟨_,rfl⟩
 rw[<-bl]at RO bk bG|-;clear aK bj aX aZ bl;obtain⟨c0,c1,c2⟩:=Ao H;have af:=H.frozen;by_cases bm: 250<=y
 ·obtain⟨k,hk⟩:∃k:Nat,y-250=(k:Int):=⟨(y-250).toNat,by omega⟩
  have bH:k<=5:=by omega
  have f:=Ab (show ∀P s I,Pt k P s I->Xy zs P s I from fun P s I bI=>by
   have e1:(nx zs 0).1=y:=by rw[Aa aJ]
   unfold Xy;rw[e1,if_pos bm,hk];exact bI)
  go_wp2_with fail
  refine(Aeq k bH a1).mono ?_;rintro r S ⟨⟨P,s,I,x,cx,ak,al,aL,rfl,C,u,g,h1,A⟩,b3⟩;have z:=H.after b3 NLN;have bJ:=F.trans (b3.mono F.size);clear c0 c1 c2 af;obtain⟨c0,c1,c2⟩:=Ao z;have af:=z.frozen;dsimp only;go_wp2_with fail
  obtain⟨⟨ao,ae,ap⟩,e⟩:=Aeu (X:=Xy zs) z u g h1 (by omega) (AbZ (Aa C)) (Aa f _ _ _ (Aa C)) rfl;exact bodyPost_ret (v:= jE #[.slice x P.length cx,U V s,.slice ak I.length al]) (by simp[results,results11,go_sem,ao,ae,ap]) rfl ⟨e,((bJ.setCell (p:=⟨w.heap.size,0,T⟩) NLN _).setCell (p:=⟨w.heap.size,1,T⟩) NLN _).setCell (p:=⟨w.heap.size,2,T⟩) NLN _⟩
 have W:=Ab (show ∀P s I aq ar au,XK zs aq ar au->(if y % 5=4 then (P,s,I)=JI zs (zs.length / 2) aq ar au else P=aq/\s=ar/\I=au)->Xy zs P s I from fun P s I aq ar au a3 he=>by
  have e1:(nx zs 0).1=y:=by rw[Aa aJ]
  unfold Xy;rw[e1,if_neg bm];exact⟨aq,ar,au,a3,he⟩)
 have aa:=Ab (show ∀(P:List Vl) (s:Int) (I:List Cg),(if y % 16=15 then P=[]/\s=0/\I=List.replicate (100+y / 16 % 2).toNat ⟨2,4⟩++[⟨25,0⟩]else if y % 2=0 then ∃t o k,TyX zs ae t/\(if y % 4=0 then Sy t.1 t.2.1 t.2.2 o else o=t)/\Lu o.1 o.2.1 o.2.2 k/\P=k.pool/\s=k.slots/\I=k.ins else WiX zs ae P s I)->XK zs P s I from fun P s I a3=>by
  unfold XK;rw[Aa aJ];exact a3)
 clear aJ;go_upto_block 0 with fail
 go_cut [] (fun a4=>Hid (Ahe zs w l a4))
 case first=>
  obtain⟨J,K,L⟩:=Ao RO;have ag:=RO.frozen;by_cases M:y % 16=15
  ·have bK:(y % 16==15)=true:=zF.2 M;obtain⟨m,hm⟩:∃m:Nat,100+y / 16 % 2=(m:Int):=⟨(100+y / 16 % 2).toNat,by omega⟩
   have f:=Ab (show ∀(P:List Vl) (s:Int) (I:List Cg),P=[]/\s=0/\I=List.replicate m ⟨2,4⟩++[⟨25,0⟩]->XK zs P s I from fun P s I e=>Aa aa P s I (by rw[if_pos M,hm,zb];exact e));have bL:m<=200:=by omega
   clear aa W M;go_wp2_with fail
   refine(Af3 m bL a1).mono ?_;rintro r S ⟨⟨P,s,I,x,cx,ak,al,aL,rfl,C,u,g,h1,A⟩,b3⟩;have i:=RO.after b3 NLN;clear J K L ag;obtain⟨J,K,L⟩:=Ao i;have ag:=i.frozen;have D:=Ab (Ul (w:=w) (Aa f _ _ _ (Aa C)) i u g h1 A (by rw[(Aa C).1];intro v hv;cases hv) (H.after b3 NLN) (F.trans (b3.mono F.size)) (by omega));clear C u g b3 i f hm;dsimp only;go_wp2
   go_meet
   exact D
  have bK:(y % 16==15)=false:=zA.2 M;by_cases A:y % 2=0
  ·have bM:(y % 2==0)=true:=zF.2 A;have f:=Ab (show ∀(t o:List Nd×List St×List Int) (k:Dm),TyX zs ae t->(if y % 4=0 then Sy t.1 t.2.1 t.2.2 o else o=t)->Lu o.1 o.2.1 o.2.2 k->XK zs k.pool k.slots k.ins from fun t o k e1 e2 e3=>Aa aa _ _ _ (by rw[if_neg M,if_pos A];exact⟨t,o,k,e1,e2,e3,rfl,rfl,rfl⟩));clear aa W M A;go_wp2_with fail
   refine(Aet (B:=w.heap.size) a2 (by omega) (fun h0 q bN=>by obtain⟨b,bn,aM,bO,_⟩:=(Aa a0).cells 0 h0;rw[bN]at aM;cases aM;exact bO)).mono ?_;rintro r S ⟨⟨v,t,rfl,bo,⟨bp,br,bs,bt,bu,d1,bv,bw,e1,rfl,aN,bx,g⟩,aO⟩,b3⟩;have i:=b3.rd l _ _ (by unfold okR;decide) (by omega) RO;have z:=b3.rd w.heap.size _ _ (by unfold okR;decide) (by omega) H;have ab:=F.trans b3.low;have bP:l<S.heap.size:=i.lt;have aP:=Ab (show ∀x∈t.1,FJ x.num/\x.names.length<=1048576 from fun x hx=>⟨⟨(aO x hx).1.1,(aO x hx).1.2⟩,(aO x hx).2⟩);clear J K L ag b3 aO;dsimp only;go_upto_region 11 with fail
   refine Gh (P:=Code.wp _ _ _ _) fun bz N RT=>?_;have a5:=i.after N NLN;have a6:=z.after N NLN;have aQ:=ab.trans (N.mono ab.size);have a7:=aN.1.below N NLN;have a8:=(aN.2.nmq fun x hx=>(Aa aP x hx).2).below aN.1 N;have a9:=bx.below N NLN;have ba:=g.below N NLN;clear aN bx g i z ab;obtain⟨d,bA⟩:∃d,d=S.heap.size:=⟨_,rfl⟩
   rw[<-bA]at RT|-;have cg:l<d:=by have:=bP;omega
   clear bA N;obtain⟨av,aw,ax⟩:=Ao RT;have ft:=RT.frozen;have n1:l≠d:=by omega
   have ch:d≠l:=by omega
   have bb:w.heap.size≠d:=by omega
   go_upto_if 36 with fail
   go_cut [] (fun a4=>Hid (Af7 zs w l d a4))
   case first=>
    by_cases ah:y % 4=0
    ·have bQ:(y % 4==0)=true:=zF.2 ah;have O:=Ab (show ∀(o:List Nd×List St×List Int) (k:Dm),Sy t.1 t.2.1 t.2.2 o->Lu o.1 o.2.1 o.2.2 k->XK zs k.pool k.slots k.ins from fun o k e1 e2=>Aa f t o k (Aa bo) (by rw[if_pos ah];exact e1) e2);clear f ah;go_wp2_with fail
     refine(Sz bp bt bv br bs bu d1 bw e1 t.1 t.2.1 t.2.2 bz a7 a9 ba a8 (Aa aP)).mono ?_;rintro r bR ⟨o,bc,⟨ay,az,aA,ac,aB,d2,aC,aD,e2,rfl,-,bB⟩,b5⟩;have aE:=RT.after b5 NLN;have E:=aQ.trans (b5.mono aQ.size);have G:=bB d _ aE (.slice ay az aA) (.slice ac aB d2) (.slice aC aD e2);have D:Hid (Af7 zs w l d (((bR.setCell ⟨d,0,T⟩ (.slice ay az aA)).setCell ⟨d,1,T⟩ (.slice ac aB d2)).setCell ⟨d,2,T⟩ (.slice aC aD e2))):=Ab ⟨o,ay,az,aA,ac,aB,d2,aC,aD,e2,((aE.set 0 _).set 1 _).set 2 _,⟨G.1.1,fun j bS b bn aM an nn cn hc=>(G.1.2 j bS b bn aM an nn cn hc).1,G.2.1,G.2.2⟩,(((a5.after b5 NLN).setFar (p:=⟨d,0,T⟩) n1 _).setFar (p:=⟨d,1,T⟩) n1 _).setFar (p:=⟨d,2,T⟩) n1 _,(((a6.after b5 NLN).setFar (p:=⟨d,0,T⟩) bb _).setFar (p:=⟨d,1,T⟩) bb _).setFar (p:=⟨d,2,T⟩) bb _,((E.setCell (p:=⟨d,0,T⟩) (by show _<=d;omega) _).setCell (p:=⟨d,1,T⟩) (by show _<=d;omega) _).setCell (p:=⟨d,2,T⟩) (by show _<=d;omega) _,Ab (bc.int (Aa aP)),Ab fun k hk=>Aa O o k bc hk⟩;clear av aw ax ft;obtain⟨av,aw,ax⟩:=Ao aE;have ft:=aE.frozen;clear bc bB G aE E b5;dsimp only;go_wp2
     go_meet
     exact D
    ·have bQ:(y % 4==0)=false:=zA.2 ah;have D:Hid (Af7 zs w l d bz):=Ab ⟨t,bp,br,bs,bt,bu,d1,bv,bw,e1,RT,⟨a7,a8.nmz,a9,ba⟩,a5,a6,aQ,Ab (fun x hx _=>(Aa aP x hx).1),Ab fun k hk=>Aa f t t k (Aa bo) (by rw[if_neg ah]) hk⟩;clear ah f;go_wp2
     go_meet
     exact D
   case rest=>
    obtain⟨o,ay,az,aA,ac,aB,d2,aC,aD,e2,RT,⟨bT,bU,S5,I5⟩,bV,aF,E,bW,O⟩:=Aa hcut;clear hcut f a7 a8 a9 ba a5 a6 aQ av aw ax ft;obtain⟨av,aw,ax⟩:=Ao RT;have ft:=RT.frozen;go_wp2_with fail
    refine(Um ay ac aC az aA aB d2 aD e2 o.1 o.2.1 o.2.2 wc bT S5 I5 bU).mono ?_;rintro r ci ⟨k,hk,cj,c3,ck,d3,aL,rfl,u,g,aR⟩;obtain⟨bX,aS,bY,-⟩:=hk.small;have bZ:=Aa bW;have aT:=bV.after aR NLN;have D:=Ab (Ul (w:=w) (Aa O k hk) aT (u.plo fun v hv=>⟨by have:=(aS v hv).1;omega,by have:=(aS v hv).2.1;omega,fun s hs=>by have:=(aS v hv).2.2 s hs;omega⟩) g (by omega) (by omega) (hk.num bZ) (aF.after aR NLN) (E.trans (aR.mono E.size)) (by omega));obtain⟨J,K,L⟩:=Ao aT;have ag:=aT.frozen;clear u g hk bX aS bY O aR aT av aw ax ft;dsimp only;go_wp2
    go_meet
    exact D
  ·have bM:(y % 2==0)=false:=zA.2 A;have f:=Ab (show ∀(P:List Vl) (s:Int) (I:List Cg),WiX zs ae P s I->XK zs P s I from fun P s I e=>Aa aa P s I (by rw[if_neg M,if_neg A];exact e));clear aa W M A;go_wp2_with fail
   refine(Af2 a2).mono ?_;rintro r S ⟨⟨P,s,I,x,cx,ak,al,aL,rfl,C,u,g,h1,A⟩,aU⟩;have i:Ah S l #[.slice T 0 0,U V 0,.slice T 0 0] 26:=⟨(aU.block _ RO.lt (.inr (by omega))).trans RO.out⟩
   have z:Ah S w.heap.size #[.slice T 0 0,U V 0,.slice T 0 0] 26:=⟨(aU.block _ H.lt (.inl (by omega))).trans H.out⟩
   clear J K L ag;obtain⟨J,K,L⟩:=Ao i;have ag:=i.frozen;have D:=Ab (Ul (w:=w) (Aa f _ _ _ (Aa C)) i u g h1 A ((Aa C).num (Aa bF)) z (AT F aU (by omega) F.size) (by omega));clear C u g aU i f;dsimp only;go_wp2
   go_meet
   exact D
 case rest=>
  obtain⟨P,s,I,x,cx,ak,al,aL,lo,i,f,u,g,h1,A,bC,z,ab⟩:=Aa hcut;clear hcut aa RO H F a2 c0 c1 c2 af;have cl:l<wc.heap.size:=i.lt;obtain⟨J,K,L⟩:=Ao i;obtain⟨c0,c1,c2⟩:=Ao z;have af:=z.frozen;by_cases h5:y % 5=4
  ·have b0:(y % 5==4)=true:=zF.2 h5;have O:=Ab (show ∀(ai:List Vl) (aj:Int) (I':List Cg),(ai,aj,I')=JI zs (zs.length / 2) P s I->Xy zs ai aj I' from fun ai aj I' e=>Aa W _ _ _ _ _ _ (Aa f) (by rw[if_pos h5];exact e));clear h5 W;go_wp2_with fail
   refine Gh (P:=fun aV=>Calls _ _ _ aV _) fun cm aG ad=>?_;have e2:((n / 2 :Nat):Int)=(n:Int) / 2:=by omega
   rw[<-e2]at ad;have E:=ab.trans (aG.mono ab.size);have bD:=XL ad (Aa a0) E (by omega) (by omega) bi;refine(AbV bD (u.keep fun q co t r _=>aG.block q r.lt) (Af g aG NLN) h1 (by omega)).mono ?_;rintro r b1 ⟨⟨ai,aj,I',b2,b4,ac,b6,cp,rfl,bd,b7,b8,b9,ca⟩,bf⟩;have aF:=z.after aG NLN;have bg:Ah b1 w.heap.size #[.slice T 0 0,U V 0,.slice T 0 0] 26:=⟨(bf.block _ aF.lt (.inl (by omega))).trans aF.out⟩
   have cb:=AT E bf (by omega) E.size;have cc:=Ab (Ab0 (Aa bd) bC);have cd:=Ab (Aa O ai aj I' (by rw[<-(Aa a0).len];exact Aa bd));clear J K L c0 c1 c2 af aF bD ad aG bf bd e2;obtain⟨c0,c1,c2⟩:=Ao bg;have af:=bg.frozen;dsimp only;go_wp2_with fail
   obtain⟨⟨ao,bh,ap⟩,e⟩:=Aeu (X:=Xy zs) bg b7 b8 b9 ca (Aa cc) (Aa cd) rfl;exact bodyPost_ret (v:= jE #[.slice b2 ai.length b4,U V aj,.slice ac I'.length b6]) (by simp[results,results11,go_sem,ao,bh,ap]) rfl ⟨e,((cb.setCell (p:=⟨w.heap.size,0,T⟩) NLN _).setCell (p:=⟨w.heap.size,1,T⟩) NLN _).setCell (p:=⟨w.heap.size,2,T⟩) NLN _⟩
  ·have b0:(y % 5==4)=false:=zA.2 h5;have O:=Ab (Aa W P s I P s I (Aa f) (by rw[if_neg h5];exact⟨rfl,rfl,rfl⟩));clear h5 W;go_wp2_with fail
   obtain⟨⟨ao,bh,ap⟩,e⟩:=Aeu (X:=Xy zs) z u g h1 (by omega) bC (Aa O) rfl;exact bodyPost_ret (v:= jE #[.slice x P.length cx,U V s,.slice ak I.length al]) (by simp[results,results11,go_sem,ao,bh,ap]) rfl ⟨e,((ab.setCell (p:=⟨w.heap.size,0,T⟩) NLN _).setCell (p:=⟨w.heap.size,1,T⟩) NLN _).setCell (p:=⟨w.heap.size,2,T⟩) NLN _⟩
theorem Y8 (a:Option jD)(n c:Nat)(zs:List Int)(w:Z)(h:Eh w a n c zs)(f:n<=1048576):
  Calls jL 4 #[.slice a n c] w fun r w'=>CdA (Xy zs) r w'/\An w w':=by
 go_enter func4,ntmps4
 go_wp2_with fail
 refine Gh (P:=fun g=>Calls _ _ _ g _) fun i b j=>?_;refine(AfO a n c zs i (h.below b NLN) f).mono ?_;rintro r C ⟨⟨P,s,I,x,cx,y,k,D,rfl,l,m,o,h1,q,t⟩,b1⟩;have d:=j.after b1 NLN;have u:=b.trans (b1.mono b.size);obtain⟨c0,c1,c2⟩:=Ao d;have E:=d.frozen;dsimp only;go_wp2_with fail
 obtain⟨⟨z,A,B⟩,e⟩:=Aeu (X:=Xy zs) d m o h1 q t (Aa l) rfl;exact bodyPost_ret (v:= jE #[.slice x P.length cx,U V s,.slice y I.length k]) (by simp[results,results4,go_sem,z,A,B]) rfl ⟨e,((u.setCell (p:=⟨w.heap.size,0,T⟩) NLN _).setCell (p:=⟨w.heap.size,1,T⟩) NLN _).setCell (p:=⟨w.heap.size,2,T⟩) NLN _⟩
set_option maxHeartbeats 6400000
def dcF (zs:List Int) (E:List Int):List Int:=
 if (nx zs (zs.length / 3)).1 % 4=3/\0<E.length then
  (if (nx zs (zs.length / 3)).1 / 4 % 4=0 then E.set (((nx zs (nx zs (zs.length / 3)).2).1*256+(nx zs (nx zs (nx zs (zs.length / 3)).2).2).1) % (E.length:Int)).toNat (nx zs (nx zs (nx zs (nx zs (zs.length / 3)).2).2).2).1
    else if (nx zs (zs.length / 3)).1 / 4 % 4=1 then E.take (((nx zs (nx zs (zs.length / 3)).2).1*256+(nx zs (nx zs (nx zs (zs.length / 3)).2).2).1) % (E.length:Int)).toNat
    else if (nx zs (zs.length / 3)).1 / 4 % 4=2 then E++[(nx zs (nx zs (nx zs (nx zs (zs.length / 3)).2).2).2).1]
    else E.set (((nx zs (nx zs (zs.length / 3)).2).1*256+(nx zs (nx zs (nx zs (zs.length / 3)).2).2).1) % (E.length:Int)).toNat ((E.getD (((nx zs (nx zs (zs.length / 3)).2).1*256+(nx zs (nx zs (nx zs (zs.length / 3)).2).2).1) % (E.length:Int)).toNat 0+1) % 256))
 else E
def DcX (zs:List Int) (L:List Int):Prop:=∃P s I,Xy zs P s I/\L=dcF zs (Eo P s I)
theorem DcX.one {zs L b:List Int}(h:DcX zs L)(h':DcX zs b):L=b:=by
 obtain⟨P,s,I,a,rfl⟩:=h;obtain⟨d,f,I',c,rfl⟩:=h';obtain⟨rfl,rfl,rfl⟩:=a.one c;rfl
def ByO (X:List Int->Prop) (w:Z) (r:Ending) (w':Z):Prop:=∃v L,r= .returned v/\Hid (X L)/\w'.ownsRow w.heap.size 5 1 v L.length (AA L)/\AB L/\L.length<=20000001/\An w w'
theorem AB.cat {B:List Int}(h:AB A)(k:AB B):AB (A++B):=fun x hx=>(zM.1 hx).elim (h x) (k x)
theorem AB.flat {a:Type}{f:a->List Int}{l:List a}(h:∀x,AB (f x)):AB (l.flatMap f):=fun x hx=>by
 obtain⟨y,_,hy⟩:=Z2.1 hx;exact h y x hy
theorem GB (x:Int):∀w,AB (BS x w)
 |0=>fun y hy=>by cases hy
 |w+1=>fun y hy=>by
  rcases zT.1 hy with e|e
  ·rw[e];exact Ml x w
  ·exact GB x w y e
theorem Za (s:ByteArray):AB (KM s):=fun x hx=>by
 obtain⟨b,_,rfl⟩:=zn.1 hx;have:=b.toNat_lt;omega
theorem Uo (P:List Vl)(s:Int)(I:List Cg):AB (Eo P s I):=by
 have a:∀s,AB (Bn s):=fun s=>(GB _ 1).cat (Za s);have nil:AB []:=fun x hx=>by cases hx
 rw[Eo];split
 ·refine(((((?_:AB [80,76,49]).cat (GB _ 2)).cat (AB.flat fun v=>?_)).cat (GB _ 2)).cat (GB _ 2)).cat (AB.flat fun i=>(GB _ 1).cat (GB _ 2))
  ·intro x hx;simp at hx;omega
  ·refine(GB _ 1).cat ?_;split
   ·exact GB _ 1
   ·split
    ·exact GB _ 8
    ·split
     ·exact a _
     ·split
      ·exact(GB _ 1).cat (AB.flat a)
      ·exact nil
 ·exact nil
theorem AB.set {E:List Int}(h:AB E)(t:Nat){x:Int}(hx: 0<=x/\x<256):AB (E.set t x):=fun y hy=>by
 rcases List.mem_or_eq_of_mem_set hy with e|e
 ·exact h y e
 ·rw[e];exact hx
theorem Ab3 {a:Z}{lo g b:Nat}{E:List Int}(o:a.ownsRow lo 5 1 (X (Y ⟨g,0,T⟩) E.length b) E.length (AA E))(t:Nat)(x:Int):(a.setCell ⟨g,t,T⟩ (U .u8 x)).ownsRow lo 5 1 (X (Y ⟨g,0,T⟩) E.length b) (E.set t x).length (AA (E.set t x)):=by
 have:=(o.stored t (U .u8 x)).1;rw[z6,show AA (E.set t x)=(AA E).set t (U .u8 x) by simp[AA,List.map_set]];exact this
theorem Zb (a:Option jD)(n c:Nat)(zs:List Int)(w:Z)(h:Eh w a n c zs)(ay:n<=1048576):
  Calls jL 9 #[X a n c] w fun r w'=>ByO (DcX zs) w r w':=by
 obtain⟨aR,aS,aT,aU,aV⟩:=info_parts Mm;go_enter func9,ntmps9
 go_wp2_with fail
 refine(AfO a n c zs w h ay).mono ?_;rintro r d ⟨⟨P,s,I,x,cx,y,aW,bj,rfl,az,aA,aB,h1,aC,-⟩,b1⟩;dsimp only;go_wp2_with fail
 refine(JJ x y P.length cx I.length aW s P I d (aA.vls rfl h1) (Ui aB aC)).mono ?_;rintro r w2 ⟨v,rfl,H,b2⟩;have j:=Ab (show ∀L,L=dcF zs (Eo P s I)->DcX zs L from fun L e=>⟨P,s,I,Aa az,e⟩);have l:=Uo P s I;have aX:=Qa P s I;generalize Eo P s I=E at H j l aX;obtain⟨aY,J,rfl,aD⟩:=Ae H;have af:=b1.trans (b2.mono b1.size);have C:w.heap.size<=d.heap.size:=b1.size;have bk:d.heap.size<=w2.heap.size:=b2.size;have aE:=Ab h;clear aA aB az b1 b2 h;dsimp only;go_wp2_with fail
 refine Gh (P:=fun W=>Calls _ _ _ W _) fun aZ ag ah=>?_;have e2:((n / 3 :Nat):Int)=(n:Int) / 3:=by omega
 rw[<-e2]at ah;have aa:=af.trans (ag.mono af.size);have aF:=Af H ag NLN;have ai:=XL ah (Aa aE) aa (by omega) (by omega) ay;obtain⟨R,aj⟩:∃R,R=w2.heap.size:=⟨_,rfl⟩
 rw[<-aj]at ai|-;refine(BH R a n c zs (n / 3) aZ ai).mono ?_;rintro r a0 ⟨k,a1,rfl,ab,bl,bm,aG,ak⟩;have K:∀{W aH:Z} {v:jB} {m:Nat} {aI:List jB},W.ownsRow d.heap.size 5 1 v m aI->(∀q,v.ownBlock=Y q->q<R)->Al R (R+1) W aH->aH.ownsRow d.heap.size 5 1 v m aI:=fun o a2 T=>Ad o fun q D=>T.block q (o.lt q D).2 (.inl (a2 q D));have M:∀q,(Value.slice aY E.length J).ownBlock=Y q->q<R:=fun q D=>by rw[aj];exact(H.lt q D).2
 have ac:=K aF M ak;have N:=AT aa ak (by omega) aa.size;have a3:=Ab (Aa aE).len;rw[Aa a3]at ab;have bn:w.heap.size<=R:=by omega
 clear ah af ag H aF aa ai ak aj e2;dsimp only;by_cases hc:k % 4=3/\0<E.length
 ·have F:(k % 4==3)=true:=zF.2 hc.1;have aJ:(0 :Int)<(E.length:Int):=by have:=hc.2;omega
  have bo: ¬ (E.length=0):=by have:=hc.2;omega
  have bp: ¬ ((E.length:Int)=0):=by omega
  obtain⟨g,rfl,-⟩:=aD (by omega);go_wp2_with fail
  refine(BH R a n c zs a1 a0 aG).mono ?_;rintro r a4 ⟨al,a5,rfl,aK,br,bs,aL,ao⟩;have aM:=K ac M ao;have ap:=AT N ao (by omega) N.size;dsimp only;go_wp2_with fail
  refine(BH R a n c zs a5 a4 aL).mono ?_;rintro r aq ⟨ar,ad,rfl,aN,bt,bu,aO,au⟩;have f:=K aM M au;have G:=AT ap au (by omega) ap.size;obtain⟨t,a6⟩:∃t:Nat,(al*256+ar) % (E.length:Int)=(t:Int):=⟨((al*256+ar) % (E.length:Int)).toNat,(Int.toNat_of_nonneg (Int.emod_nonneg _ (by omega))).symm⟩
  have av:t<E.length:=by have:=Int.emod_lt_of_pos (al*256+ar) aJ;omega
  have bv:(t:Int)<(E.length:Int):=by omega
  have A:=Ab (show dcF zs E=(if k / 4 % 4=0 then E.set t (nx zs ad).1 else if k / 4 % 4=1 then E.take t else if k / 4 % 4=2 then E++[(nx zs ad).1]else E.set t ((E.getD t 0+1) % 256)) by
   unfold dcF;rw[Aa ab];dsimp only;rw[Aa aK];dsimp only;rw[Aa aN];dsimp only;rw[if_pos hc,a6,zb])
  have a7:=f.frozenAt t;have aw:aq.cell? ⟨g,t,none⟩=Y (U .u8 E[t]):=by rw[f.cellAt (g:=g) (n:=E.length) t (by omega)];simp[AA,List.getElem?_map,List.getElem?_eq_getElem av]
  clear ac aM N ap ao au aG aL ab aK aN aD hc;dsimp only;rcases(show k / 4 % 4=0\/k / 4 % 4=1\/k / 4 % 4=2\/k / 4 % 4=3 by omega)with hv|hv|hv|hv
  ·go_wp2_with fail
   refine(BH R a n c zs ad aq aO).mono ?_;rintro r O ⟨b,a8,rfl,ax,a9,ba,bb,S⟩;have B:=K f M S;have ae:=AT G S (by omega) G.size;have a7:=B.frozenAt t;have aw:O.cell? ⟨g,t,none⟩=Y (U .u8 E[t]):=by rw[B.cellAt (g:=g) (n:=E.length) t (by omega)];simp[AA,List.getElem?_map,List.getElem?_eq_getElem av]
   have i:=Ab (show E.set t b=dcF zs E by rw[Aa A,if_pos hv,Aa ax]);generalize E[t]=z at aw;have bc:d.heap.size<=g:=(B.lt g rfl).1;dsimp only;go_wp2
   go_ret
   exact⟨_,E.set t b,rfl,Ab (Aa j _ (Aa i)),Aj (Ab3 B t b) C,l.set t (by omega),by rw[z6];omega,ae.setCell (p:=⟨g,t,none⟩) (by show w.heap.size<=g;omega) _⟩
  ·have bw:E.length<=J:=by
    rcases f.2 with⟨q,h0⟩|⟨bx,cap,bz,q,h1,aC,bd,_⟩
    ·cases q
    ·cases q;exact bd
   have bA: ¬ (J=0):=by omega
   have bB:(t:Int)<=(J:Int):=by omega
   have i:=Ab (show E.take t=dcF zs E by rw[Aa A,if_neg (by omega),if_pos hv]);go_wp2
   go_ret
   exact⟨_,E.take t,rfl,Ab (Aa j _ (Aa i)),by rw[zv,Nat.min_eq_left (by omega),show AA (E.take t)=(AA E).take (t*1) by simp[AA,List.map_take]];exact Aj (Ij f (m:=t) (by omega)) C,l.take t,by rw[zv];omega,G⟩
  ·go_wp2_with fail
   refine(BH R a n c zs ad aq aO).mono ?_;rintro r O ⟨b,a8,rfl,ax,a9,ba,bb,S⟩;have B:=K f M S;have ae:=AT G S (by omega) G.size;have i:=Ab (show E++[b]=dcF zs E by rw[Aa A,if_neg (by omega),if_neg (by omega),if_pos hv,Aa ax]);have bC:=(B.lt g rfl)
   dsimp only;go_wp2_with (at_builtin;refine wpList_append_lies _ rfl _ _ 22 rfl d.heap.size 5 aR (U .u8 0) 1 1 underlying22 aS aT aU aV rfl (by decide) (X (Y ⟨g,0,none⟩) E.length J) E.length (AA E) rfl (World.ownsRow.alloc B _) ⟨O.heap.size,0,none⟩ 1 1 [U .u8 b] rfl rfl (World.news_of_block (heap_alloc_new O (jC #[U .u8 b] 5))) ?c1 (by decide) ?d1 ?e1 ?f1 (O.heap.size+1) (by simp) ?_)
   case c1=>first|exact rfl|(intro u hu;simp at hu;rw[hu];rfl)
   case d1=>unfold maxLen;omega
   case e1=>omega
   case f1=>first|omega|(simp;omega)
   intro bD bE bF aP aQ _ _;have bf:=Ab aP;have bg:=Ab (((ae.alloc ae.size (jC #[U .u8 b] 5)).grown aQ (by simp;omega) (fun q D=>by have:Y g=Y q:=D;simp at this;omega)));clear aP aQ;go_wp2
   go_ret
   exact⟨_,E++[b],rfl,Ab (Aa j _ (Aa i)),by rw[zB,zg,show AA (E++[b])=AA E++[U .u8 b] by simp[AA]];exact Aj (Aa bf) C,l.cat (fun z bh=>by rw[zO.1 bh];omega),by simp;omega,Aa bg⟩
  ·have i:=Ab (show E.set t ((E[t]+1) % 256)=dcF zs E by rw[Aa A,if_neg (by omega),if_neg (by omega),if_neg (by omega),zo,zL av];rfl);generalize E[t]=z at aw i;have bc:d.heap.size<=g:=(f.lt g rfl).1;go_wp2
   go_ret
   exact⟨_,E.set t ((z+1) % 256),rfl,Ab (Aa j _ (Aa i)),Aj (Ab3 f t _) C,l.set t (by omega),by rw[z6];omega,G.setCell (p:=⟨g,t,none⟩) (by show w.heap.size<=g;omega) _⟩
 ·have A:=Ab (show E=dcF zs E by unfold dcF;rw[Aa ab];dsimp only;rw[if_neg hc]);by_cases F:k % 4=3
  ·have bi:(k % 4==3)=true:=zF.2 F;have aJ: ¬ ((0 :Int)<(E.length:Int)):=fun h=>hc ⟨F,by omega⟩;clear hc F;go_wp2
   go_ret
   exact⟨_,E,rfl,Ab (Aa j _ (Aa A)),Aj ac C,l,by omega,N⟩
  ·have bi:(k % 4==3)=false:=zA.2 F;clear hc F;go_wp2
   go_ret
   exact⟨_,E,rfl,Ab (Aa j _ (Aa A)),Aj ac C,l,by omega,N⟩
end Go.Proofs.YtppafecmccdplaaGreat
