import Derived.Test.YteiieikcjcfkkaaGreatDoorMXBC
import Derived.Test.YteiieikcjcfkkaaGreatDoorShelf
import Derived.Test.YteiieikcjcfkkaaGreatDoorMXBJ
open Go.Proofs.Tryz
open Option renaming none->T,some->X
open Go.Value renaming int->U,slice->Y,iface->jB,agg->jG,tuple->jO
open Go.IntKind renaming i64->V
open Go renaming World->Z,Value->R,Calls->jE,TypeId->jJ,bodyPost_ret->jN,rounds_succ->je,wp_loop_rounds->jv
open Go.Ending renaming returned->jH
open List renaming length_cons->jY,map_cons->jd
open Go.Proofs.Tryz renaming prog->j4
namespace Go.Proofs.YteiieikcjcfkkaaGreatDoor
open Go.RowKit
set_option linter.unusedSimpArgs false
set_option linter.unnecessarySimpa false
set_option linter.unusedVariables false
set_option maxRecDepth 100000
set_option maxHeartbeats 3200000
variable {Es:List Ex}{N:List Nd}{S:List Sx}{B g n c size:Nat}{α:Type}{w:Z}
def Mu (U:List Bool):Ex->List Bool
 |.lett _ n=>U.set n.toNat true
 |.un _ _ k=>Mu U k
 |.bin _ _ l r=>Mu (Mu U l) r
 |.ite _ c t e=>Mu (Mu (Mu U c) t) e
 |_=>U
def Vi (w:Z) (ub:Nat) (U:List Bool):Prop:=Ag w ub (U.map fun b=>Value.bool b).toArray 4
def Ii (ub:Nat) (U:List Bool) (w:Z) (r:Ending) (w':Z):Prop:=r=jH (jO #[])/\Vi w' ub U/\Iq (fun k=>k=ub) w w'
theorem FT {T:jJ}{v:R}{i:Int}(b:T≠173)(k:∀w,(method 422 T v "loop.example/s01308/impl.kids").run j4 w= .ok (229,U V i) w)(a n:Nat)(c:List Bool)(w:Z)(h:Vi w a c):
  jE j4 64 #[jB T v,Y (X ⟨a,0,none⟩) n n] w (Ii a c w):=by
 have l:=A8 (S:=T) (T:=173) underlying173 zeroValue173 b 106;have d:=Av w (.cells #[U V 0,U V 0] 173);have f:=Ag.after h d NLN;have j:=Ab f;clear b h f;go_enter func64,ntmps64
 go_wp2_with fail
 refine(JW i _).mono ?_;rintro m o ⟨rfl,g⟩;rw[g];clear g;dsimp only;go_wp2_with fail
 refine jv 1 ?_;rw[je];go_wp2_with fail
 go_end0
 exact⟨rfl,Aa j,Iq.of_below d⟩
theorem Ae6 (i:Int)(k c n:Nat)(a:List Bool)(w:Z)(h:Vi w c a)(l:a.length=n)(q:k<n)(r:n<=65535):
  jE j4 64 #[jB 173 (jG #[U V i,U V k]),Y (X ⟨c,0,none⟩) n n] w (Ii c (a.set k true) w):=by
 have s:=De (T:=173) underlying173 106;have t:=Tk i k;have d:=Av w (.cells #[U V i,U V k] 173);have R:=Ag.after h d NLN;have c1:=R.cell k;have u:=R.frozen k;have v:(k:Int)<(n:Int):=by omega
 have f:=R.set k (.bool true);have m:=Ab (show Vi _ c (a.set k true)from by
  have e:(a.map fun b=>Value.bool b).toArray.setIfInBounds k (.bool true)=((a.set k true).map fun b=>Value.bool b).toArray:=by simp[List.map_set]
  unfold Vi;rw[<-e];exact f)
 have o:=Ab (Iq.setCell (Iq.of_below (S:=fun k=>k=c) d) (p:=⟨c,k,none⟩) (fun _=>rfl) (.bool true));obtain⟨x,y⟩:=Xh (Ag.new w #[U V i,U V k] 173);have g:k<a.length:=by omega
 clear R f h l;simp only[List.getElem?_toArray,zZ,zG g,Option.map]at c1;generalize a[k]=z at c1;clear g;go_enter func64,ntmps64
 go_wp2_with fail
 refine(JW i _).mono ?_;rintro A B ⟨rfl,j⟩;rw[j];clear j;dsimp only;go_wp2_with fail
 refine jv 1 ?_;rw[je];go_wp2_with fail
 go_end0
 exact⟨rfl,Aa m,Aa o⟩
theorem Ahj (i op:Int)(c:jJ)(d:R)(b n:Nat)(j:List Bool->List Bool)
  (s:Hid (∀l a,Vi l b a->a.length=n->jE j4 64 #[jB c d,Y (X ⟨b,0,none⟩) n n] l (Ii b (j a) l)/\(j a).length=n))(a:List Bool)(w:Z)(h:Vi w b a)(m:a.length=n):
  jE j4 64 #[(jB 166 (jG #[U V i,U V op,jB c d])),Y (X ⟨b,0,none⟩) n n] w (Ii b (j a) w):=by
 have E:=Aay i op c d;have t:=Ab (KU i op c d);have F:=A8 (S:=166) (T:=173) underlying173 zeroValue173 (by decide) 106;have f:=Av w (.cells #[U V 0,U V 0] 173);have G:=Ag.lt h;have o:=Ag.after h f NLN;have u:=Ab m;clear h m;go_enter func64,ntmps64
 go_wp2_with fail
 refine(Aa t _).mono ?_;rintro v p ⟨g,rfl,hg,x,q⟩;have y:=f.trans (q.mono f.size);have z:=Ab (Ag.after o q NLN);have H: ¬ g=b:=by have:=f.size;omega
 have A:=Iq.of_below (S:=fun k=>k=b) y;clear o;dsimp only;go_wp2_with fail
 refine jv 2 ?_;rw[je];have c1:p.cell? ⟨g,0,none⟩=X (jB c d):=x.cell 0;have B:=Ab (Aa s p a (Aa z) (Aa u));go_wp2_with fail
 refine(Aa B).1.mono ?_;rintro v I ⟨rfl,e2,r⟩;have C:=Ab e2;have D:=A.trans r (fun _ _ h=>h);clear c1 e2 r;dsimp only;go_wp2_with fail
 rw[je];go_wp2_with fail
 go_end0
 exact⟨rfl,Aa C,D⟩
theorem Ae7 (i op:Int)(d:jJ)(f:R)(j:jJ)(l:R)(b n:Nat)(m p:List Bool->List Bool)
  (B:Hid (∀c a,Vi c b a->a.length=n->jE j4 64 #[jB d f,Y (X ⟨b,0,none⟩) n n] c (Ii b (m a) c)/\(m a).length=n))(C:Hid (∀c a,Vi c b a->a.length=n->jE j4 64 #[jB j l,Y (X ⟨b,0,none⟩) n n] c (Ii b (p a) c)/\(p a).length=n))(a:List Bool)(w:Z)(h:Vi w b a)(r:a.length=n):
  jE j4 64 #[(jB 168 (jG #[U V i,U V op,jB d f,jB j l])),Y (X ⟨b,0,none⟩) n n] w (Ii b (p (m a)) w):=by
 have P:=Wf i op d f j l;have D:=Ab (Jq i op d f j l);have W:=A8 (S:=168) (T:=173) underlying173 zeroValue173 (by decide) 106;have o:=Av w (.cells #[U V 0,U V 0] 173);have aa:=Ag.lt h;have s:=Ag.after h o NLN;have E:=Ab r;clear h r;go_enter func64,ntmps64
 go_wp2_with fail
 refine(Aa D _).mono ?_;rintro t u ⟨g,rfl,hg,v,x⟩;have F:=o.trans (x.mono o.size);have G:=Ab (Ag.after s x NLN);have H: ¬ g=b:=by have:=o.size;omega
 have I:=Iq.of_below (S:=fun k=>k=b) F;clear s;dsimp only;go_wp2_with fail
 refine jv 3 ?_;rw[je];have c1:u.cell? ⟨g,0,none⟩=X (jB d f):=v.cell 0;have y:=Ab (Aa B u a (Aa G) (Aa E));go_wp2_with fail
 refine(Aa y).1.mono ?_;rintro t z ⟨rfl,e2,q⟩;have J:=Ab e2;have K:=Ag.kpt v q H;have L:=I.trans q (fun _ _ h=>h);clear c1 e2 q;dsimp only;go_wp2_with fail
 rw[je];have c2:z.cell? ⟨g,1,none⟩=X (jB j l):=K.cell 1;have M:=Ab (Aa C z (m a) (Aa J) (Aa y).2);go_wp2_with fail
 refine(Aa M).1.mono ?_;rintro t ab ⟨rfl,e3,A⟩;have N:=Ab e3;have O:=L.trans A (fun _ _ h=>h);clear c2 e3 A;dsimp only;go_wp2_with fail
 rw[je];go_wp2_with fail
 go_end0
 exact⟨rfl,Aa N,O⟩
theorem Ae8 (i:Int)(d:jJ)(f:R)(j:jJ)(l:R)(m:jJ)(o:R)(b n:Nat)(p q s:List Bool->List Bool)
  (J:Hid (∀c a,Vi c b a->a.length=n->jE j4 64 #[jB d f,Y (X ⟨b,0,none⟩) n n] c (Ii b (p a) c)/\(p a).length=n))(K:Hid (∀c a,Vi c b a->a.length=n->jE j4 64 #[jB j l,Y (X ⟨b,0,none⟩) n n] c (Ii b (q a) c)/\(q a).length=n))(L:Hid (∀c a,Vi c b a->a.length=n->jE j4 64 #[jB m o,Y (X ⟨b,0,none⟩) n n] c (Ii b (s a) c)/\(s a).length=n))(a:List Bool)(w:Z)(h:Vi w b a)(x:a.length=n):
  jE j4 64 #[(jB 213 (jG #[U V i,jB d f,jB j l,jB m o])),Y (X ⟨b,0,none⟩) n n] w (Ii b (s (q (p a))) w):=by
 have ai:=Wg i d f j l m o;have M:=Ab (Jr i d f j l m o);have aj:=A8 (S:=213) (T:=173) underlying173 zeroValue173 (by decide) 106;have r:=Av w (.cells #[U V 0,U V 0] 173);have ak:=Ag.lt h;have y:=Ag.after h r NLN;have N:=Ab x;clear h x;go_enter func64,ntmps64
 go_wp2_with fail
 refine(Aa M _).mono ?_;rintro t z ⟨g,rfl,hg,A,B⟩;have O:=r.trans (B.mono r.size);have P:=Ab (Ag.after y B NLN);have C: ¬ g=b:=by have:=r.size;omega
 have W:=Iq.of_below (S:=fun k=>k=b) O;clear y;dsimp only;go_wp2_with fail
 refine jv 4 ?_;rw[je];have c1:z.cell? ⟨g,0,none⟩=X (jB d f):=A.cell 0;have D:=Ab (Aa J z a (Aa P) (Aa N));go_wp2_with fail
 refine(Aa D).1.mono ?_;rintro t E ⟨rfl,e2,u⟩;have aa:=Ab e2;have F:=Ag.kpt A u C;have ab:=W.trans u (fun _ _ h=>h);clear c1 e2 u;dsimp only;go_wp2_with fail
 rw[je];have c2:E.cell? ⟨g,1,none⟩=X (jB j l):=F.cell 1;have G:=Ab (Aa K E (p a) (Aa aa) (Aa D).2);go_wp2_with fail
 refine(Aa G).1.mono ?_;rintro t H ⟨rfl,e3,v⟩;have ac:=Ab e3;have ad:=Ag.kpt F v C;have ae:=ab.trans v (fun _ _ h=>h);clear c2 e3 v;dsimp only;go_wp2_with fail
 rw[je];have c3:H.cell? ⟨g,2,none⟩=X (jB m o):=ad.cell 2;have af:=Ab (Aa L H (q (p a)) (Aa ac) (Aa G).2);go_wp2_with fail
 refine(Aa af).1.mono ?_;rintro t al ⟨rfl,e4,I⟩;have ag:=Ab e4;have ah:=ae.trans I (fun _ _ h=>h);clear c3 e4 I;dsimp only;go_wp2_with fail
 rw[je];go_wp2_with fail
 go_end0
 exact⟨rfl,Aa ag,ah⟩
theorem Pv (e:Ex):∀(a:List Bool),(Mu a e).length=a.length:=by
 induction e with
 |lett i n=>intro a;simp[Mu]
 |un i op k f=>intro a;exact f a
 |bin i op l h b d=>intro a;rw[Mu,d,b]
 |ite i c t e b d g=>intro a;rw[Mu,g,d,b]
 |_=>intro a;rfl
def Mv (n:Nat):Ex->Prop
 |.lett _ m=>0<=m/\m<n
 |.un _ _ k=>Mv n k
 |.bin _ _ l r=>Mv n l/\Mv n r
 |.ite _ c t e=>Mv n c/\Mv n t/\Mv n e
 |_=>True
theorem Gi (f n:Nat)(j:n<=65535):∀(e:Ex),Mv n e->∀d b,Vi d f b->b.length=n->jE j4 64 #[e.val,Y (X ⟨f,0,T⟩) n n] d (Ii f (Mu b e) d)/\(Mu b e).length=n
 |.int i v,_,d,b,h,hU=>⟨FT (by decide) (Wc i v) f n b d h,hU⟩
 |.text i v,_,d,b,h,hU=>⟨FT (by decide) (Tf i v) f n b d h,hU⟩
 |.bool i v,_,d,b,h,hU=>⟨FT (by decide) (Tg i v) f n b d h,hU⟩
 |.set i a v c ss,_,d,b,h,hU=>⟨FT (by decide) (We i a v c) f n b d h,hU⟩
 |.name i v,_,d,b,h,hU=>⟨FT (by decide) (Th i v) f n b d h,hU⟩
 |.attr i v,_,d,b,h,hU=>⟨FT (by decide) (Tj i v) f n b d h,hU⟩
 |.lett i v,hl,d,b,h,hU=>by
  obtain⟨k,rfl⟩:∃k:Nat,v=k:=⟨v.toNat,by have:=hl.1;omega⟩
  exact⟨Ae6 i k f n b d h hU (by have:=hl.2;omega) j,by rw[Pv];exact hU⟩
 |.un i op k,hl,d,b,h,hU=>by
  have w:=Gi f n j k hl;obtain⟨m,p,g⟩:=k.form;rw[g]at w;simp only[Ex.val,g];exact⟨Ahj i op m p f n (fun b=>Mu b k) (Ab w) b d h hU,by rw[Pv];exact hU⟩
 |.bin i op k l,hl,d,b,h,hU=>by
  have q:=Gi f n j k hl.1;have r:=Gi f n j l hl.2;obtain⟨m,p,g⟩:=k.form;obtain⟨t,u,s⟩:=l.form;rw[g]at q;rw[s]at r;simp only[Ex.val,g,s];exact⟨Ae7 i op m p t u f n (fun b=>Mu b k) (fun b=>Mu b l) (Ab q) (Ab r) b d h hU,by rw[Pv];exact hU⟩
 |.ite i k l o,hl,d,b,h,hU=>by
  have q:=Gi f n j k hl.1;have r:=Gi f n j l hl.2.1;have x:=Gi f n j o hl.2.2;obtain⟨m,p,g⟩:=k.form;obtain⟨t,u,s⟩:=l.form;obtain⟨z,A,y⟩:=o.form;rw[g]at q;rw[s]at r;rw[y]at x;simp only[Ex.val,g,s,y];exact⟨Ae8 i m p t u z A f n (fun b=>Mu b k) (fun b=>Mu b l) (fun b=>Mu b o) (Ab q) (Ab r) (Ab x) b d h hU,by rw[Pv];exact hU⟩
theorem Ae9 (a:R)(w:Z):jE j4 64 #[.nilIface,a] w fun b w'=>b=jH (jO #[])/\w'=w:=by
 go_enter func64,ntmps64
 go_wp2_with fail
 exact jN (results_none rfl _ _ _) rfl ⟨rfl,rfl⟩
theorem Ll {m:Nat} :∀(e:Ex),Mv m e->∀(a:List Bool) (n:Nat),(Mu a e)[n]? =(a[n]?).map fun b=>b||usE n e
 |.lett i k,h,a,n=>by
  obtain⟨j,rfl⟩:∃j:Nat,k=j:=⟨k.toNat,by have:=h.1;omega⟩
  simp only[Mu,usE,zV,List.getElem?_set];by_cases d:j=n
  ·subst d;by_cases f:j<a.length
   ·simp[f]
   ·simp[f]
  ·have g: ¬ ((j:Int)=(n:Int)):=by omega
   simp[d,g]
 |.un i op k,h,a,n=>Ll k h a n
 |.bin i op k l,h,a,n=>by
  rw[Mu,Ll l h.2,Ll k h.1,Option.map_map];simp only[usE];cases a[n]?<;>simp[Bool.or_assoc]
 |.ite i k l o,h,a,n=>by
  rw[Mu,Ll o h.2.2,Ll l h.2.1,Ll k h.1,Option.map_map,Option.map_map];simp only[usE];cases a[n]?<;>simp[Bool.or_assoc]
 |.int ..,h,a,n=>by cases c:a[n]?<;>simp[Mu,usE,c]
 |.text ..,h,a,n=>by cases c:a[n]?<;>simp[Mu,usE,c]
 |.bool ..,h,a,n=>by cases c:a[n]?<;>simp[Mu,usE,c]
 |.set ..,h,a,n=>by cases c:a[n]?<;>simp[Mu,usE,c]
 |.name ..,h,a,n=>by cases c:a[n]?<;>simp[Mu,usE,c]
 |.attr ..,h,a,n=>by cases c:a[n]?<;>simp[Mu,usE,c]
theorem Ez {ts:List Int} :∀(e:Ex),(∃t,Al ts e=X t)->Mv ts.length e
 |.lett i k,⟨t,h⟩=>by
  rw[Al]at h;split at h
  ·rename_i h0;have:=(zd.1 h).1;exact⟨h0,by omega⟩
  ·cases h
 |.un i op k,⟨t,h⟩=>by
  rw[Al]at h;cases d:Al ts k with
  |none=>rw[d]at h;cases h
  |some a=>exact Ez k ⟨a,d⟩
 |.bin i op k l,⟨t,h⟩=>by
  rw[Al]at h;cases d:Al ts k with
  |none=>rw[d]at h;cases h
  |some a=>
   cases f:Al ts l with
   |none=>rw[d,f]at h;cases h
   |some b=>exact⟨Ez k ⟨a,d⟩,Ez l ⟨b,f⟩⟩
 |.ite i k l o,⟨t,h⟩=>by
  rw[Al]at h;cases d:Al ts k with
  |none=>rw[d]at h;cases h
  |some a=>
   cases f:Al ts l with
   |none=>rw[d,f]at h;cases h
   |some b=>
    cases g:Al ts o with
    |none=>rw[d,f,g]at h;cases h
    |some c=>exact⟨Ez k ⟨a,d⟩,Ez l ⟨b,f⟩,Ez o ⟨c,g⟩⟩
 |.int ..,_=>trivial
 |.text ..,_=>trivial
 |.bool ..,_=>trivial
 |.set ..,_=>trivial
 |.name ..,_=>trivial
 |.attr ..,_=>trivial
section
open Go.RowKit Go.Lib Go.Sort Go.Shelf
instance:Inhabited Sx:=⟨⟨0,0,⟨#[]⟩,T,T⟩⟩
theorem Vj  [Inhabited α](enc:α->R){q:Nat}{e:jJ}{f:List R}(O:w.ownsRow B e size (Y (X ⟨g,0,T⟩) n c) n f)(d:Array α)(h:d.size=n*size):
  (putRow enc (Sort.ahead w q) g 0 d).ownsRow B e size (Y (X ⟨g,0,T⟩) n c) n (d.toList.map enc)/\Iq (fun b=>b=g) w (putRow enc (Sort.ahead w q) g 0 d):=by
 rcases O.2 with⟨hv,_⟩|⟨p,cap,a,hv,h1,i,h3,h4,h5,h6⟩
 ·cases hv
 ·cases hv;refine⟨⟨by simp[h],.inr ⟨g,c,putCells enc 0 d a,rfl,h1,?_,h3,h4,by simp[putCells,h5],?_⟩⟩,⟨rfl,rfl,rfl,by simp[putRow,mapBlock,Sort.ahead],fun k r l=>?_⟩⟩
  ·simp[putRow,mapBlock,Sort.ahead,Array.getElem?_modify,i,onCells]
  ·have s:n*size<=a.size:=by rw[h5];exact Nat.mul_le_mul_right _ h3
   apply List.ext_getElem?;intro j;by_cases m:j<n*size
   ·rw[List.getElem?_take_of_lt m,yK];have o:j<d.size:=by omega
    simp[putCells,o,show j<a.size by omega]
   ·rw[List.getElem?_take_eq_none (by omega),yA (by simp;omega)]
  ·have: ¬ g=k:=fun e=>l e.symm;simp[putRow,mapBlock,Sort.ahead,Array.getElem?_modify,this]
theorem SM  [Inhabited α](enc:α->R){e:jJ}{d:Array α}(O:w.ownsRow B e size (Y (X ⟨g,0,T⟩) n c) n (d.toList.map enc)):Holds enc w g 0 d:=by
 rcases O.2 with⟨hv,_⟩|⟨h,cap,b,hv,h1,a,h3,h4,h5,h6⟩
 ·cases hv
 ·cases hv;intro j f;refine⟨?_,by simp[World.frozen?,a]⟩;have i:n*size=d.size:=by have:=O.1;simpa using this.symm
  have hq:(b.toList.take (n*size))[j]? =(d.toList.map enc)[j]? :=by rw[h6]
  rw[List.getElem?_take_of_lt (by omega)]at hq;simp only[World.cell?,a,zU];simp only[Option.isSome_none,Bool.false_eq_true,if_false];rw[<-yK,hq];simp[f]
theorem Aaj (S:List Sx):(flatK Gm 5 S.toArray).toList=GN S:=by
 apply List.ext_getElem?;intro t;by_cases a:t<S.length*5
 ·have c:t / 5<S.length:=by omega
  have b:t % 5<5:=Nat.mod_lt _ (by decide);have e:=Pw S (t / 5) c (t % 5) b;rw[show t / 5*5+t % 5=t by omega]at e;rw[e];have g:=get_flatK Gm 5 S.toArray t (by simpa using a);rw[yK,Array.getElem?_eq_getElem (by simpa using a)];rw[getElem!_pos (flatK Gm 5 S.toArray) t (by simpa using a)]at g;rw[g];have d:(Gm S[t / 5]).length=5:=rfl;have e2:S.toArray[t / 5]! =S[t / 5]:=by simp[c]
  rw[e2,zG (by rw[d];exact b),getElem!_pos (Gm S[t / 5]) (t % 5) (by rw[d];exact b)]
 ·rw[yA (by simp;omega),yA (by rw[Aak];omega)]
theorem Yr (S:List Sx)(B g c:Nat)(w:Z)(O:w.ownsRow B 108 5 (Y (X ⟨g,0,T⟩) S.length c) S.length (GN S))(hs:S.length<=65535):
  jE j4 65 #[Y (X ⟨g,0,T⟩) S.length c] w fun a w'=>a=jH (jO #[])/\w'.ownsRow B 108 5 (Y (X ⟨g,0,T⟩) S.length c) S.length (GN S.reverse)/\Iq (fun b=>b=g) w w':=by
 have h1:∀(x:Sx),∀v∈Gm x,v.oneCell'=true:=fun x v hv=>by
  simp[Gm]at hv;rcases hv with rfl|rfl|rfl|rfl|rfl
  ·rfl
  ·rfl
  ·rfl
  ·rcases Bi x.cond with e|⟨t,u,e⟩<;>rw[e]<;>rfl
  ·rcases Bi x.grant with e|⟨t,u,e⟩<;>rw[e]<;>rfl
 have d:HoldsK Gm 5 w g 0 S.toArray:=SM id (size:=5) (n:=S.length) (c:=c) (B:=B) (e:=108) (by rw[List.map_id,Aaj];exact O);refine(Tryz.slices_ReverseK 5 Tryz.isAgg108 Tryz.sizeOf108 Gm (fun x=>rfl) h1 g 0 c S.toArray w d (by simp;omega)).mono ?_;rintro a w' ⟨rfl,q,rfl⟩;have P:=Vj id (q:=q) O (flatK Gm 5 S.reverse.toArray) (by simp);rw[List.map_id,Aaj]at P;have e:putRowK Gm 5 (Sort.ahead w q) g 0 S.toArray.reverse=putRow id (Sort.ahead w q) g 0 (flatK Gm 5 S.reverse.toArray):=by rw[putRowK,List.reverse_toArray]
 rw[e];exact⟨rfl,P⟩
theorem Vk (a:List Int)(B g c:Nat)(w:Z)(O:w.ownsRow B 2 1 (Y (X ⟨g,0,T⟩) a.length c) a.length (a.map fun x=>U V x))(hs:a.length<=65535):
  jE j4 66 #[Y (X ⟨g,0,T⟩) a.length c] w fun d w'=>d=jH (jO #[])/\w'.ownsRow B 2 1 (Y (X ⟨g,0,T⟩) a.length c) a.length (a.reverse.map fun x=>U V x)/\Iq (fun b=>b=g) w w':=by
 refine(Tryz.slices_Reverse (U V) (fun x=>rfl) g 0 c a w (SM (U V) (size:=1) (n:=a.length) (c:=c) (B:=B) (e:=2) O) (by omega)).mono ?_;rintro d w' ⟨rfl,q,rfl⟩;exact⟨rfl,Vj (U V) (q:=q) O a.reverse.toArray (by simp)⟩
theorem Ys (a:Option Addr)(c:Nat)(w:Z):jE j4 66 #[Y a 0 c] w fun b w'=>b=jH (jO #[])/\w'=w:=Tryz.slices_Reverse_empty (α:=Int) a c w
theorem NZ (d:List Int)(B:Nat)(v:R)(w:Z)(O:w.ownsRow B 2 1 v d.length (d.map fun x=>U V x))(hs:d.length<=65535):
  ∃a c,v=Y a d.length c/\jE j4 66 #[Y a d.length c] w fun f w'=>f=jH (jO #[])/\w'.ownsRow B 2 1 v d.length (d.reverse.map fun x=>U V x)/\Iq (fun b=>v.ownBlock=X b) w w':=by
 rcases O.2 with⟨rfl,h0⟩|⟨g,cap,l,rfl,_⟩
 ·have i:d=[]:=List.length_eq_zero_iff.1 h0;subst i;exact⟨T,0,rfl,(Ys T 0 w).mono fun f w' h=>⟨h.1,by rw[h.2];exact O,by rw[h.2];exact Iq.refl _ _⟩⟩
 ·exact⟨_,_,rfl,(Vk d B g cap w O hs).mono fun f w' h=>⟨h.1,h.2.1,⟨h.2.2.os,h.2.2.tape,h.2.2.output,h.2.2.size,fun k j hS=>h.2.2.block k j (fun e=>hS (by rw[e];rfl))⟩⟩⟩
theorem Pp (O:w.ownsRow B 108 5 (Y (X ⟨g,0,T⟩) n c) n (GN S)):Yt w g S:=by
 rcases O.2 with⟨hv,_⟩|⟨i,cap,b,hv,h1,d,h3,h4,h5,h6⟩
 ·cases hv
 ·cases hv;refine⟨b,⟨d⟩,fun f u a=>?_⟩;rw[<-h6]at a;have h:f<n*5:=by
   have:=(zd.1 a).1;rw[zr]at this;omega
  rw[List.getElem?_take_of_lt h,yK]at a;exact a
end
def UC (N:List Nd) (L:List St) (T:List Int) (o:List Nd×List St×List Int):Prop:=
 (OQ N L T false/\o=([],[],[]))\/(OQ N L T true/\∃Es:List Ex,Es.length=N.length/\(∀j,(h:j<Es.length)->Cg N j Es[j])/\o=(AM 0 (BM (It Es 0 L)),BK 0 (BM (It Es 0 L)),IA [] (BM (It Es 0 L))))
theorem AgZ (N:List Nd)(L:List St)(T:List Int):∃v,OQ N L T v:=by
 cases a:Bn N L with
 |false=>exact⟨false,.inl ⟨a,rfl⟩⟩
 |true=>
  obtain⟨Es,h1,h2⟩:=Ig (BJ a);exact⟨_,.inr ⟨a,Es,h1,h2,rfl⟩⟩
theorem Y9 (Es:List Ex):∀(L:List St) (i j:Nat) (h:j<L.length),(It Es i L)[j]? =X ⟨((i+j:Nat):Int),L[j].kind,L[j].name,CG Es L[j].cond,CG Es L[j].grant⟩
 |s ::L,i,0,h=>by rw[It];rfl
 |s ::L,i,j+1,h=>by
  rw[It,z6,Y9 Es L (i+1) j (by simpa using h)];rw[show i+1+j=i+(j+1) by omega];rfl
theorem NmQ.below {w w':Z}{a:Option Addr}{n c:Nat}{N:List Nd}(h:NmQ w a N)(m:GY w a n c N)(f:Below w.heap.size w w'):NmQ w' a N:=fun j g b t d an nn cn hc=>by
 obtain⟨i,k,l,o,_⟩:=m.cells j g;rw[l]at d;simp only[Option.some.injEq,Addr.mk.injEq]at d;obtain⟨rfl,rfl,_⟩:=d;have q:=(f.cell (p:=⟨i,k+j*5+3,T⟩) o).symm.trans hc;obtain⟨r,s⟩:=h j g i k l an nn cn q;exact⟨r,s.below f NLN⟩
structure WtX (N:List Nd) (L:List St) (X:List Sx):Prop where
 ty:IE [] X
 gd:GdX X
 en:I8 X
 nm:nmX X
 lt:Vg AO X
 cnt:Bu X<=4000
 len:X.length=L.length
 sm:L.length<=600
theorem YX {L:List St}{T:List Int}(hv:OQ N L T true)(l:∀x∈N,Di x.num/\x.names.length<=1048576)(h1:Es.length=N.length)(h2:∀j,(h:j<Es.length)->Cg N j Es[j]):Bn N L=true/\WtX N L (It Es 0 L):=by
 rcases hv with⟨_,h⟩|⟨c,B,o,r,h⟩
 ·cases h
 ·have a:=BJ c;rw[NA o h1 r h2]at h;cases hc:AI Es (AO,[],[]) L with
  |none=>rw[hc]at h;cases h
  |some st=>
   have f:=c;simp only[Bn,zF,zI]at f;obtain⟨⟨⟨_,_,g⟩,_⟩,b⟩:=f;obtain⟨c1,c2,c3⟩:=AaT Es L 0 AO [] [] st hc g (fun s hs=>by
    have q:=a.stm s hs;have C:=a.roots s hs;exact⟨fun h3=>by omega,by omega⟩)
   obtain⟨S,i,t⟩:∃S,Cp (N.map Nd.kids) N.length [] 0=X S/\Am S=L.flatMap Aj:=by
    rw[Ei]at b;cases hq:Cp (N.map Nd.kids) N.length [] 0 with
    |none=>rw[hq]at b;cases b
    |some S=>rw[hq]at b;exact⟨S,rfl,of_decide_eq_true b⟩
   obtain⟨u,v⟩:=DZ N.length (.nil 0) (fun p hp=>(by cases hp)) i;have good:∀s∈L,∀k∈Aj s,∀e,CG Es k=X e->FM e/\Ib e/\Bl e<=64:=fun s hs k w e he=>by
    have hm:k∈Am S:=by rw[t];exact List.mem_flatMap.2 ⟨s,hs,w⟩
    rw[Am]at hm;obtain⟨p,hp,e1⟩:=zg.1 hm;have e2:k=(p.1:Int):=e1.symm;subst e2;rw[CG,if_neg (by omega),zV]at he;obtain⟨y,he⟩:=zd.1 he;have d:=h2 p.1 y;rw[he]at d;have:=Acf u p hp e d;have:=v p hp;exact⟨d.gd a.fields,d.ok l,by omega⟩
   refine⟨c,c1,fun x hx=>?_,AaS Es L 0 g a.m0,c2,c3,?_,LI Es L 0,a.m⟩
   ·obtain⟨s,hs,z,A,D,E⟩:=Uv hx;have hq:=a.stm s hs;have i:=a.roots s hs;refine⟨fun e he=>?_,fun e he=>?_⟩
    ·rw[z]at he;by_cases h3:s.kind=3
     ·have:s.cond= -1:=by omega
      rw[CG,if_pos this]at he;cases he
     ·exact good s hs s.cond (by rw[Aj,if_pos h3];exact Z7 _ za) e he
    ·rw[A]at he;by_cases h3:s.grant= -1
     ·rw[CG,if_pos h3]at he;cases he
     ·exact good s hs s.grant (by rw[Aj,if_pos h3];exact List.mem_append_right _ za) e he
   ·rw[Aav,JJ c h1 h2];exact a.n
theorem J2:∀(S:List Sx) (ts:List Int),IE ts S->∀x∈S,UP x.cond/\UP x.grant/\(x.kind=1->∃e,x.cond=some e)
 |[],_,_,x,hx=>by cases hx
 |y ::S,ts,h,x,hx=>by
  have a:∀{g:Option Ex},Yo ts g->UP g:=fun {g} hg=>by
   cases g with
   |none=>trivial
   |some e=>exact Cl e 4 hg
  rcases zP.1 hx with e1|e1
  ·subst e1;rcases h with⟨k,e,t,h1,h2,h3,h4⟩|⟨k,⟨e,h1,h2⟩,h3,h4⟩|⟨k,h1,h3,h4⟩
   ·exact⟨by rw[h1];exact Cl e t h2,by rw[h3];trivial,fun _=>⟨e,h1⟩⟩
   ·exact⟨by rw[h1];exact Cl e 1 h2,a h3,fun b=>⟨e,h1⟩⟩
   ·exact⟨by rw[h1];trivial,a h3,fun b=>absurd (k.symm.trans b) (by decide)⟩
  ·rcases h with⟨_,_,t,_,_,_,h4⟩|⟨_,_,_,h4⟩|⟨_,_,_,h4⟩
   ·exact J2 S _ h4 x e1
   ·exact J2 S _ h4 x e1
   ·exact J2 S _ h4 x e1
theorem QS:∀(S:List Sx) (n:Int),(Qv n S).map Prod.fst=S
 |[],_=>rfl
 |x ::S,n=>by rw[Qv];split<;>rw[jd,QS S]
theorem Qk {x:Nd}(h:AD x=true):okN x/\x.text.size<=1048576:=by
 rw[AD,zF,zI]at h;obtain⟨b,hq⟩:=h;have a:x.kids.length<=1048576:=by
  have:CI x.op<=3:=by unfold CI;repeat' split;all_goals omega
  omega
 have nn:x.names.length=0->okN x:=fun h0=>⟨by omega,a,fun s hs=>by rw[z9 h0]at hs;cases hs⟩
 unfold JT VR at hq
 repeat' split at hq
 all_goals first
  |(cases hq;done)
  |(simp only[zF,zI]at hq;exact⟨nn (by omega),by omega⟩)
  |(simp only[zF,zI]at hq;have q:=hq.1.1;rw[CJ,zF,zI]at q;exact⟨nn (by omega),by omega⟩)
  |(simp only[zF,zI]at hq;obtain⟨s1,s2⟩:=Oi hq.1.1;exact⟨⟨by omega,a,fun s hs=>by have:=s2 s hs;unfold maxLen;omega⟩,by omega⟩)
theorem Ag0 (a b e:Option Addr)(n c m d k f:Nat)(w:Z)
  (o:∀l,Below w.heap.size w l->jE j4 14 #[jG #[Y a n c,Y b m d,Y e k f]] l fun q w'=>q=jH (.bool false)/\Below l.heap.size l w'):
  jE j4 5 #[jG #[Y a n c,Y b m d,Y e k f]] w (OpM [] [] [] w):=by
 have i:=(Av w (Fo a n c b m d e k f)).alloc (by simp) (Fo T 0 0 T 0 0 T 0 0);have g:=Ag.new (w.alloc (Fo a n c b m d e k f)) #[Y T 0 0,Y T 0 0,Y T 0 0] 31;simp only[World.size_alloc]at g;have r:=Ab o;clear o;go_enter func5,ntmps5
 go_wp2_with fail
 generalize (w.alloc (Fo a n c b m d e k f)).alloc (Fo T 0 0 T 0 0 T 0 0)=D at i g|-;refine(Aa r _ i).mono ?_;rintro q E ⟨rfl,b1⟩;have s:=i.trans (b1.mono i.size);replace g:=g.after b1 NLN;obtain⟨F,G,H⟩:=Fl g;have I:=fun k=>g.frozen k;have t:=((g.set 0 (Y T 0 0)).set 1 (Y T 0 0)).set 2 (Y T 0 0);have u:=((s.setCell (p:=⟨w.heap.size+1,0,T⟩) (zj _) (Y T 0 0)).setCell (p:=⟨w.heap.size+1,1,T⟩) (zj _) (Y T 0 0)).setCell (p:=⟨w.heap.size+1,2,T⟩) (zj _) (Y T 0 0);have y:=Ab t;have z:=Ab u;clear i b1 r t u g s;dsimp only;go_wp2_with fail
 obtain⟨A,B,C⟩:=Fl (Aa y);refine jN (v:= jG #[Y T 0 0,Y T 0 0,Y T 0 0]) (by simp[results,results5,go_sem,A,B,C]) rfl ⟨⟨T,0,0,T,0,0,T,0,0,rfl,⟨rfl,by decide,fun x hx=>(by cases hx),fun j h=>absurd h (by simp)⟩,⟨rfl,by decide,fun x hx=>(by cases hx),fun j h=>absurd h (by simp)⟩,⟨rfl,by decide,fun j h=>absurd h (by simp)⟩⟩,Aa z⟩
theorem Ag1 (S:List Sx):(Bb (Ce [] S)).length<=S.length:=by
 have l1:∀(S:List Sx) (ls:List Ex),(Ce ls S).length=S.length:=fun S=>by
  induction S with
  |nil=>intro ls;rfl
  |cons x S a=>intro ls;rw[Ce,jY,jY,a]
 have b:∀(S:List Sx),(Bb S).length<=S.length:=fun S=>by
  induction S with
  |nil=>exact NLN
  |cons x S a=>
   rw[Bb,jY];split
   ·omega
   ·split
    ·simp
    ·rw[jY];omega
 have:=b (Ce [] S);rw[l1]at this;exact this
theorem Nh:∀(S:List Sx) (b:Nat),∀s∈BK b S,∃x∈S,s.kind=x.kind/\s.name=x.name
 |[],_,s,hs=>by cases hs
 |x ::S,b,s,hs=>by
  rw[BK]at hs;rcases zP.1 hs with e|e
  ·exact⟨x,za,by rw[e],by rw[e]⟩
  ·obtain⟨y,h1,h2⟩:=Nh S _ s e;exact⟨y,zf _ h1,h2⟩
theorem So (a b e:Option Addr)(n c m d k f:Nat)(N:List Nd)(L:List St)(T:List Int)(w:Z)(h1:GY w a n c N)(h2:Jl w b m d L)(h3:AK w e k f T)(ar:NmQ w a N)(W:∀x∈N,Di x.num/\x.names.length<=1048576):
  jE j4 5 #[jG #[Y a n c,Y b m d,Y e k f]] w fun p w'=>∃o,UC N L T o/\OpM o.1 o.2.1 o.2.2 w p w':=by
 obtain⟨v,hv⟩:=AgZ N L T;have aa:∀i,Below w.heap.size w i->jE j4 14 #[jG #[Y a n c,Y b m d,Y e k f]] i fun p w'=>p=jH (.bool v)/\Below i.heap.size i w':=fun i r=>
  (QT a b e n c m d k f N L T i (h1.below r NLN) (h2.below r NLN) (h3.below r NLN)).mono fun p w' ⟨⟨aL,C,au⟩,H⟩=>⟨by rw[C,au.one hv],H⟩
 cases v with
 |false=>exact(Ag0 a b e n c m d k f w aa).mono fun p w' h=>⟨_,.inl ⟨hv,rfl⟩,h⟩
 |true=>
  obtain⟨I,l,D,t,_⟩:Bn N L=true/\∃Es:List Ex,Es.length=N.length/\(∀j,(h:j<Es.length)->Cg N j Es[j])/\True:=by
   rcases hv with⟨_,h⟩|⟨I,l,D,t,_⟩
   ·cases h
   ·exact⟨I,l,D,t,trivial⟩
  obtain⟨_,g⟩:=YX hv W D t;have ab:=BJ I;have ac:∀j,(h:j<L.length)->∃x,(It l 0 L)[j]? =some x/\x.kind=L[j].kind/\x.name=L[j].name/\TrS N L[j].cond x.cond/\TrS N L[j].grant x.grant:=fun j ad=>by
   have ae:∀k:Int,(k= -1\/(0<=k/\k<N.length))->TrS N k (CG l k):=fun k af=>by
    rcases af with h|⟨h,aM⟩
    ·exact .inl ⟨h,by rw[CG,if_pos h]⟩
    ·have J:k.toNat<l.length:=by omega
     exact .inr ⟨k.toNat,l[k.toNat],by omega,by rw[CG,if_neg (by omega)];exact zG J,t _ J,(t _ J).ok W⟩
   have C:=ab.roots L[j] (zH ad);exact⟨_,Y9 l L 0 j ad,rfl,rfl,ae _ C.1,ae _ C.2⟩
  obtain⟨X,ag⟩:∃X,X=It l 0 L:=⟨_,rfl⟩
  rw[<-ag]at ac g;have ah:=WQ g.en;have K:=Qw X [] ah;have O:∀q∈Kw [] X,q.1∈Bb (Ce [] X):=fun q hq=>by
   rw[K]at hq;have:=List.mem_map_of_mem (f:=Prod.fst) hq;rw[QS]at this;exact this
  have E:IE [] (Bb (Ce [] X)):=IF _ [] (JZ X [] [] (fun n c hc=>by simp at hc) rfl g.ty);have ai:Ke (Kw [] X)=(Ed 0 (Bb (Ce [] X))).map Ic:=by rw[K];exact UI _ 0
  have aj:CC (Ke (Kw [] X))=CC (Ed 0 (Bb (Ce [] X))):=by rw[ai,Aeo]
  have av:BM X=(Ke (Kw [] X)).map fun q=>MN (CC (Ke (Kw [] X))) q.1:=by rw[Acc X ah,z7];rfl
  obtain⟨aw,o2,ax⟩:=Pq g.en g.nm;have P:=UD g.gd;have ak:=UE g.ty;have al:Bu (BM X)<=4000:=zB (Qi X) g.cnt;have ay:(BM X).length<=600:=zB (Qj X) (by rw[g.len];exact g.sm);have F:=Wp ak P aw o2 al ay;have u:=BJ F;have az:∀i,Below w.heap.size w i->jE j4 15 #[jG #[Y a n c,Y b m d,Y e k f]] i (StA (Kw [] X) i):=fun i r=>
   WZ a b e n c m d k f N L i (h1.below r NLN) (ar.below h1 r) ab.fields (h2.below r NLN) X (by rw[g.len]) ac g.ty (fun x hx af=>(g.nm x hx).2 (by omega)) (Ajy i)
  have aA:(Kw [] X).length<=600:=by
   have q:=congrArg List.length (QS (Bb (Ce [] X)) ((([]:List Ex).length:Nat):Int));rw[ze,<-K]at q;rw[q];exact zB (Ag1 X) (by rw[g.len];exact g.sm)
  have aB:∀q∈Ke (Kw [] X),∀m,usS m q.1=true->m∈CC (Ke (Kw [] X)):=fun q hq m hm=>by
   rw[aj];rw[ai]at hq;obtain⟨S,h0,rfl⟩:=zg.1 hq;have e1:(Ic S).1=S.1:=by unfold Ic;split<;>rfl
   rw[e1]at hm;rcases Me (Bb (Ce [] X)) [] E S h0 m hm with q|q
   ·simp at q
   ·exact q
  have aC:∀s∈BK 0 (BM X),s.name.size<=1048576:=fun s hs=>by
   obtain⟨x,hx,e1,e2⟩:=Nh (BM X) 0 s hs;rcases u.stm s hs with⟨_,q,_⟩|⟨q,_⟩|⟨q,_⟩
   ·omega
   ·rw[e2,(o2 x hx).2 (by omega)];exact zD _
   ·rw[e2,(o2 x hx).2 (by omega)];exact zD _
  obtain⟨aD,z,A⟩:=Ig u;obtain⟨n1,aN,G⟩:=UM z A (BM X) 0 AO [] [] (fun j y hy=>by rw[zU];exact hy) ak (g.lt.sub ax) P;rw[List.nil_append]at G;have aE:=AaY F z A G;refine(AeD a b e n c m d k f w (Kw [] X) aA (fun q hq=>⟨(J2 _ [] E q.1 (O q hq)).1,(J2 _ [] E q.1 (O q hq)).2.1⟩) (fun q hq=>(J2 _ [] E q.1 (O q hq)).2.2) aa az (BM X) av al (by rw[aj];exact(UJ _ 0).2) aB (IA [] (BM X)) (by rw[UF];omega) (fun x hx=>Qk (IB (BM X) 0 P x hx)) aC ?_).mono fun p w' h=>⟨_,.inr ⟨hv,l,D,t,rfl⟩,by rw[<-ag];exact h⟩
  intro i aF n' c' aG aH aI ao ap;have aq:=ao.len;have aJ:=ap.len;refine(Oq aF aG n' c' aH aI _ _ (fun x hx=>z1.1 aE x hx) i ao ap aD (by rw[z,aq]) A (by rw[<-aq];exact u.n) (by rw[<-aJ];exact u.m) (QU F z A) (by rw[JJ F z A];exact u.n)).mono ?_;rintro p w' (⟨B,lb,ns,ts,tt,aO,lv,aK,e1,e2,M,_,H⟩|⟨e1,_⟩)
  ·rw[G]at e1;have e3:IA [] (BM X)=tt:=congrArg (fun q=>q.2.2) (Option.some.inj e1);exact⟨⟨B,aK,_,0,0,e2,by rw[e3];exact M.types⟩,H⟩
  ·rw[G]at e1;cases e1
theorem J4 (o:Option Ex):AF (o.map Ex.st)=AF o:=by cases o with|none=>rfl|some e=>exact Eo e
theorem Aiy (o:Option Ex)(b:Nat):Kk (o.map Ex.st) b=Kk o b:=by cases o with|none=>rfl|some e=>exact Qs e b
theorem Aiz (o:Option Ex)(b:Nat):GD (o.map Ex.st) b=GD o b:=by cases o with|none=>rfl|some e=>simp only[Option.map,GD,Eo]
theorem Mr:∀(S:List Sx) (b:Nat),AM b (S.map Cc)=AM b S
 |[],b=>rfl
 |x ::S,b=>by rw[jd,AM,AM];simp only[Cc,Aiy,J4];rw[<-Mr S]
theorem Ms:∀(S:List Sx) (b:Nat),BK b (S.map Cc)=BK b S
 |[],b=>rfl
 |x ::S,b=>by rw[jd,BK,BK];simp only[Cc,Aiz,J4];rw[<-Ms S]
theorem IQ (ts:List Int):∀(e:Ex),A7 ts e.st=A7 ts e
 |.un i op k=>by have h:=Fr ts (.un i op k);rw[Ex.st]at h|-;rw[A7,A7,IQ ts k,h]
 |.bin i op l a=>by have h:=Fr ts (.bin i op l a);rw[Ex.st]at h|-;rw[A7,A7,IQ ts l,IQ ts a,h]
 |.ite i c t e=>by have h:=Fr ts (.ite i c t e);rw[Ex.st]at h|-;rw[A7,A7,IQ ts c,IQ ts t,IQ ts e,h]
 |.int .. =>rfl
 |.text .. =>rfl
 |.bool .. =>rfl
 |.set .. =>rfl
 |.name .. =>rfl
 |.attr .. =>rfl
 |.lett .. =>rfl
theorem AiA (ts:List Int)(o:Option Ex):Mh ts (o.map Ex.st)=Mh ts o:=by cases o with|none=>rfl|some e=>exact IQ ts e
theorem AiB (ts:List Int)(o:Option Ex):(o.map Ex.st).bind (Al ts)=o.bind (Al ts):=by cases o with|none=>rfl|some e=>exact Fr ts e
theorem Re:∀(S:List Sx) (ts:List Int),IA ts (S.map Cc)=IA ts S
 |[],ts=>rfl
 |x ::S,ts=>by rw[jd,IA,IA];simp only[Cc,AiA,AiB];rw[<-Re S]
theorem Ae3 {X a:List Sx}(h:X.map Cc=a.map Cc):AM 0 (BM X)=AM 0 (BM a)/\BK 0 (BM X)=BK 0 (BM a)/\IA [] (BM X)=IA [] (BM a):=by
 have e:(BM X).map Cc=(BM a).map Cc:=by rw[<-Aa4 X,h,Aa4 a]
 exact⟨by rw[<-Mr,e,Mr],by rw[<-Ms,e,Ms],by rw[<-Re,e,Re]⟩
theorem Ae4 {a:List Ex}(h1:Es.length=N.length)(h2:a.length=N.length)(d:∀j,(h:j<Es.length)->Cg N j Es[j])(f:∀j,(h:j<a.length)->Cg N j a[j]):∀(L:List St) (i:Nat),(It Es i L).map Cc=(It a i L).map Cc:=by
 have g:∀k,(CG Es k).map Ex.st=(CG a k).map Ex.st:=fun k=>by
  unfold CG;split
  ·rfl
  ·by_cases m:k.toNat<N.length
   ·have b:k.toNat<Es.length:=by omega
    have c:k.toNat<a.length:=by omega
    rw[zG b,zG c];exact congrArg X ((d _ b).st_one (f _ c))
   ·rw[yA (by omega),yA (by omega)]
 intro L
 induction L with
 |nil=>intro i;rfl
 |cons s L l=>intro i;rw[It,It,jd,jd,l];simp only[Cc,g]
theorem UC.one {N:List Nd}{L:List St}{T:List Int}{o p:List Nd×List St×List Int}(h:UC N L T o)(k:UC N L T p):o=p:=by
 rcases h with⟨h1,rfl⟩|⟨h1,Es,e1,e2,rfl⟩<;>rcases k with⟨d,rfl⟩|⟨d,i,f,g,rfl⟩
 ·rfl
 ·cases h1.one d
 ·cases h1.one d
 ·obtain⟨a,b,c⟩:=Ae3 (Ae4 e1 f e2 g L 0);rw[a,b,c]
end Go.Proofs.YteiieikcjcfkkaaGreatDoor
