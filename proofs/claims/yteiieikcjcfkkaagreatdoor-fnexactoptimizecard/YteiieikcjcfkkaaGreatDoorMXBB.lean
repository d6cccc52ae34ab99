import Derived.Test.YteiieikcjcfkkaaGreatDoorMXBA
import Derived.Test.YteiieikcjcfkkaaGreatDoorMXAT
open Go.Proofs.Tryz
open Option renaming none->T,some->X
open Go.Value renaming int->U,slice->Y,string->Q,iface->jB,agg->jG,pointer->jK,nilIface->jL
open Go.IntKind renaming i64->V
open Go renaming World->Z,Value->R,Addr->jD,Calls->jE,TypeId->jJ,Ending->jT
open Bool renaming true->jA,false->jC
open Go.Obj renaming cells->jF
open Go.Ending renaming returned->jH
open Go.Oper renaming upon_enter->jq
open Go.Proofs.Tryz renaming prog->j4
namespace Go.Proofs.YteiieikcjcfkkaaGreatDoor
open Go.RowKit
set_option linter.unusedVariables false
set_option maxRecDepth 100000
set_option maxHeartbeats 6400000
variable {cs:Array R}{a:jT}{F:FuncId}{i op:Int}{ops:List Int}{zb d c:Nat}{f:Option jD}{t:jJ}{v:R}{w w':Z}
section
variable {G : Nat -> Prop}
def Ih (G:Nat->Prop) (w0:Z) (fv:R) (P:Ex->Prop) (o:Ex->Option Ex):Prop:=
 ∃F pre post,fv= .func (.func F) pre post/\(∀args w,(callFunc F args).run j4 w= .ok (.enter F args) w)/\
  ∀e W,Ah w0 W->P e->e.mem G W->jE j4 F (pre++ #[e.val]++post) W (A9 G (o e) W)
def g4 (os:List (Ex->Option Ex)) (e:Ex):Ex:=(os.findSome? fun o=>o e).getD e
def Fw (G:Nat->Prop) (x:Ex) (w:Z) (r:jT) (w':Z):Prop:=∃e':Ex,e'.st=x.st/\r=jH e'.val/\e'.mem G w'/\Ah w w'
def AeT (G:Nat->Prop) (w0:Z) (a:Option jD) (P:Ex->Prop) (os:List (Ex->Option Ex)):Prop:=
 ∀j,(h:j<os.length)->∃b off fv,a=X ⟨b,off,T⟩/\b<w0.heap.size/\w0.cell? ⟨b,off+j,T⟩=X fv/\Ih G w0 fv P os[j]
theorem Zh {os:List (Ex->Option Ex)}{e:Ex}(h:∀j,(a:j<os.length)->os[j] e=T):g4 os e=e:=by
 unfold g4;rw[List.findSome?_eq_none_iff.2 (fun o b=>by
  obtain⟨j,a,rfl⟩:=zy b;exact h j a)]
 rfl
theorem Q8:∀{os:List (Ex->Option Ex)} {e x:Ex} (k:Nat) (a:k<os.length),(∀j,j<k->(c:j<os.length)->os[j] e=T)->os[k] e=X x->g4 os e=x
 |o ::os,e,x,0,a,h,hx=>by
  have d:o e=X x:=hx;unfold g4;rw[zu,d];rfl
 |o ::os,e,x,k+1,a,h,hx=>by
  have h0:o e=T:=h 0 (by omega) (by simp);have b:=Q8 (os:=os) (e:=e) (x:=x) k (by simpa using a) (fun j c f=>h (j+1) (by omega) (by simpa using f)) hx;unfold g4 at b|-;rw[zu,h0];exact b
theorem SC (A m c:Nat)(a:Option jD)(lv:R)(P:Ex->Prop)(os:List (Ex->Option Ex))(w:Z)(hm:os.length=m)(aj:m<=1000)(B:Ag w A #[Y a m c,lv] 114)(M:AeT G w a P os)(e:Ex)(C:P e)(me:e.mem G w):
  jE j4 58 #[jK (X ⟨A,0,T⟩),e.val] w (Fw G (g4 os e) w):=by
 obtain⟨t,u,hf⟩:=e.form;obtain⟨ak,al⟩:=Xh B;have N:=Ab C;have D:=Ab me;have E:=Ab hf;have O:=Ab M;have H:=Ab hm;rw[hf];clear C me hf M hm B;go_enter func58,ntmps58
 go_wp2_with fail
 go_loopw [13] (fun i wr=>∃k:Nat,k<=m/\i=U V k/\Ah w wr/\Hid (∀j,j<k->(f:j<os.length)->os[j] e=T)) (fun i _=>m-(intOf i).toNat)
 case atStart=>exact⟨0,by omega,rfl,BRN,Ab (fun j h=>absurd h (by omega))⟩
 case round=>
  obtain⟨k,ao,rfl,d,o⟩:=hrel;by_cases q:k<m
  ·have ap:(k:Int)<(m:Int):=by omega
   have v:k<os.length:=by rw[Aa H];exact q
   obtain⟨b,S,aq,W,aa,hc,F,ar,au,ab,I,J⟩:=Aa O k v;subst ab;subst W;have cc:=(d.cell (p:=⟨b,S+k,T⟩) aa).trans hc;have ac:=Ab I;have g:=Ab (J e _ d (Aa N) ((e.mem_below d NLN) (Aa D)));have r:=Ab (show os[k] e=T->∀j,j<k+1->(f:j<os.length)->os[j] e=T from fun h j f ad=>by
    by_cases ae:j=k
    ·subst ae;exact h
    ·exact Aa o j (by omega) ad)
   have s:=Ab (fun x=>Q8 (e:=e) (x:=x) k v (Aa o));generalize os[k] e=y at g r s;rw[Aa E]at g;have K:=Ab q;clear hc I J q v o;go_wp2_with fail
   rw[Aa ac,jq];refine(Aa g).mono ?_;rintro av aw ⟨o',l,rfl,z,af⟩;have L:=d.trans (af.mono d.size);cases o' with
   |none=>
    have he:y=T:=by cases y with|none=>rfl|some _=>cases l
    have n:=Ab (Aa r he);clear l z r s he g;simp only[oV];go_wp2_with fail
    go_roundw
    case rel=>exact⟨k+1,Aa K,by go_num,L,n⟩
    case measure=>have:=Aa K;simp[intOf];omega
   |some e'=>
    obtain⟨ax,ay,hf'⟩:=e'.form;have n:=Ab (show e'.st=(g4 os e).st by
     cases y with
     |none=>cases l
     |some x=>rw[Aa s x rfl];exact Option.some.inj l)
    have ag:=Ab (z e' rfl);have ah:=Ab hf';clear l z r s g;simp only[oV,hf'];clear hf';go_wp2_with fail
    go_ret
    exact⟨e',Aa n,congrArg jH (Aa ah).symm,Aa ag,L⟩
  ·have ai:k=m:=by omega
   subst ai;have n:=Ab (Zh (os:=os) (e:=e) (fun j f=>Aa o j (by rw[<-Aa H];exact f) f));clear q;go_wp2_with fail
   go_ret
   exact⟨e,by rw[Aa n],congrArg jH (Aa E).symm,e.mem_below d NLN (Aa D),d⟩
end
def Kg (ls:List Ex):Ex->Option Ex
 |.lett _ n=>match ls[n.toNat]? with
  |some c=>if c.con then X c else T
  |none=>T
 |_=>T
def Fa (ops:List Int) (g:Ex->Ex->Option Ex):Ex->Option Ex
 |.bin _ op x y=>if op∈ops then g x y else T
 |_=>T
def TG (x y:Ex):Option Ex:=if GP x&&Ao y then X (.bool 0 jA)else T
noncomputable def Q9 (ls:List Ex):List (Ex->Option Ex):=
 [Kg ls,Ar,Fa [25] (JC jA),Fa [26] (JC jC),I9,Vh,Fa [16] Gd,Fa [17] JD,Fa [18] GF,Fa [11] Qo,Fa [12] (EE 0),Fa [13] JE,Fa [14] (EE 1),Fa [19,22,24] (Em jA),Fa [20,21] (Em jC),Fa [24] TG,Fa [23] inE]
theorem Zi (x y:Ex):ID x y=match Em jA x y with|some z=>X z|none=>TG x y:=by
 unfold ID Em TG;cases sameL x y<;>rfl
theorem AeV {g:Ex->Ex->Option Ex}{x y:Ex}(h:op ∉ ops):Fa ops g (.bin i op x y)=T:=if_neg h
theorem Zj (i op:Int)(x y:Ex):([Fa [25] (JC jA),Fa [26] (JC jC),I9,Vh,Fa [16] Gd,Fa [17] JD,Fa [18] GF,Fa [11] Qo,Fa [12] (EE 0),Fa [13] JE,Fa [14] (EE 1),Fa [19,22,24] (Em jA),Fa [20,21] (Em jC),Fa [24] TG,Fa [23] inE].findSome? fun o=>o (.bin i op x y))=CS op x y:=by
 simp only[zu,yI,Fa,I9,Vh,zP,List.not_mem_nil,or_false];unfold CS;by_cases a:op=25
 ·subst a;simp;split<;>simp_all
 by_cases b:op=26
 ·subst b;simp;split<;>simp_all
 by_cases c:op=16
 ·subst c;simp;split<;>simp_all
 by_cases d:op=17
 ·subst d;simp;split<;>simp_all
 by_cases f:op=18
 ·subst f;simp;split<;>simp_all
 by_cases h11:op=11
 ·subst h11;simp;split<;>simp_all
 by_cases h12:op=12
 ·subst h12;simp;split<;>simp_all
 by_cases h13:op=13
 ·subst h13;simp;split<;>simp_all
 by_cases h14:op=14
 ·subst h14;simp;split<;>simp_all
 by_cases g:op=19
 ·subst g;simp;split<;>simp_all
 by_cases h:op=22
 ·subst h;simp;split<;>simp_all
 by_cases j:op=20
 ·subst j;simp;split<;>simp_all
 by_cases k:op=21
 ·subst k;simp;split<;>simp_all
 by_cases l:op=24
 ·subst l;rw[Zi];simp;cases Em jA x y<;>simp
  cases TG x y<;>rfl
 by_cases m:op=23
 ·subst m;simp;split<;>simp_all
 simp[*]
theorem Xi (ls:List Ex)(e:Ex):g4 (Q9 ls) e=FL ls e:=by
 unfold g4 Q9 FL;cases e with
 |bin i op x y=>
  rw[zu,show Kg ls (.bin i op x y)=T from rfl,zu];cases hf:Ar (.bin i op x y)with
  |some c=>rfl
  |none=>simp only[Zj];rfl
 |un i op k=>
  rw[zu,show Kg ls (.un i op k)=T from rfl,zu];cases hf:Ar (.un i op k)with
  |some c=>rfl
  |none=>
   simp only[zu,yI,Fa,I9,Vh,AR];split
   ·rename_i b d;rw[d]
   ·rename_i d;rw[d]
 |ite i c t e=>
  rw[zu,show Kg ls (.ite i c t e)=T from rfl,zu];cases hf:Ar (.ite i c t e)with
  |some c=>rfl
  |none=>
   simp only[zu,yI,Fa,Vh];rw[show AR ls (.ite i c t e)=I9 (.ite i c t e)from rfl];cases I9 (.ite i c t e)<;>rfl
 |lett i n=>
  have hf:Ar (.lett i n)=T:=by unfold Ar;rfl
  rw[zu,hf,show AR ls (.lett i n)=Kg ls (.lett i n)from rfl];cases Kg ls (.lett i n)with
  |some c=>rfl
  |none=>simp only[zu,yI,Fa,I9,Vh,hf]
 |int i n=>
  have hf:Ar (.int i n)=T:=by unfold Ar;rfl
  simp only[zu,yI,Kg,Fa,I9,Vh,hf];rfl
 |text i n=>
  have hf:Ar (.text i n)=T:=by unfold Ar;rfl
  simp only[zu,yI,Kg,Fa,I9,Vh,hf];rfl
 |bool i n=>
  have hf:Ar (.bool i n)=T:=by unfold Ar;rfl
  simp only[zu,yI,Kg,Fa,I9,Vh,hf];rfl
 |set i a n c ss=>
  have hf:Ar (.set i a n c ss)=T:=by unfold Ar;rfl
  simp only[zu,yI,Kg,Fa,I9,Vh,hf];rfl
 |name i n=>
  have hf:Ar (.name i n)=T:=by unfold Ar;rfl
  simp only[zu,yI,Kg,Fa,I9,Vh,hf];rfl
 |attr i n=>
  have hf:Ar (.attr i n)=T:=by unfold Ar;rfl
  simp only[zu,yI,Kg,Fa,I9,Vh,hf];rfl
section
variable {G : Nat -> Prop}
def RbX (G:Nat->Prop) (F:FuncId) (pre post:Array R) (w0:Z) (v:R) (x:Ex):Prop:=
 ∀w,Ah w0 w->jE j4 109 #[v,.func (.func F) pre post] w (Fw G x w)
theorem Fw.back {x:Ex}{a w':Z}{b:jT}(h:Fw G x a b w')(c:Ah w a):Fw G x w b w':=by
 obtain⟨e,h1,h2,h3,h4⟩:=h;exact⟨e,h1,h2,h3,c.trans (h4.mono c.size)⟩
def TrR (G:Nat->Prop) (x:Ex) (W:Z) (v:R) (w':Z):Prop:=∃ (t:jJ) (u:R) (e:Ex),v=jB t u/\e.val=jB t u/\e.st=x.st/\e.mem G w'/\Ah W w'
theorem Fw.r {x:Ex}(h:Fw G x w a w'):∃v,a=jH v/\TrR G x w v w':=by
 obtain⟨e,h1,h2,h3,h4⟩:=h;obtain⟨t,u,hf⟩:=e.form;exact⟨_,h2,t,u,e,hf,hf,h1,h3,h4⟩
theorem TrR.ans {x:Ex}(h:TrR G x w v w'):Fw G x w (jH v) w':=by
 obtain⟨t,u,e,rfl,h2,h3,h4,h5⟩:=h;exact⟨e,h3,by rw[h2],h4,h5⟩
theorem TrR.back {x:Ex}{a w':Z}(h:TrR G x a v w')(b:Ah w a):TrR G x w v w':=by
 obtain⟨t,u,e,h1,h2,h3,h4,h5⟩:=h;exact⟨t,u,e,h1,h2,h3,h4,b.trans (h5.mono b.size)⟩
theorem Ap.setRow {b:Nat}(R:Ag w b cs t)(f:∀s,Q s ∉ cs){a:Option jD}{n:Nat}{ss:List ByteArray}(h:Ap w a n c ss)(k:Nat)(u:Value):Ap (w.setCell ⟨b,k,T⟩ u) a n c ss:=
 ⟨h.len,h.cap,h.small,h.sizes,fun j g=>by
  obtain⟨d,i,l,m,hc⟩:=h.cells j g;refine⟨d,i,l,by simpa using m,?_⟩;rw[<-hc];refine World.cell?_of_block (heap_setCell_other w ⟨b,k,T⟩ d u (fun e=>?_));subst e;rw[R.cell]at hc;exact f _ (Array.mem_of_getElem? hc)⟩
theorem Ex.mem_set {w:Z}{b:Nat}{cs:Array Value}{t:jJ}(R:Ag w b cs t)(a:∀s,Q s ∉ cs)(k:Nat)(u:Value):∀(e:Ex),e.mem G w->e.mem G (w.setCell ⟨b,k,T⟩ u)
 |.int ..,h=>h
 |.text ..,h=>h
 |.bool ..,h=>h
 |.set ..,h=>⟨h.1.setRow R a k u,h.2⟩
 |.name ..,h=>h
 |.attr ..,h=>h
 |.lett ..,h=>h
 |.un _ _ e,h=>Ex.mem_set R a k u e h
 |.bin _ _ e f,h=>⟨Ex.mem_set R a k u e h.1,Ex.mem_set R a k u f h.2⟩
 |.ite _ e f g,h=>⟨Ex.mem_set R a k u e h.1,Ex.mem_set R a k u f h.2.1,Ex.mem_set R a k u g h.2.2⟩
theorem Ahe (F:FuncId)(a b:Array R)(w:Z):jE j4 109 #[jL,.func (.func F) a b] w fun c w'=>c=jH jL/\Ah w w':=by
 go_enter func109,ntmps109
 go_wp2_with fail
 go_ret
 exact⟨rfl,BRN⟩
theorem CA (F:FuncId)(b c:Array R)(f:Hid (∀args w,(callFunc F args).run j4 w= .ok (.enter F args) w))(w0:Z)(T:jJ)(v:R)(x:Ex)(h1:T≠166)(h2:T≠168)(h3:T≠213)
  (g:Hid (∀a,Ah w0 a->jE j4 F (b++ #[jB T v]++c) a (Fw G x a))):RbX G F b c w0 (jB T v) x:=by
 intro w d;have k:=A8 (S:=T) (T:=166) underlying166 zeroValue166 h1 106;have a1:=A8 (S:=T) (T:=168) underlying168 zeroValue168 h2 106;have a2:=A8 (S:=T) (T:=213) underlying213 zeroValue213 h3 106;have i:=Ab d;clear d h1 h2 h3;go_enter func109,ntmps109
 go_wp2_with fail
 rw[Aa f,jq];refine(Aa g _ (Aa i)).mono ?_;intro l m h;obtain⟨n,rfl,hv⟩:=h.r;have j:=Ab hv;clear h hv;dsimp only;go_wp2_with fail
 go_ret
 exact(Aa j).ans
theorem AeU (F:FuncId)(d f:Array R)(y:Hid (∀args w,(callFunc F args).run j4 w= .ok (.enter F args) w))(w0:Z)(i op:Int)(a:jJ)(b:R)(o:Ex)(z:Hid (RbX G F d f w0 (jB a b) o))(x:Ex)
  (A:Hid (∀(e1:Ex) W,e1.st=o.st->Ah w0 W->e1.mem G W->jE j4 F (d++ #[jB 166 (jG #[U V i,U V op,e1.val])]++f) W (Fw G x W))):
  RbX G F d f w0 (jB 166 (jG #[U V i,U V op,jB a b])) x:=by
 intro w g;have J:=De (T:=166) underlying166 106;have q:=Ab g;have hB:=g.size;have j:=Av w (jF #[U V i,U V op,jB a b] 166);have r:=Ag.new w #[U V i,U V op,jB a b] 166;clear g;go_enter func109,ntmps109
 go_wp2_with fail
 refine(Aa z _ ((Aa q).alloc hB _)).mono ?_;intro B K h;obtain⟨L,rfl,k,l,e1,rfl,C,t,u,m⟩:=h.r;have D:=j.trans (m.mono j.size);have c:=r.after m NLN;have M:=c.frozen 2;obtain⟨N,O,r2,_⟩:=PJ c;have E:=c.set 2 (jB k l);have v:=D.setCell (p:=⟨w.heap.size,2,none⟩) NLN (jB k l);have H:=Ab (Ex.mem_set c (by intro s;simp) 2 (jB k l) e1 u);have n:=Ab (Aa A e1 _ t ((Aa q).trans (v.mono hB)));rw[C]at n;obtain⟨P,S,aa,_⟩:=PJ E;clear h j r m t u;dsimp only;go_wp2_with fail
 rw[Aa y,jq];refine(Aa n (Aa H)).mono ?_;intro B ab h;obtain⟨ac,rfl,hv⟩:=h.r;have I:=Ab (hv.back v);clear h hv n;dsimp only;go_wp2_with fail
 go_ret
 exact(Aa I).ans
theorem Aa1 (F:FuncId)(g j:Array R)(ah:Hid (∀args w,(callFunc F args).run j4 w= .ok (.enter F args) w))(w0:Z)(i op:Int)(c:jJ)(d:R)(v:Ex)(ai:Hid (RbX G F g j w0 (jB c d) v))(a:jJ)(b:R)(x2:Ex)(aj:Hid (RbX G F g j w0 (jB a b) x2))(x:Ex)
  (ak:Hid (∀(e1:Ex) (e2:Ex) W,e1.st=v.st->e2.st=x2.st->Ah w0 W->e1.mem G W->e2.mem G W->jE j4 F (g++ #[jB 168 (jG #[U V i,U V op,e1.val,e2.val])]++j) W (Fw G x W))):
  RbX G F g j w0 (jB 168 (jG #[U V i,U V op,jB c d,jB a b])) x:=by
 intro w y;have aB:=A8 (S:=168) (T:=166) underlying166 zeroValue166 (by decide) 106;have a1:=De (T:=168) underlying168 106;have z:=Ab y;have hB:=y.size;have r:=Av w (jF #[U V i,U V op,jB c d,jB a b] 168);have t:=Ag.new w #[U V i,U V op,jB c d,jB a b] 168;clear y;go_enter func109,ntmps109
 go_wp2_with fail
 have al:∃f,f=w.alloc (jF #[U V i,U V op,jB c d,jB a b] 168):=⟨_,rfl⟩
 obtain⟨f,K⟩:=al;rw[<-K]at r t|-;clear K;have ao:=Ab ((Aa z).trans (r.mono hB));have L:(Tryz.f109.name== "runtime.NumGoroutine")=jC:=by kernel_rfl
 have M: Tryz.f109.body.isNone=jC:=by kernel_rfl
 have r2:f.cell? ⟨w.heap.size,2,none⟩=X (jB c d):=t.cell 2;have r3:f.cell? ⟨w.heap.size,3,none⟩=X (jB a b):=t.cell 3;have ap:Ah f f.drew:=BRN.drew;go_region_law (first
  |(refine AE rfl 109 _ func109 L M _ _ _ rfl (jB c d) (.func (.func F) g j) rfl rfl (TrR G v f) ((Aa ai _ (Aa ao).drew).mono (fun A w' h=>(h.back ap).r)) ?_;rintro aC N ⟨m,n,e1,rfl,aq,O,P,aa⟩;have ab:=t.after aa NLN;have ar:N.cell? ⟨w.heap.size,3,none⟩=X (jB a b):=ab.cell 3;have B:=r.trans (aa.mono r.size))
  |(refine AE rfl 109 _ func109 L M _ _ _ rfl (jB a b) (.func (.func F) g j) rfl rfl (TrR G x2 N) ((Aa aj _ ((Aa z).trans (B.mono hB))).mono (fun A w' h=>h.r)) ?_;rintro aD C ⟨o,q,e2,rfl,au,ac,ad,D⟩;have l:=ab.after D NLN;have av:C.cell? ⟨w.heap.size,2,none⟩=X (jB c d):=l.cell 2;have aw:C.cell? ⟨w.heap.size,3,none⟩=X (jB a b):=l.cell 3;have ax:=fun k=>l.frozen k;have ay:=B.trans (D.mono B.size)))
 all_goals
  have u:=l.set 2 (jB m n);have ae:=u.set 3 (jB o q);have E:=Ex.mem_set u (by intro s;simp) 3 (jB o q) e1 (Ex.mem_set l (by intro s;simp) 2 (jB m n) e1 (e1.mem_below D NLN P));have H:=Ex.mem_set u (by intro s;simp) 3 (jB o q) e2 (Ex.mem_set l (by intro s;simp) 2 (jB m n) e2 ad);have I:=(ay.setCell (p:=⟨w.heap.size,2,none⟩) NLN (jB m n)).setCell (p:=⟨w.heap.size,3,none⟩) NLN (jB o q);clear av aw ax ar r2 r3 u;have az:∃af,af=(C.setCell ⟨w.heap.size,2,none⟩ (jB m n)).setCell ⟨w.heap.size,3,none⟩ (jB o q):=⟨_,rfl⟩
  obtain⟨af,ag⟩:=az;rw[<-ag]at ae I E H|-;clear ag;obtain⟨aE,aF,aG,aH⟩:=Aas ae;have J:=Ab (Aa ak e1 e2 _ O ac ((Aa z).trans (I.mono hB)) E H);rw[aq,au]at J;clear E H O ac P ad;go_wp2_with fail
  rw[Aa ah,jq];refine(Aa J).mono ?_;intro A aI h;obtain⟨aJ,rfl,hv⟩:=h.r;have aA:=Ab (hv.back I);clear h hv J;dsimp only;go_wp2_with fail
  go_ret
  exact(Aa aA).ans
theorem Aa2 (F:FuncId)(f g:Array R)(ax:Hid (∀args w,(callFunc F args).run j4 w= .ok (.enter F args) w))(w0:Z)(i:Int)(c:jJ)(d:R)(J:Ex)(ay:Hid (RbX G F f g w0 (jB c d) J))(a:jJ)(b:R)(x2:Ex)(az:Hid (RbX G F f g w0 (jB a b) x2))(l:jJ)(m:R)(x3:Ex)(aA:Hid (RbX G F f g w0 (jB l m) x3))(x:Ex)
  (aB:Hid (∀(e1:Ex) (e2:Ex) (e3:Ex) W,e1.st=J.st->e2.st=x2.st->e3.st=x3.st->Ah w0 W->e1.mem G W->e2.mem G W->e3.mem G W->jE j4 F (f++ #[jB 213 (jG #[U V i,e1.val,e2.val,e3.val])]++g) W (Fw G x W))):
  RbX G F f g w0 (jB 213 (jG #[U V i,jB c d,jB a b,jB l m])) x:=by
 intro w K;have aX:=A8 (S:=213) (T:=166) underlying166 zeroValue166 (by decide) 106;have a2:=A8 (S:=213) (T:=168) underlying168 zeroValue168 (by decide) 106;have a1:=De (T:=213) underlying213 106;have z:=Ab K;have hB:=K.size;have A:=Av w (jF #[U V i,jB c d,jB a b,jB l m] 213);have B:=Ag.new w #[U V i,jB c d,jB a b,jB l m] 213;clear K;go_enter func109,ntmps109
 go_wp2_with fail
 have aC:∃j,j=w.alloc (jF #[U V i,jB c d,jB a b,jB l m] 213):=⟨_,rfl⟩
 obtain⟨j,ac⟩:=aC;rw[<-ac]at A B|-;clear ac;have aD:=Ab ((Aa z).trans (A.mono hB));have ad:(Tryz.f109.name== "runtime.NumGoroutine")=jC:=by kernel_rfl
 have ae: Tryz.f109.body.isNone=jC:=by kernel_rfl
 have r2:j.cell? ⟨w.heap.size,1,none⟩=X (jB c d):=B.cell 1;have r3:j.cell? ⟨w.heap.size,2,none⟩=X (jB a b):=B.cell 2;have aE:Ah j j.drew:=BRN.drew;go_region_law (first
  |(refine AE rfl 109 _ func109 ad ae _ _ _ rfl (jB c d) (.func (.func F) f g) rfl rfl (TrR G J j) ((Aa ay _ (Aa aD).drew).mono (fun C w' h=>(h.back aE).r)) ?_;rintro aY af ⟨n,o,e1,rfl,aF,ag,ah,ai⟩;have aj:=B.after ai NLN;have aG:af.cell? ⟨w.heap.size,2,none⟩=X (jB a b):=aj.cell 2;have L:=A.trans (ai.mono A.size))
  |(refine AE rfl 109 _ func109 ad ae _ _ _ rfl (jB a b) (.func (.func F) f g) rfl rfl (TrR G x2 af) ((Aa az _ ((Aa z).trans (L.mono hB))).mono (fun C w' h=>h.r)) ?_;rintro aZ M ⟨q,r,e2,rfl,aH,ak,al,N⟩;have t:=aj.after N NLN;have ao:M.cell? ⟨w.heap.size,1,none⟩=X (jB c d):=t.cell 1;have ap:M.cell? ⟨w.heap.size,2,none⟩=X (jB a b):=t.cell 2;have aI:=fun k=>t.frozen k;have aJ:=L.trans (N.mono L.size)))
 all_goals
  have D:=t.set 1 (jB n o);have O:=D.set 2 (jB q r);have P:=Ex.mem_set D (by intro s;simp) 2 (jB q r) e1 (Ex.mem_set t (by intro s;simp) 1 (jB n o) e1 (e1.mem_below N NLN ah));have aa:=Ex.mem_set D (by intro s;simp) 2 (jB q r) e2 (Ex.mem_set t (by intro s;simp) 1 (jB n o) e2 al);have E:=(aJ.setCell (p:=⟨w.heap.size,1,none⟩) NLN (jB n o)).setCell (p:=⟨w.heap.size,2,none⟩) NLN (jB q r);clear ao ap aI aG r2 r3 D;have aK:∃aq,aq=(M.setCell ⟨w.heap.size,1,none⟩ (jB n o)).setCell ⟨w.heap.size,2,none⟩ (jB q r):=⟨_,rfl⟩
  obtain⟨aq,ar⟩:=aK;rw[<-ar]at O E P aa|-;clear ar;obtain⟨aL,aM,aN,aO⟩:=Aas O;have aP:=Ab P;have aQ:=Ab aa;have aR:=Ab ag;have aS:=Ab ak;clear P aa ah al ag ak;go_wp2_with fail
  refine(Aa aA _ ((Aa z).trans (E.mono hB))).mono ?_;intro C a0 h;obtain⟨a3,rfl,v,y,e3,rfl,aT,au,av,H⟩:=h.r;have u:=O.after H NLN;have aU:=E.trans (H.mono E.size);clear aL aM aN aO h;have aV:=u.set 3 (jB v y);have aw:=aU.setCell (p:=⟨w.heap.size,3,none⟩) NLN (jB v y);have I:∀s,Q s ∉ #[U V i,jB n o,jB q r,jB l m]:=by intro s;simp
  have ab:=Ab (Aa aB e1 e2 e3 _ (Aa aR) (Aa aS) au ((Aa z).trans (aw.mono hB)) (Ex.mem_set u I 3 (jB v y) e1 (e1.mem_below H NLN (Aa aP))) (Ex.mem_set u I 3 (jB v y) e2 (e2.mem_below H NLN (Aa aQ))) (Ex.mem_set u I 3 (jB v y) e3 av));rw[aF,aH,aT]at ab;obtain⟨a4,s1,s2,a5⟩:=Aas u;obtain⟨a6,a7,ao,ap⟩:=Aas aV;have a8:=u.frozen 3;clear au av I;dsimp only;go_wp2_with fail
  rw[Aa ax,jq];refine(Aa ab).mono ?_;intro C a9 h;obtain⟨ba,rfl,hv⟩:=h.r;have aW:=Ab (hv.back aw);clear h hv ab;dsimp only;go_wp2_with fail
  go_ret
  exact(Aa aW).ans
end
section
variable {aS aO aZ aW : jD} {G : Nat -> Prop}
def TH (ts:List Int) (e:Ex):Prop:=e.typed/\∃t,Al ts e=X t
theorem Lg {o:Option Ex}(b:o=T)(h:Cy jL w a w'):A9 G o w a w':=A9.of (o':=T) h (by rw[b]) (fun e he=>by cases he)
theorem Aa3 {o:Option Ex}(h:A9 G o w a w'):(∃v,a=jH v/\∃o':Option Ex,o'.map Ex.st=o.map Ex.st/\v=oV o'/\(∀e,o'=X e->e.mem G w'))/\Ah w w':=by
 obtain⟨o',h1,h2,h3,h4⟩:=h;exact⟨⟨_,h2,o',h1,rfl,h3⟩,h4⟩
theorem AeW {g:Ex->Ex->Option Ex}{x y:Ex}{b:jT}
  (h:(∃v,b=jH v/\((op∈ops/\∃o':Option Ex,o'.map Ex.st=(g x y).map Ex.st/\v=oV o'/\(∀e,o'=X e->e.mem G w'))\/(op ∉ ops/\v=jL)))/\Ah w w'):A9 G (Fa ops g (.bin i op x y)) w b w':=by
 obtain⟨⟨v,rfl,h⟩,c⟩:=h;rcases h with⟨a,o',h1,rfl,h3⟩|⟨a,rfl⟩
 ·exact⟨o',by rw[show Fa ops g (.bin i op x y)=g x y from if_pos a];exact h1,rfl,h3,c⟩
 ·exact⟨T,by rw[AeV a],rfl,(fun e he=>by cases he),c⟩
theorem Ey {w0:Z}{c:Nat}(M:OtM w0 c d ops F #[])(p:∀args w,(callFunc F args).run j4 w= .ok (.enter F args) w)(P:Ex->Prop)(g:Ex->Ex->Option Ex)
  (q:∀x y a,Ah w0 a->x.mem G a->y.mem G a->jE j4 F #[x.val,y.val] a (A9 G (g x y) a)):
  Ih G w0 (.func (.func 140) #[] #[jK (X ⟨c,0,T⟩),jK (X ⟨d,0,T⟩)]) P (Fa ops g):=by
 refine⟨_,_,_,rfl,fun args w=>Bm func140 (by kernel_rfl) (by kernel_rfl) args w,?_⟩;intro e a j z m;show jE j4 140 #[e.val,jK (X ⟨c,0,T⟩),jK (X ⟨d,0,T⟩)] a _;cases e with
 |bin i op x y=>
  obtain⟨r,s,l⟩:=x.form;obtain⟨t,u,n⟩:=y.form;have h:∀b,Ah a b->jE j4 F #[x.val,y.val] b (A9 G (g x y) b):=fun b f=>q x y b (j.trans (f.mono j.size)) (x.mem_below f NLN m.1) (y.mem_below f NLN m.2);rw[l,n]at h;simp only[Ex.val,l,n];refine(Zd i op r s t u c d ops F a (M.below j NLN) (fun v w'=>∃o':Option Ex,o'.map Ex.st=(g x y).map Ex.st/\v=oV o'/\(∀e,o'=X e->e.mem G w')) (Ab p) (Ab fun b f=>(h b f).mono fun o w' k=>Aa3 k)).mono fun o w' k=>AeW k
 |_=>exact(QY (by decide) _ c d a).mono fun o w' h=>Lg rfl h
theorem Mp {w0:Z}{c j:Nat}(M:OtM w0 c d ops F #[jK (X ⟨j,0,T⟩)])(q:∀args w,(callFunc F args).run j4 w= .ok (.enter F args) w)(P:Ex->Prop)(g:Ex->Ex->Option Ex)
  (r:∀x y a,Ah w0 a->x.mem G a->y.mem G a->jE j4 F #[x.val,y.val,jK (X ⟨j,0,T⟩)] a (A9 G (g x y) a)):
  Ih G w0 (.func (.func 140) #[] #[jK (X ⟨c,0,T⟩),jK (X ⟨d,0,T⟩)]) P (Fa ops g):=by
 refine⟨_,_,_,rfl,fun args w=>Bm func140 (by kernel_rfl) (by kernel_rfl) args w,?_⟩;intro e a k A m;show jE j4 140 #[e.val,jK (X ⟨c,0,T⟩),jK (X ⟨d,0,T⟩)] a _;cases e with
 |bin i op x y=>
  obtain⟨s,t,n⟩:=x.form;obtain⟨u,z,o⟩:=y.form;have h:∀b,Ah a b->jE j4 F #[x.val,y.val,jK (X ⟨j,0,T⟩)] b (A9 G (g x y) b):=fun b f=>r x y b (k.trans (f.mono k.size)) (x.mem_below f NLN m.1) (y.mem_below f NLN m.2);rw[n,o]at h;simp only[Ex.val,n,o];refine(Ze i op s t u z c d ops F j a (M.below k NLN) (fun v w'=>∃o':Option Ex,o'.map Ex.st=(g x y).map Ex.st/\v=oV o'/\(∀e,o'=X e->e.mem G w')) (Ab q) (Ab fun b f=>(h b f).mono fun p w' l=>Aa3 l)).mono fun p w' l=>AeW l
 |_=>exact(QY (by decide) _ c d a).mono fun p w' h=>Lg rfl h
theorem Acv {w0:Z}(c:∀b,w0.heap.size<=b->G b)(hS:CZ w0 aS aO aZ aW)(ts:List Int):Ih G w0 (.func (.func 94) #[] #[]) (TH ts) Ar:=by
 refine⟨_,_,_,rfl,fun args w=>Bm func94 (by kernel_rfl) (by kernel_rfl) args w,?_⟩;intro e d a ⟨h1,t,h2⟩ m;exact Acr e d (fun b h=>c b (zB a.size h)) (hS.below a NLN) m h1 ts t h2
theorem Ahf {ts:List Int}{e:Ex}(h:TH ts e):AjC e:=by
 cases e with
 |ite i c x y=>
  obtain⟨_,t,h⟩:=h;intro v u hv b;rw[Al,IX hv,IX b]at h;cases hc:Al ts c with
  |none=>rw[hc]at h;cases h
  |some a=>
   rw[hc]at h;dsimp only at h;obtain⟨h1,h0⟩:=EU h;simp only[Ba]at h1;split at h1
   ·rename_i he;exact he.2
   ·exact absurd h1.symm h0
 |_=>trivial
theorem AeX {w0:Z}(c:∀b,w0.heap.size<=b->G b)(hS:CZ w0 aS aO aZ aW)(ts:List Int):Ih G w0 (.func (.func 97) #[] #[]) (TH ts) I9:=by
 refine⟨_,_,_,rfl,fun args w=>Bm func97 (by kernel_rfl) (by kernel_rfl) args w,?_⟩;intro e d a h m;exact Xg e d (fun b h=>c b (zB a.size h)) (hS.below a NLN) m (Ahf h)
theorem Ahg {w0:Z}(P:Ex->Prop):Ih G w0 (.func (.func 98) #[] #[]) P Vh:=by
 refine⟨_,_,_,rfl,fun args w=>Bm func98 (by kernel_rfl) (by kernel_rfl) args w,?_⟩;intro e a b h m;exact Aiw e a m
structure LtM (G:Nat->Prop) (w:Z) (ob:Nat) (pv:R) (la:Option jD) (lc:Nat) (ls:List Ex):Prop where
 row:Ag w ob #[pv,Y la ls.length lc] 114
 small:ls.length<=65535
 cells:∀j,(h:j<ls.length)->∃b off,la=X ⟨b,off,T⟩/\b<w.heap.size/\w.cell? ⟨b,off+j,T⟩=X ls[j].val/\ls[j].mem G w
theorem LtM.below {c:Nat}{d:R}{g:Nat}{ls:List Ex}(h:LtM G w c d f g ls)(a:Ah w w'):LtM G w' c d f g ls:=
 ⟨h.row.after a NLN,h.small,fun j k=>by
  obtain⟨b,i,h1,h2,h3,h4⟩:=h.cells j k;exact⟨b,i,h1,zE h2 a.size,(a.cell (p:=⟨b,i+j,T⟩) h2).trans h3,Ex.mem_below a NLN _ h4⟩⟩
theorem AeY {w0:Z}{a:Nat}{j:R}{q:Option jD}{l:Nat}{ls:List Ex}(M:LtM G w0 a j q l ls)(ts:List Int)(r:ts.length=ls.length):Ih G w0 (.func (.func 93) #[jK (X ⟨a,0,T⟩)] #[]) (TH ts) (Kg ls):=by
 refine⟨_,_,_,rfl,fun args w=>Bm func93 (by kernel_rfl) (by kernel_rfl) args w,?_⟩;intro e d s h m;show jE j4 93 #[jK (X ⟨a,0,T⟩),e.val] d _;cases e with
 |lett i n=>
  obtain⟨_,t,c⟩:=h;rw[Al]at c;split at c
  ·rename_i h0;obtain⟨k,rfl⟩:∃k:Nat,n=k:=⟨n.toNat,by omega⟩
   have f:k<ls.length:=by
    rw[<-r];exact(zd.1 (by simpa using c)).1
   have g:=M.below s;obtain⟨b,u,rfl,v,hc,hm⟩:=g.cells k f;obtain⟨x,y,o⟩:=ls[k].form;have hq:=IY ls[k];rw[o]at hc hq;have p:Kg ls (.lett i k)=if ls[k].con then X ls[k]else T:=by
    simp only[Kg,zV,zG f]
   refine(AeS i k a b u _ l j x y d g.row f (by have:=g.small;omega) v hc _ (Ab hq) (oV (Kg ls (.lett i k))) (Ab ?_)).mono fun z w' h=>A9.of h rfl fun e he=>?_
   ·rw[p,<-o];cases ls[k].con<;>rfl
   ·rw[p]at he;split at he<;>cases he
    exact hm
  ·cases c
 |_=>exact(Acs (by decide) _ _ d).mono fun z w' h=>Lg rfl h
end
section
variable {aS aO aZ aW : jD}
theorem IP (b:Bool)(w:Z)(F G:FuncId)(h:(F= 96/\G= 142)\/F= 106/\G= 147):jE j4 F #[.bool b] w fun a w'=>a=jH (.func (.func G) #[] #[jK (X ⟨w.heap.size,0,T⟩)])/\Ag w' w.heap.size #[.bool b] 4/\Ah w w':=by
 have R:=Ag.new w #[.bool b] 4;have B:=Av w (jF #[.bool b] 4);rcases h with⟨rfl,rfl⟩|⟨rfl,rfl⟩
 case' inl=>go_enter func96,ntmps96
 case' inr=>go_enter func106,ntmps106
 all_goals
  go_wp2_with fail
  go_ret
  exact⟨rfl,R,B⟩
def GQ (w:Z) (zb:Nat) (fv:R) (ops:List Int) (F:FuncId) (caps:Array R):Prop:=
 ∃ (ob fb ab:Nat) (to tf ta:jJ),fv= .func (.func 140) #[] #[jK (X ⟨ob,0,T⟩),jK (X ⟨fb,0,T⟩)]/\Ag w ob #[Y (X ⟨ab,0,T⟩) ops.length ops.length] to/\Ag w fb #[.func (.func F) #[] caps] tf/\Ag w ab (ops.map fun x=>U V x).toArray ta/\ob≠zb/\fb≠zb/\ab≠zb
theorem GQ.below {b:R}{c:Array R}(h:GQ w zb b ops F c)(a:Ah w w'):GQ w' zb b ops F c:=by
 obtain⟨d,f,g,to,i,j,h0,h1,h2,h3,h4⟩:=h;exact⟨d,f,g,to,i,j,h0,h1.after a NLN,h2.after a NLN,h3.after a NLN,h4⟩
theorem GQ.set {a:R}{b:Array R}(h:GQ w zb a ops F b)(k:Nat)(u:R):GQ (w.setCell ⟨zb,k,T⟩ u) zb a ops F b:=by
 obtain⟨c,d,f,to,g,i,h0,h1,h2,h3,h4,h5,h6⟩:=h;exact⟨c,d,f,to,g,i,h0,h1.setFar h4 u,h2.setFar h5 u,h3.setFar h6 u,h4,h5,h6⟩
theorem GQ.m {c:R}{d:Array R}(h:GQ w zb c ops F d)(hs:ops.length<=1048576):∃a b,c= .func (.func 140) #[] #[jK (X ⟨a,0,T⟩),jK (X ⟨b,0,T⟩)]/\OtM w a b ops F d:=by
 obtain⟨a,b,f,to,g,k,h0,h1,h2,h3,h4⟩:=h;refine⟨a,b,h0,⟨X ⟨f,0,T⟩,_,_,to,h1,rfl,hs,fun j i=>⟨f,0,rfl,h3.lt,?_⟩⟩,g,h2⟩;rw[zU,h3.cell];simp[i]
theorem CB (F:FuncId)(b:Array R)(ops:List Int)(zb:Nat){a:Nat}{g:jJ}(i:Ag w a (ops.map fun x=>U V x).toArray g)(o:zb<a):jE j4 95 #[.func (.func F) #[] b,Y (X ⟨a,0,T⟩) ops.length ops.length] w fun d w'=>∃j k,d=jH (.func (.func 140) #[] #[jK (X ⟨j,0,T⟩),jK (X ⟨k,0,T⟩)])/\GQ w' zb (.func (.func 140) #[] #[jK (X ⟨j,0,T⟩),jK (X ⟨k,0,T⟩)]) ops F b/\Ah w w':=by
 have h:∀n c,jE j4 95 #[.func (.func F) #[] b,Y (X ⟨a,0,T⟩) n c] w fun d w'=>d=jH (.func (.func 140) #[] #[jK (X ⟨w.heap.size+1,0,T⟩),jK (X ⟨w.heap.size,0,T⟩)])/\w'=(w.alloc (jF #[.func (.func F) #[] b] 158)).alloc (jF #[Y (X ⟨a,0,T⟩) n c] 24):=fun n c=>by
  go_enter func95,ntmps95
  go_wp2_with fail
  go_ret
  exact⟨by simp,rfl⟩
 have p:=i.lt;refine(h _ _).mono ?_;rintro d w' ⟨rfl,rfl⟩;refine⟨_,_,rfl,Adu (P:=fun f=>GQ f zb (.func (.func 140) #[] #[jK (X ⟨w.heap.size+1,0,T⟩),jK (X ⟨w.heap.size,0,T⟩)]) ops F b/\Ah w f) fun f B l m=>?_⟩;exact⟨⟨_,_,a,_,_,g,rfl,m,l,i.after B NLN,by omega,by omega,by omega⟩,B⟩
structure OzM (w:Z) (zb rb:Nat) (f2 f3 f6 f7 f8 f9 f10 f11 f12 f13 f14 f15 f16:R) (c2 c3 c13 c14:Nat):Prop where
 row:Ag w rb #[.func (.func 93) #[jK (X ⟨zb,0,T⟩)] #[],.func (.func 94) #[] #[],f2,f3,.func (.func 97) #[] #[],.func (.func 98) #[] #[],f6,f7,f8,f9,f10,f11,f12,f13,f14,f15,f16] 156
 far:rb≠zb
 x2:GQ w zb f2 [25] 142 #[jK (X ⟨c2,0,T⟩)]
 r2:Ag w c2 #[.bool jA] 4
 n2:c2≠zb
 x3:GQ w zb f3 [26] 142 #[jK (X ⟨c3,0,T⟩)]
 r3:Ag w c3 #[.bool jC] 4
 n3:c3≠zb
 x6:GQ w zb f6 [16] 99 #[]
 x7:GQ w zb f7 [17] 100 #[]
 x8:GQ w zb f8 [18] 101 #[]
 x9:GQ w zb f9 [11] 102 #[]
 x10:GQ w zb f10 [12] 103 #[]
 x11:GQ w zb f11 [13] 104 #[]
 x12:GQ w zb f12 [14] 105 #[]
 x13:GQ w zb f13 [19,22,24] 147 #[jK (X ⟨c13,0,T⟩)]
 r13:Ag w c13 #[.bool jA] 4
 n13:c13≠zb
 x14:GQ w zb f14 [20,21] 147 #[jK (X ⟨c14,0,T⟩)]
 r14:Ag w c14 #[.bool jC] 4
 n14:c14≠zb
 x15:GQ w zb f15 [24] 107 #[]
 x16:GQ w zb f16 [23] 108 #[]
theorem OzM.below {w w':Z}{zb b:Nat}{c d f g i j k l m n o p q:R}{c2 c3 r s:Nat}(h:OzM w zb b c d f g i j k l m n o p q c2 c3 r s)(a:Ah w w'):OzM w' zb b c d f g i j k l m n o p q c2 c3 r s:=
 ⟨h.row.after a NLN,h.far,h.x2.below a,h.r2.after a NLN,h.n2,h.x3.below a,h.r3.after a NLN,h.n3,h.x6.below a,h.x7.below a,h.x8.below a,h.x9.below a,h.x10.below a,h.x11.below a,h.x12.below a,h.x13.below a,h.r13.after a NLN,h.n13,h.x14.below a,h.r14.after a NLN,h.n14,h.x15.below a,h.x16.below a⟩
theorem OzM.set {w:Z}{zb a:Nat}{b c d f g i j l m n o p q:R}{c2 c3 r s:Nat}(h:OzM w zb a b c d f g i j l m n o p q c2 c3 r s)(k:Nat)(u:R):OzM (w.setCell ⟨zb,k,T⟩ u) zb a b c d f g i j l m n o p q c2 c3 r s:=
 ⟨h.row.setFar h.far u,h.far,h.x2.set k u,h.r2.setFar h.n2 u,h.n2,h.x3.set k u,h.r3.setFar h.n3 u,h.n3,h.x6.set k u,h.x7.set k u,h.x8.set k u,h.x9.set k u,h.x10.set k u,h.x11.set k u,h.x12.set k u,h.x13.set k u,h.r13.setFar h.n13 u,h.n13,h.x14.set k u,h.r14.setFar h.n14 u,h.n14,h.x15.set k u,h.x16.set k u⟩
theorem OzM.mk' {c2 c3 a b:Nat}{c d f g i j k l m n p q r:R}(s:zb<w.heap.size)(h:(GQ w zb r [23] 108 #[]/\GQ w zb q [24] 107 #[]/\GQ w zb p [20,21] 147 #[jK (X ⟨b,0,T⟩)]/\Ag w b #[.bool jC] 4/\GQ w zb n [19,22,24] 147 #[jK (X ⟨a,0,T⟩)]/\Ag w a #[.bool jA] 4/\GQ w zb m [14] 105 #[]/\GQ w zb l [13] 104 #[]/\GQ w zb k [12] 103 #[]/\GQ w zb j [11] 102 #[]/\GQ w zb i [18] 101 #[]/\GQ w zb g [17] 100 #[]/\GQ w zb f [16] 99 #[]/\GQ w zb d [26] 142 #[jK (X ⟨c3,0,T⟩)]/\Ag w c3 #[.bool jC] 4/\GQ w zb c [25] 142 #[jK (X ⟨c2,0,T⟩)]/\Ag w c2 #[.bool jA] 4/\True))(n2:c2≠zb)(n3:c3≠zb)(n13:a≠zb)(n14:b≠zb):OzM (w.alloc (jF #[.func (.func 93) #[jK (X ⟨zb,0,T⟩)] #[],.func (.func 94) #[] #[],c,d,.func (.func 97) #[] #[],.func (.func 98) #[] #[],f,g,i,j,k,l,m,n,p,q,r] 156)) zb w.heap.size c d f g i j k l m n p q r c2 c3 a b/\Ah w (w.alloc (jF #[.func (.func 93) #[jK (X ⟨zb,0,T⟩)] #[],.func (.func 94) #[] #[],c,d,.func (.func 97) #[] #[],.func (.func 98) #[] #[],f,g,i,j,k,l,m,n,p,q,r] 156)):=by
 have B:=fun o=>Av w o;obtain⟨x16,x15,x14,r14,x13,r13,x12,x11,x10,x9,x8,x7,x6,x3,r3,x2,r2,_⟩:=h;exact⟨⟨Ag.new w _ _,Nat.ne_of_gt s,x2.below (B _),r2.alloc _,n2,x3.below (B _),r3.alloc _,n3,x6.below (B _),x7.below (B _),x8.below (B _),x9.below (B _),x10.below (B _),x11.below (B _),x12.below (B _),x13.below (B _),r13.alloc _,n13,x14.below (B _),r14.alloc _,n14,x15.below (B _),x16.below (B _)⟩,B _⟩
def KpA (w:Z) (Q:Z->Prop):Prop:=Q w/\∀a b,Q a->Ah a b->Q b
theorem KpA.nil (w:Z):KpA w fun _=>True:=⟨trivial,fun _ _ _ _=>trivial⟩
theorem KpA.add {d P:Z->Prop}(h:KpA w d)(b:Ah w w')(hp:P w')(g:∀a b,P a->Ah a b->P b):KpA w' fun f=>P f/\d f:=⟨⟨hp,h.2 _ _ h.1 b⟩,fun a c q k=>⟨g a c q.1 k,h.2 a c q.2 k⟩⟩
theorem KpA.addR {d:Z->Prop}{b:Nat}(h:KpA w d)(S:Ah w w')(c:Ag w' b cs t):KpA w' fun a=>Ag a b cs t/\d a:=h.add (P:=fun a=>Ag a b cs t) S c fun _ _ c k=>c.after k NLN
theorem KpA.addX {d:Z->Prop}{b:R}{c:Array R}(h:KpA w d)(S:Ah w w')(x:GQ w' zb b ops F c):KpA w' fun a=>GQ a zb b ops F c/\d a:=h.add (P:=fun a=>GQ a zb b ops F c) S x fun _ _ f k=>f.below k
theorem NC (w:Z):jE j4 56 #[] w fun g w'=>∃zb l,(∃t u v y z A C D E F G H I c2 c3 J K,OzM w' zb l t u v y z A C D E F G H I c2 c3 J K)/\g=jH (jK (X ⟨zb,0,T⟩))/\Ag w' zb #[Y (X ⟨l,0,T⟩) 17 17,Y T 0 0] 114/\w.heap.size<=zb/\Ah w w':=by
 go_enter func56,ntmps56
 go_wp2_with fail
 refine EC (P:=fun c=>jE _ _ _ c _) fun m n o=>?_;have f:=o.lt;have d:=Ab (KpA.nil m);have a:=Ji m;refine(IP jA _ _ _ (.inl ⟨rfl,rfl⟩)).mono ?_;rintro g O ⟨rfl,h,S⟩;replace d:=Ab ((Aa d).addR S h);have n2:=Nat.ne_of_gt (zE f a.size);replace a:=a.trans (S.mono a.size);clear h S;dsimp only;go_wp2_with fail
 refine EC (P:=fun c=>jE _ _ _ c _) fun c B R=>?_;refine(CB _ _ [25] w.heap.size R (zE f a.size)).mono ?_;rintro g W ⟨aa,ab,rfl,x,b⟩;replace B:=B.trans (b.mono B.size);replace d:=Ab ((Aa d).addX B x);replace a:=a.trans (B.mono a.size);clear x b R B;dsimp only;go_wp2_with fail
 refine(IP jC _ _ _ (.inl ⟨rfl,rfl⟩)).mono ?_;rintro g ac ⟨rfl,h,S⟩;replace d:=Ab ((Aa d).addR S h);have n3:=Nat.ne_of_gt (zE f a.size);replace a:=a.trans (S.mono a.size);clear h S;dsimp only;go_wp2_with fail
 refine EC (P:=fun c=>jE _ _ _ c _) fun c B R=>?_;refine(CB _ _ [26] w.heap.size R (zE f a.size)).mono ?_;rintro g ad ⟨ae,af,rfl,x,b⟩;replace B:=B.trans (b.mono B.size);replace d:=Ab ((Aa d).addX B x);replace a:=a.trans (B.mono a.size);clear x b R B;dsimp only;go_wp2_with fail
 refine EC (P:=fun c=>jE _ _ _ c _) fun c B R=>?_;refine(CB _ _ [16] w.heap.size R (zE f a.size)).mono ?_;rintro g ag ⟨ah,ai,rfl,x,b⟩;replace B:=B.trans (b.mono B.size);replace d:=Ab ((Aa d).addX B x);replace a:=a.trans (B.mono a.size);clear x b R B;dsimp only;go_wp2_with fail
 refine EC (P:=fun c=>jE _ _ _ c _) fun c B R=>?_;refine(CB _ _ [17] w.heap.size R (zE f a.size)).mono ?_;rintro g aj ⟨ak,al,rfl,x,b⟩;replace B:=B.trans (b.mono B.size);replace d:=Ab ((Aa d).addX B x);replace a:=a.trans (B.mono a.size);clear x b R B;dsimp only;go_wp2_with fail
 refine EC (P:=fun c=>jE _ _ _ c _) fun c B R=>?_;refine(CB _ _ [18] w.heap.size R (zE f a.size)).mono ?_;rintro g ao ⟨ap,aq,rfl,x,b⟩;replace B:=B.trans (b.mono B.size);replace d:=Ab ((Aa d).addX B x);replace a:=a.trans (B.mono a.size);clear x b R B;dsimp only;go_wp2_with fail
 refine EC (P:=fun c=>jE _ _ _ c _) fun c B R=>?_;refine(CB _ _ [11] w.heap.size R (zE f a.size)).mono ?_;rintro g ar ⟨au,av,rfl,x,b⟩;replace B:=B.trans (b.mono B.size);replace d:=Ab ((Aa d).addX B x);replace a:=a.trans (B.mono a.size);clear x b R B;dsimp only;go_wp2_with fail
 refine EC (P:=fun c=>jE _ _ _ c _) fun c B R=>?_;refine(CB _ _ [12] w.heap.size R (zE f a.size)).mono ?_;rintro g aw ⟨ax,ay,rfl,x,b⟩;replace B:=B.trans (b.mono B.size);replace d:=Ab ((Aa d).addX B x);replace a:=a.trans (B.mono a.size);clear x b R B;dsimp only;go_wp2_with fail
 refine EC (P:=fun c=>jE _ _ _ c _) fun c B R=>?_;refine(CB _ _ [13] w.heap.size R (zE f a.size)).mono ?_;rintro g az ⟨aA,aB,rfl,x,b⟩;replace B:=B.trans (b.mono B.size);replace d:=Ab ((Aa d).addX B x);replace a:=a.trans (B.mono a.size);clear x b R B;dsimp only;go_wp2_with fail
 refine EC (P:=fun c=>jE _ _ _ c _) fun c B R=>?_;refine(CB _ _ [14] w.heap.size R (zE f a.size)).mono ?_;rintro g aC ⟨aD,aE,rfl,x,b⟩;replace B:=B.trans (b.mono B.size);replace d:=Ab ((Aa d).addX B x);replace a:=a.trans (B.mono a.size);clear x b R B;dsimp only;go_wp2_with fail
 refine(IP jA _ _ _ (.inr ⟨rfl,rfl⟩)).mono ?_;rintro g aF ⟨rfl,h,S⟩;replace d:=Ab ((Aa d).addR S h);have n13:=Nat.ne_of_gt (zE f a.size);replace a:=a.trans (S.mono a.size);clear h S;dsimp only;go_wp2_with fail
 refine EC (P:=fun c=>jE _ _ _ c _) fun c B R=>?_;refine(CB _ _ [19,22,24] w.heap.size R (zE f a.size)).mono ?_;rintro g aG ⟨aH,aI,rfl,x,b⟩;replace B:=B.trans (b.mono B.size);replace d:=Ab ((Aa d).addX B x);replace a:=a.trans (B.mono a.size);clear x b R B;dsimp only;go_wp2_with fail
 refine(IP jC _ _ _ (.inr ⟨rfl,rfl⟩)).mono ?_;rintro g aJ ⟨rfl,h,S⟩;replace d:=Ab ((Aa d).addR S h);have n14:=Nat.ne_of_gt (zE f a.size);replace a:=a.trans (S.mono a.size);clear h S;dsimp only;go_wp2_with fail
 refine EC (P:=fun c=>jE _ _ _ c _) fun c B R=>?_;refine(CB _ _ [20,21] w.heap.size R (zE f a.size)).mono ?_;rintro g aK ⟨aL,aM,rfl,x,b⟩;replace B:=B.trans (b.mono B.size);replace d:=Ab ((Aa d).addX B x);replace a:=a.trans (B.mono a.size);clear x b R B;dsimp only;go_wp2_with fail
 refine EC (P:=fun c=>jE _ _ _ c _) fun c B R=>?_;refine(CB _ _ [24] w.heap.size R (zE f a.size)).mono ?_;rintro g aN ⟨aO,aP,rfl,x,b⟩;replace B:=B.trans (b.mono B.size);replace d:=Ab ((Aa d).addX B x);replace a:=a.trans (B.mono a.size);clear x b R B;dsimp only;go_wp2_with fail
 refine EC (P:=fun c=>jE _ _ _ c _) fun c B R=>?_;refine(CB _ _ [23] w.heap.size R (zE f a.size)).mono ?_;rintro g i ⟨aQ,aR,rfl,x,b⟩;replace B:=B.trans (b.mono B.size);replace d:=Ab ((Aa d).addX B x);replace a:=a.trans (B.mono a.size);clear x b R B;have q:=zE f a.size;obtain⟨r,s⟩:=OzM.mk' q (Aa d).1 n2 n3 n13 n14;have j:=a.trans (s.mono a.size);have k:=o.after j NLN;have L:=Ab (r.set 0 (Y (X ⟨i.heap.size,0,T⟩) 17 17));have M:=k.set 0 (Y (X ⟨i.heap.size,0,T⟩) 17 17);have N:=(n.trans (j.mono n.size)).setCell (p:=⟨w.heap.size,0,T⟩) NLN (Y (X ⟨i.heap.size,0,T⟩) 17 17);have aS:=k.frozen 0;have aT:=k.cell 0;clear r s j d q a f;dsimp only;go_wp2_with fail
 go_ret
 exact⟨_,_,⟨_,_,_,_,_,_,_,_,_,_,_,_,_,_,_,_,_,Aa L⟩,rfl,M,NLN,N⟩
end
end Go.Proofs.YteiieikcjcfkkaaGreatDoor
