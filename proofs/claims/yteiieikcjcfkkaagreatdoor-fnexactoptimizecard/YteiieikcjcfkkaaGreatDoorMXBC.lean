import Derived.Test.YteiieikcjcfkkaaGreatDoorMXAW
import Derived.Test.YteiieikcjcfkkaaGreatDoorMXBI
import Derived.Test.YteiieikcjcfkkaaGreatDoorMXBK
open Go.Proofs.Tryz
open Option renaming none->T,some->X
open Go.Value renaming int->U,slice->Y,string->Q,agg->jG,nilIface->jL
open Go.IntKind renaming i64->V
open Go renaming World->Z,Value->R,Addr->jD,Calls->jE,bodyPost_ret->jN,info_parts->jZ,rounds_succ->je,wpList_append_lies->jj,heap_alloc_new->jm,wp_loop_rounds->jv
open Bool renaming true->jA,false->jC
open Go.Obj renaming cells->jF
open Go.Ending renaming returned->jH
open Go.RowKit renaming intOf->jI,Below->jQ
open And renaming intro->jS
open Go.World.ownsRow renaming alloc->jV
open Go.World renaming size_alloc->jW,ownsRow_nil->jX
open Option.some renaming inj->jb
open List renaming map_cons->jd
open Go.Proofs.Tryz renaming prog->j4
namespace Go.Proofs.YteiieikcjcfkkaaGreatDoor
open Go.RowKit
set_option linter.unusedSimpArgs false
set_option linter.unnecessarySimpa false
set_option linter.unusedVariables false
set_option maxRecDepth 100000
set_option maxHeartbeats 3200000
variable {p:jD}{args:Array R}{F:FuncId}{S:List Sx}{n c:Nat}{a:Option jD}{t:TypeId}{v k l m z:R}{w w':Z}
section
variable {G : Nat -> Prop}
theorem Ap.setG {ss:List ByteArray}(h:Ap w a n c ss)(hp:∀x,a=X x->0<n->x.block≠p.block)(u:R):Ap (w.setCell p u) a n c ss:=
 ⟨h.len,h.cap,h.small,h.sizes,fun j d=>by
  obtain⟨b,g,f,i,hc⟩:=h.cells j d;refine⟨b,g,f,by simpa using i,?_⟩;rw[<-hc];exact World.cell?_of_block (heap_setCell_other w p b u (hp _ f (Nat.lt_of_le_of_lt (zD _) d)))⟩
theorem Ex.mem_far {w:Z}{p:jD}(hp:∀b,G b->b≠p.block)(u:R):∀(e:Ex),e.mem G w->e.mem G (w.setCell p u)
 |.int ..,h=>h
 |.text ..,h=>h
 |.bool ..,h=>h
 |.set ..,h=>⟨h.1.setG (fun x hx a=>hp _ (h.2.2 x hx a)) u,h.2⟩
 |.name ..,h=>h
 |.attr ..,h=>h
 |.lett ..,h=>h
 |.un _ _ e,h=>Ex.mem_far hp u e h
 |.bin _ _ e f,h=>⟨Ex.mem_far hp u e h.1,Ex.mem_far hp u f h.2⟩
 |.ite _ e f g,h=>⟨Ex.mem_far hp u e h.1,Ex.mem_far hp u f h.2.1,Ex.mem_far hp u g h.2.2⟩
theorem Ex.mem_le {G d:Nat->Prop}{w:Z}(hp:∀b,b<w.heap.size->G b->d b):∀(e:Ex),e.mem G w->e.mem d w
 |.int ..,h=>h
 |.text ..,h=>h
 |.bool ..,h=>h
 |.set _ a n c ss,h=>⟨h.1,h.2.1,fun x hx i=>by
  obtain⟨b,l,j,k,_⟩:=h.1.cells 0 i;have hg:=h.2.2 x hx i;rw[hx]at j;cases j;exact hp _ k hg⟩
 |.name ..,h=>h
 |.attr ..,h=>h
 |.lett ..,h=>h
 |.un _ _ e,h=>Ex.mem_le hp e h
 |.bin _ _ e f,h=>⟨Ex.mem_le hp e h.1,Ex.mem_le hp f h.2⟩
 |.ite _ e f g,h=>⟨Ex.mem_le hp e h.1,Ex.mem_le hp f h.2.1,Ex.mem_le hp g h.2.2⟩
def Rb (G:Nat->Prop) (x:Option Ex) (v:R) (w:Z):Prop:=∃o':Option Ex,v=oV o'/\o'.map Ex.st=x.map Ex.st/\∀e,o'=X e->e.mem G w
theorem Rb.below {x:Option Ex}(h:Rb G x v w)(a:Below w.heap.size w w'):Rb G x v w':=by
 obtain⟨o',h1,h2,h3⟩:=h;exact⟨o',h1,h2,fun e he=>e.mem_below a NLN (h3 e he)⟩
theorem Rb.far {x:Option Ex}(h:Rb G x v w)(hp:∀b,G b->b≠p.block)(u:R):Rb G x v (w.setCell p u):=by
 obtain⟨o',h1,h2,h3⟩:=h;exact⟨o',h1,h2,fun e he=>e.mem_far hp u (h3 e he)⟩
def RbO (G:Nat->Prop) (F:FuncId) (pre post:Array R) (w0:Z) (v:R) (x:Option Ex):Prop:=
 ∀w,Below w0.heap.size w0 w->jE j4 109 #[v,.func (.func F) pre post] w fun r w'=>∃v',r=jH v'/\Rb G x v' w'/\Below w.heap.size w w'
theorem Xj (F:FuncId)(a b:Array R)(w0:Z):RbO G F a b w0 jL T:=fun w _=>
 (Ahe F a b w).mono fun c w' h=>⟨_,h.1,⟨T,rfl,rfl,fun e he=>by cases he⟩,h.2⟩
theorem Xk {a b:Array R}{w0:Z}{x:Ex}(h:RbX G F a b w0 v x):RbO G F a b w0 v (X x):=fun w c=>
 (h w c).mono fun f w' d=>by
  obtain⟨e,h1,h2,h3,h4⟩:=d;exact⟨_,h2,⟨X e,rfl,congrArg X h1,fun e' he=>by cases he;exact h3⟩,h4⟩
abbrev Rd (G:Nat->Prop) (b:Nat):Nat->Prop:=fun x=>x≠b/\x≠b+1/\G x
theorem Rb.form {x:Option Ex}{v:R}{w:Z}(h:Rb G x v w):(x=T->v=jL)/\(x≠T->∃t u,v= .iface t u):=by
 obtain⟨o',rfl,h2,_⟩:=h;cases o'<;>cases x<;>first|cases h2;done|skip
 ·exact⟨fun _=>rfl,fun h=>absurd rfl h⟩
 ·exact⟨fun h=>(nomatch h),fun _=>Ex.form _⟩
abbrev s5 (W:Z) (s:Nat) (a b c d e:R):Z:=((((W.setCell ⟨s,0,T⟩ a).setCell ⟨s,1,T⟩ b).setCell ⟨s,2,T⟩ c).setCell ⟨s,3,T⟩ d).setCell ⟨s,4,T⟩ e
theorem AjD {f:Z}{s:Nat}{i n:Value}(R:Ag f s #[i,k,l,m,n] t)(B:jQ s w f)(a b c d e:Value):Ag (s5 f s a b c d e) s #[a,b,c,d,e] t/\jQ s w (s5 f s a b c d e)/\∀{G:Nat->Prop} (x:Ex),x.mem (fun b=>b≠s/\G b) f->x.mem G (s5 f s a b c d e):=by
 have far:∀{f:Z} {G:Nat->Prop} (j:Nat) (u:Value) (x:Ex),x.mem (fun b=>b≠s/\G b) f->x.mem (fun b=>b≠s/\G b) (f.setCell ⟨s,j,T⟩ u):=fun j u=>Ex.mem_far (p:=⟨s,j,T⟩) (fun b h=>h.1) u;have g:∀{f:Z} (j:Nat) (u:Value),jQ s w f->jQ s w (f.setCell ⟨s,j,T⟩ u):=fun j u B=>B.setCell (p:=⟨s,j,T⟩) NLN u;exact⟨((((R.set 0 a).set 1 b).set 2 c).set 3 d).set 4 e,g 4 e (g 3 d (g 2 c (g 1 b (g 0 a B)))),fun x h=>Ex.mem_le (fun b _ h=>h.2) x (far 4 e x (far 3 d x (far 2 c x (far 1 b x (far 0 a x h)))))⟩
theorem Aix {f g:Z}{b:Nat}{T:TypeId}{d a1 a2 y k l m n q a c:Value}{r x2:Option Ex}(R:Ag f b #[d,a1,a2,y,z] T)(A:Ag f (b+1) #[k,l,m,n,q] T)(B:jQ b w f)(C:Rb (Rd G b) r a f)(o2:Rb (Rd G b) x2 c f)(h:g=(f.setCell ⟨b,3,none⟩ a).setCell ⟨b,4,none⟩ c):
  Ag g b #[d,a1,a2,a,c] T/\Ag g (b+1) #[k,l,m,n,q] T/\Ag (s5 g (b+1) d a1 a2 a c) (b+1) #[d,a1,a2,a,c] T/\jQ b w (s5 g (b+1) d a1 a2 a c)/\Rb G r a (s5 g (b+1) d a1 a2 a c)/\Rb G x2 c (s5 g (b+1) d a1 a2 a c):=by
 subst h;have s:=(A.setFar (p:=⟨b,3,none⟩) (by show b+1≠b;omega) a).setFar (p:=⟨b,4,none⟩) (by show b+1≠b;omega) c;obtain⟨D,_,E⟩:=AjD s (Below.refl (b+1) _) d a1 a2 a c;have far:∀{x:Option Ex} {v:Value},Rb (Rd G b) x v f->Rb G x v (s5 ((f.setCell ⟨b,3,none⟩ a).setCell ⟨b,4,none⟩ c) (b+1) d a1 a2 a c):=fun o=>by
  obtain⟨o',h1,h2,h3⟩:=(o.far (p:=⟨b,3,none⟩) (fun b h=>h.1) a).far (p:=⟨b,4,none⟩) (fun b h=>h.1) c;exact⟨o',h1,h2,fun e he=>E e (Ex.mem_le (fun _ _ h=>h.2) e (h3 e he))⟩
 have i:∀{t:Z} (j:Nat) (u:Value),jQ b w t->jQ b w (t.setCell ⟨b+1,j,none⟩ u):=fun j u B=>B.setCell (p:=⟨b+1,j,none⟩) (zj _) u;exact⟨(R.set 3 a).set 4 c,s,D,i 4 c (i 3 a (i 2 a2 (i 1 a1 (i 0 d ((B.setCell (p:=⟨b,3,none⟩) NLN a).setCell (p:=⟨b,4,none⟩) NLN c))))),far C,far o2⟩
theorem TI (F:FuncId)(f g:Array R)(j s:Int)(nm:ByteArray)(i d:R)(b x2:Option Ex)(w:Z)
  (aa:Hid (∀a,Below w.heap.size w a->w.heap.size+2<=a.heap.size->RbO (Rd G w.heap.size) F f g a i b))(ab:Hid (∀a,Below w.heap.size w a->w.heap.size+2<=a.heap.size->RbO (Rd G w.heap.size) F f g a d x2)):
  jE j4 57 #[jG #[U V j,U V s,Q nm,i,d],.func (.func F) f g] w fun t w'=>(∃n o,t=jH (jG #[U V j,U V s,Q nm,n,o])/\Rb G b n w'/\Rb G x2 o w')/\Below w.heap.size w w':=by
 have I:(Tryz.f109.name== "runtime.NumGoroutine")=jC:=by kernel_rfl
 have J: Tryz.f109.body.isNone=jC:=by kernel_rfl
 have ac:Hid (b=T)\/Hid (b≠T):=by by_cases h:b=T;exact .inl (Ab h);exact .inr (Ab h)
 have ad:Hid (x2=T)\/Hid (x2≠T):=by by_cases h:x2=T;exact .inl (Ab h);exact .inr (Ab h)
 rcases ac with X1|X1<;>rcases ad with X2|X2
 all_goals
  go_enter func57,ntmps57
  go_wp2_with fail
  refine Adu (P:=Code.wp _ _ _ _) fun a l p u=>?_;have K:=u.lt;have ae:=Ab (Aa aa a l K);have af:=Ab (Aa ab a l K);have r2:a.cell? ⟨w.heap.size,3,T⟩=X i:=p.cell 3;have r3:a.cell? ⟨w.heap.size,4,T⟩=X d:=p.cell 4;have L:Below a.heap.size a a.drew:=BRN.drew;go_region_law (first
   |(refine AE rfl 109 _ func109 I J _ _ _ rfl i (.func (.func F) f g) rfl rfl (fun x w'=>Rb (Rd G w.heap.size) b x w'/\Below a.heap.size a w') ((Aa ae a.drew L).mono (fun t w' h=>⟨h.choose,h.choose_spec.1,h.choose_spec.2.1,L.trans h.choose_spec.2.2⟩)) ?_;rintro n y ⟨q,r⟩;have z:=p.after r NLN;have ag:y.cell? ⟨w.heap.size,4,T⟩=X d:=z.cell 4)
   |(refine AE rfl 109 _ func109 I J _ _ _ rfl d (.func (.func F) f g) rfl rfl (fun x w'=>Rb (Rd G w.heap.size) x2 x w'/\Below y.heap.size y w') ((Aa af y r).mono (fun t w' h=>⟨h.choose,h.choose_spec.1,h.choose_spec.2.1,h.choose_spec.2.2⟩)) ?_;rintro o A ⟨o2,B⟩;have m:=z.after B NLN;have ah:A.cell? ⟨w.heap.size,3,T⟩=X i:=m.cell 3;have ai:A.cell? ⟨w.heap.size,4,T⟩=X d:=m.cell 4;have aj:=fun k=>m.frozen k;obtain⟨aw,C⟩:∃ak,ak=(A.setCell ⟨w.heap.size,3,T⟩ n).setCell ⟨w.heap.size,4,T⟩ o:=⟨_,rfl⟩;have D:=r.trans (B.mono r.size);have M:=Ab (Aix m (u.after D NLN) (l.trans (D.mono l.size)) (q.below B) o2 C);have N:=Ab C;clear C;(first|(have c:Hid (b=T):=X1;obtain rfl:=q.form.1 (Aa c))|(have c:Hid (b≠T):=X1;obtain⟨ax,ay,rfl⟩:=q.form.2 (Aa c)));(first|(have c:Hid (x2=T):=X2;obtain rfl:=o2.form.1 (Aa c))|(have c:Hid (x2≠T):=X2;obtain⟨az,aA,rfl⟩:=o2.form.2 (Aa c)))))
  all_goals
   rw[<-Aa N];obtain⟨al,ao,O,S,E,H⟩:=Aa M;simp only[s5]at O S E H;clear ah ai aj ag r2 r3 m z D l p u q o2 N M;obtain⟨aB,aC,aD,aE,aF⟩:=AP al;obtain⟨aG,aH,aI,aJ,aK⟩:=AP ao;have W:=Ab (jS E H);clear E H;go_wp2_with fail
   obtain⟨ap,aq,ar,au,av⟩:=AP O;exact jN (v:= jG #[U V j,U V s,Q nm,_,_]) (by simp[results,results57,go_sem,ap,aq,ar,au,av]) rfl ⟨⟨_,_,rfl,(Aa W).1,(Aa W).2⟩,S⟩
end
section
variable {aS aO aZ aW : jD} {G : Nat -> Prop}
theorem LtM.le {G a:Nat->Prop}{c:Nat}{d:R}{f:Option jD}{g:Nat}{ls:List Ex}(h:LtM G w c d f g ls)(hp:∀b,b<w.heap.size->G b->a b):LtM a w c d f g ls:=
 ⟨h.row,h.small,fun j i=>by
  obtain⟨b,k,h1,h2,h3,h4⟩:=h.cells j i;exact⟨b,k,h1,h2,h3,Ex.mem_le hp _ h4⟩⟩
theorem OzS.le {G a:Nat->Prop}{w:Z}{zb:Nat}{ls:List Ex}(h:OzS G w zb ls)(hp:∀b,b<w.heap.size->G b->a b):OzS a w zb ls:=by
 obtain⟨c,d,f,h1,h2⟩:=h;exact⟨c,d,f,h1,h2.le hp⟩
def Ae1 (G:Nat->Prop) (ts:List Int) (o:Option Ex) (w:Z):Prop:=∀e,o=X e->FM e/\(∃t,Al ts e=X t)/\e.mem G w
theorem Ae2 {zb:Nat}{ls:List Ex}(h:OzS G w zb ls)(f:∀b,w.heap.size<=b->G b)(hS:CZ w aS aO aZ aW)(ts:List Int)(i:ts.length=ls.length)(hy:Fu ts ls)(hg:∀c∈ls,FM c)(o:Option Ex)(j:Ae1 G ts o w)(a:Z)(d:Below w.heap.size w a)(k:w.heap.size+2<=a.heap.size):
  RbO (Rd G w.heap.size) 58 #[.pointer (X ⟨zb,0,T⟩)] #[] a (AH o) (o.map (AG ls)):=by
 cases o with
 |none=>exact Xj _ _ _ a
 |some e=>
  obtain⟨g,t,m⟩:=j e rfl;have hp:∀b,b<w.heap.size->G b->Rd G w.heap.size b:=fun b h g=>⟨by omega,by omega,g⟩
  exact Xk (Lh ((h.le hp).below d) (fun b h=>⟨by omega,by omega,f b (by omega)⟩) (hS.below d NLN) ts i hy hg e g t (e.mem_below d NLN (Ex.mem_le hp e m)))
theorem Zk {zb:Nat}{ls:List Ex}(h:OzS G w zb ls)(g:∀b,w.heap.size<=b->G b)(hS:CZ w aS aO aZ aW)(ts:List Int)(i:ts.length=ls.length)(hy:Fu ts ls)(hg:∀c∈ls,FM c)(x:Sx)(h1:Ae1 G ts x.cond w)(h2:Ae1 G ts x.grant w):
  jE j4 57 #[jG #[U V x.at',U V x.kind,Q x.name,AH x.cond,AH x.grant],.func (.func 58) #[.pointer (X ⟨zb,0,T⟩)] #[]] w fun l w'=>(∃j k,l=jH (jG #[U V x.at',U V x.kind,Q x.name,j,k])/\Rb G (x.cond.map (AG ls)) j w'/\Rb G (x.grant.map (AG ls)) k w')/\Below w.heap.size w w':=
 TI _ _ _ x.at' x.kind x.name _ _ _ _ w (Ab fun a d f=>Ae2 h g hS ts i hy hg x.cond h1 a d f) (Ab fun a d f=>Ae2 h g hS ts i hy hg x.grant h2 a d f)
end
def AS (S:List Sx):Nat:=(S.filter fun x=>x.kind==1).length
theorem Li (S:List Sx)(x:Sx):AS (S++[x])=AS S+if x.kind=1 then 1 else 0:=by
 unfold AS;rw[List.filter_append,zC];by_cases h:x.kind=1<;>simp[h]
theorem Xl (S:List Sx):AS S<=S.length:=List.length_filter_le _ _
structure Yt (w:Z) (g:Nat) (S:List Sx):Prop where
 ex:∃cur,Ag w g cur 108/\∀(r:Nat) (u:R),(GN S)[r]? =X u->cur[r]? =X u
theorem Yt.below {g:Nat}(h:Yt w g S)(a:Below w.heap.size w w'):Yt w' g S:=by
 obtain⟨b,h1,h2⟩:=h.ex;exact⟨b,h1.after a NLN,h2⟩
theorem Yt.at {g:Nat}(h:Yt w g S)(k:Nat)(c:k<S.length):
  w.cell? ⟨g,k*5,T⟩=X (U V S[k].at')/\w.cell? ⟨g,k*5+1,T⟩=X (U V S[k].kind)/\w.cell? ⟨g,k*5+2,T⟩=X (Q S[k].name)/\w.cell? ⟨g,k*5+3,T⟩=X (AH S[k].cond)/\w.cell? ⟨g,k*5+4,T⟩=X (AH S[k].grant):=by
 obtain⟨i,R,hc⟩:=h.ex;have a:∀b,b<5->∀u,(Gm S[k])[b]? =X u->w.cell? ⟨g,k*5+b,T⟩=X u:=fun b d u f=>by
  rw[R.cell];refine hc _ _ ?_;rw[Pw S k c b d];exact f
 exact⟨a 0 (by decide) _ rfl,a 1 (by decide) _ rfl,a 2 (by decide) _ rfl,a 3 (by decide) _ rfl,a 4 (by decide) _ rfl⟩
theorem Yt.lt {w:Z}{g:Nat}{S:List Sx}(h:Yt w g S):g<w.heap.size:=by
 obtain⟨a,R,_⟩:=h.ex;exact R.lt
theorem Bi (o:Option Ex):AH o=jL\/∃t u,AH o= .iface t u:=by
 cases o with
 |none=>exact .inl rfl
 |some e=>exact .inr e.form
theorem UR (S:List Sx)(m g c:Nat)(w:Z)(hm:S.length=m)(J:m<=65535)(h:Yt w g S):
  jE j4 61 #[Y (X ⟨g,0,T⟩) m c] w fun z w'=>z=jH (U V (AS S))/\Below w.heap.size w w':=by
 have r:=Ab hm;have A:=Ab h;clear hm h;go_enter func61,ntmps61
 go_wp2_with fail
 go_loopw [8,3] (fun i n wr=>∃k:Nat,k<=m/\i=U V k/\n=U V (AS (S.take k))/\Below w.heap.size w wr) (fun i _ _=>m-(jI i).toNat)
 case atStart=>exact⟨0,by omega,rfl,rfl,BRN⟩
 case round=>
  obtain⟨k,K,rfl,rfl,d⟩:=hrel;have l:=Xl (S.take k);rw[zr]at l;by_cases f:k<m
  ·have L:(k:Int)<(m:Int):=by omega
   have o:k<S.length:=by rw[Aa r];exact f
   have s:=(Aa A).below d;obtain⟨t,c1,c2,c3,c4⟩:=s.at k o;have a:=Ab (show AS (S.take (k+1))=AS (S.take k)+if S[k].kind=1 then 1 else 0 by rw[zQ o,Li]);have j:=Ab f;have B:AS (S.take k)<=65535:=by omega
   generalize AS (S.take k)=q at a B l|-;generalize S[k]=x at t c1 c2 c3 c4 a;obtain⟨C,p,D,u,v⟩:=x;simp only at t c1 c2 c3 c4 a;have y:=fun E F=>d.alloc d.size (jF #[U V C,U V p,Q D,E,F] 108);clear f o s l;by_cases hx:p=1
   ·subst hx;have b:=Ab (show AS (S.take (k+1))=q+1 from(Aa a).trans (by rw[if_pos rfl]));clear a;rcases Bi u with e3|⟨G,u3,e3⟩<;>rcases Bi v with e4|⟨H,u4,e4⟩<;>(
     rw[e3]at c3;rw[e4]at c4;clear e3 e4;go_wp2_with fail
     go_roundw
     case rel=>exact⟨k+1,Aa j,by go_num,by rw[Aa b];go_num,y _ _⟩
     case measure=>have:=Aa j;simp[jI];omega)
   ·have e1:(p==1)=jC:=zA.2 hx;have b:=Ab (show AS (S.take (k+1))=q from(Aa a).trans (by rw[if_neg hx];rfl));clear a hx;rcases Bi u with e3|⟨G,u3,e3⟩<;>rcases Bi v with e4|⟨H,u4,e4⟩<;>(
     rw[e3]at c3;rw[e4]at c4;clear e3 e4;go_wp2_with fail
     go_roundw
     case rel=>exact⟨k+1,Aa j,by go_num,by rw[Aa b],y _ _⟩
     case measure=>have:=Aa j;simp[jI];omega)
  ·have I:k=m:=by omega
   have b:=Ab (show S.take k=S from zY (by rw[Aa r];omega));subst I;clear f;go_wp2_with fail
   go_ret
   exact⟨by simp[Aa b],d⟩
def Cc (x:Sx):Sx:=⟨0,x.kind,x.name,x.cond.map Ex.st,x.grant.map Ex.st⟩
theorem Zm (ls:List Ex)(o:Option Ex):(o.map Ex.st).map (AG (ls.map Ex.st))=(o.map (AG ls)).map Ex.st:=by
 cases o with
 |none=>rfl
 |some e=>exact congrArg X (La ls e)
theorem AiC (ls:List Ex)(x:Sx):Ef (ls.map Ex.st) (Cc x)=Cc (Ef ls x):=by
 simp only[Ef,Cc,Zm]
theorem AiD (ls:List Ex)(x:Sx):Pg (ls.map Ex.st) (Cc x)=(Pg ls x).map Ex.st:=by
 unfold Pg;by_cases h:x.kind=1
 ·rw[if_pos (show(Cc x).kind=1 from h),if_pos h];simp only[Cc];cases x.cond<;>simp[Ex.st]
 ·rw[if_neg (show ¬ (Cc x).kind=1 from h),if_neg h]
theorem Aa5:∀(S:List Sx) (ls:List Ex),Ce (ls.map Ex.st) (S.map Cc)=(Ce ls S).map Cc
 |[],ls=>rfl
 |x ::S,ls=>by rw[jd,Ce,Ce,jd,AiC,AiD,Aa5 S]
theorem Ahi (b:Bool)(o:Option Ex):Ia b (o.map Ex.st)=Ia b o:=by cases o with|none=>rfl|some e=>exact KZ b e
theorem Mt:∀(S:List Sx),Bb (S.map Cc)=(Bb S).map Cc
 |[]=>rfl
 |x ::S=>by
  rw[jd,Bb,Bb];simp only[Cc,Ahi];split
  ·exact Mt S
  ·split
   ·simp[Cc]
   ·rw[jd,<-Mt S];rfl
theorem Lj (n:Int):∀(e:Ex),usE n e.st=usE n e
 |.un i op k=>by rw[Ex.st,usE,usE,Lj n k]
 |.bin i op l a=>by rw[Ex.st,usE,usE,Lj n l,Lj n a]
 |.ite i c t e=>by rw[Ex.st,usE,usE,Lj n c,Lj n t,Lj n e]
 |.int .. =>rfl
 |.text .. =>rfl
 |.bool .. =>rfl
 |.set .. =>rfl
 |.name .. =>rfl
 |.attr .. =>rfl
 |.lett .. =>rfl
theorem AiE (n:Int)(o:Option Ex):usO n (o.map Ex.st)=usO n o:=by cases o with|none=>rfl|some e=>exact Lj n e
theorem AiF (n:Int)(x:Sx):usS n (Cc x)=usS n x:=by simp only[usS,Cc,AiE]
theorem Ae5 (o:Option Ex):EF (o.map Ex.st)=EF o:=by cases o with|none=>rfl|some e=>exact EX e
theorem Zn:∀(S:List Sx) (n:Int),Ed n (S.map Cc)=(Ed n S).map fun q=>(Cc q.1,q.2)
 |[],n=>rfl
 |x ::S,n=>by
  have a:((Ed (n+1) S).map fun q=>(Cc q.1,q.2)).any (fun q=>usS n q.1)=(Ed (n+1) S).any fun q=>usS n q.1:=by
   rw[List.any_map]
   congr 1
   funext q
   exact AiF n q.1
  rw[jd,Ed,Ed,Zn S (n+1),Zn S n,a];simp only[show(Cc x).kind=x.kind from rfl,show(Cc x).cond=x.cond.map Ex.st from rfl,Ae5];split
  ·split<;>rfl
  ·rfl
theorem AiG (K:List (Sx×Int)):CC (K.map fun q=>(Cc q.1,q.2))=CC K:=by
 unfold CC;rw[List.filter_map,z7];rfl
theorem Lk (l:List Int):∀(e:Ex),Cr l e.st=(Cr l e).st
 |.un i op k=>by simp only[Ex.st,Cr,Lk l k]
 |.bin i op a b=>by simp only[Ex.st,Cr,Lk l a,Lk l b]
 |.ite i c t e=>by simp only[Ex.st,Cr,Lk l c,Lk l t,Lk l e]
 |.int .. =>rfl
 |.text .. =>rfl
 |.bool .. =>rfl
 |.set .. =>rfl
 |.name .. =>rfl
 |.attr .. =>rfl
 |.lett .. =>rfl
theorem AiH (l:List Int)(x:Sx):(Cc (MN l x))=Cc (MN l (Cc x)):=by
 have h:∀o:Option Ex,(o.map (Cr l)).map Ex.st=((o.map Ex.st).map (Cr l)).map Ex.st:=fun o=>by
  cases o with
  |none=>rfl
  |some e=>exact congrArg X (by rw[Lk,Qr])
 simp only[MN,Cc,<-h]
theorem US (X:List Sx):(Qt (X.map Cc)).map Cc=(Qt X).map Cc:=by
 unfold Qt;rw[Zn,AiG,z7,z7,z7];refine List.map_congr_left fun q _=>?_;exact(AiH _ q.1).symm
theorem Aa4 (X:List Sx):(BM (X.map Cc)).map Cc=(BM X).map Cc:=by
 unfold BM;rw[show([]:List Ex)=([]:List Ex).map Ex.st from rfl,Aa5,Mt,US];rfl
set_option maxHeartbeats 12800000
def OpM (N:List Nd) (L:List St) (T:List Int) (w:Z) (r:Ending) (w':Z):Prop:=(∃ (x:Option jD) (n cx:Nat) (y:Option jD) (m cy:Nat) (z:Option jD) (p cz:Nat),r=jH (jG #[Y x n cx,Y y m cy,Y z p cz])/\GY w' x n cx N/\Jl w' y m cy L/\AK w' z p cz T)/\Below w.heap.size w w'
theorem StA.kp {X:List (Sx×Int)}{ss:List S5}(O:w'.ownsRow w.heap.size 45 5 (Y a n c) n (ss.flatMap S5.cs))(b:ss.length=n)(d:ss.length=X.length)(he:∀j,(h1:j<ss.length)->(h2:j<X.length)->∃lo hi,StQ w lo hi w' ss[j] X[j]):KpT w' a n ss X:=
 ⟨b,by omega,AaX O b,fun j h1 h2=>by
  obtain⟨lo,hi,q⟩:=he j h1 h2;exact⟨q.1,q.2.1,q.2.2.1,q.2.2.2.1.t,q.2.2.2.2.t⟩⟩
theorem Pu:∀(a:List (Sx×Int)) {q:Sx×Int},q∈Ke a->q∈a
 |[],_,h=>h
 |x ::a,q,h=>by
  rw[Ke]at h;split at h
  ·exact zf _ (Pu a h)
  ·rcases zP.1 h with e|e
   ·rw[e];exact za
   ·exact zf _ (Pu a e)
theorem UO:∀(a:List (Sx×Int)),(Ke a).length<=a.length
 |[]=>NLN
 |x ::a=>by
  rw[Ke];have:=UO a;split
  ·simp;omega
  ·simp;omega
theorem AgX:(j4.info? 2).map (fun i=>(i.zero,i.size,i.bytes))=X (X (U V 0),1,8):=by kernel_rfl
theorem AeD (a b e:Option jD)(n c m d k f:Nat)(w:Z)(P:List (Sx×Int))(es:P.length<=600)(et:∀q∈P,UP q.1.cond/\UP q.1.grant)(eu:∀q∈P,q.1.kind=1->∃e,q.1.cond=X e)
  (ev:∀aQ,Below w.heap.size w aQ->jE j4 14 #[jG #[Y a n c,Y b m d,Y e k f]] aQ fun ah w'=>ah=jH (.bool jA)/\Below aQ.heap.size aQ w')
  (ew:∀aQ,Below w.heap.size w aQ->jE j4 15 #[jG #[Y a n c,Y b m d,Y e k f]] aQ (StA P aQ))(I:List Sx)(ex:I=(Ke P).map fun q=>MN (CC (Ke P)) q.1)(ey:Bu I<=4000)(eA:(CC (Ke P)).Nodup)(eB:∀q∈Ke P,∀m,usS m q.1=jA->m∈CC (Ke P))(TT:List Int)(fM:TT.length<=1048576)(eC:∀x∈AM 0 I,okN x/\x.text.size<=1048576)(eD:∀s∈BK 0 I,s.name.size<=1048576)
  (eE:∀aQ (eF:Option jD) (n' c':Nat) (eG:Option jD) (eH eI:Nat),GY aQ eF n' c' (AM 0 I)->Jl aQ eG eH eI (BK 0 I)->jE j4 20 #[Y eF n' c',Y eG eH eI] aQ (CkT TT aQ)):
  jE j4 5 #[jG #[Y a n c,Y b m d,Y e k f]] w (OpM (AM 0 I) (BK 0 I) TT w):=by
 obtain⟨eJ,eK,fN,fO,fP⟩:=jZ AeC;have ce:=(Av w (Fo a n c b m d e k f)).alloc (by simp) (Fo T 0 0 T 0 0 T 0 0);have bG:=(Ag.new w #[Y a n c,Y b m d,Y e k f] 31).alloc (Fo T 0 0 T 0 0 T 0 0);have br:=Ag.new (w.alloc (Fo a n c b m d e k f)) #[Y T 0 0,Y T 0 0,Y T 0 0] 31;simp only[jW]at br;have eL:=Ab ev;have eM:=Ab ew;have c8:=Ab et;have eN:=Ab eu;have eO:=Ab ex;have dz:=Ab ey;have eP:=Ab eC;have eQ:=Ab eD;have fQ:=Ab eE;have eR:=Ab eA;have eS:=Ab eB;clear ev ew et eu ex ey eA eB eC eD eE;go_enter func5,ntmps5
 go_wp2_with fail
 generalize (w.alloc (Fo a n c b m d e k f)).alloc (Fo T 0 0 T 0 0 T 0 0)=gF at ce bG br|-;refine(Aa eL _ ce).mono ?_;rintro ah gG ⟨rfl,b1⟩;have c9:=ce.trans (b1.mono ce.size);replace bG:=bG.after b1 NLN;replace br:=br.after b1 NLN;obtain⟨fR,aN,aw⟩:=Fl bG;clear ce b1 eL;dsimp only;go_wp2_with fail
 refine(Aa eM _ c9).mono ?_;rintro ah eT ⟨⟨gH,ss,rfl,O,da,he⟩,b2⟩;obtain⟨gI,sc,rfl,_⟩:=Ae O;have db:=StA.kp O rfl da he;have eU:=c9.trans (b2.mono c9.size);replace bG:=bG.after b2 NLN;replace br:=br.after b2 NLN;clear fR aN aw c9 b2 O he eM;rw[da];rw[da]at db;generalize eV:P.length=dc at db es|-;have cf:=Ab eV;have eW:=Ab db;have dd:=Ab br;have cg:=Ab eU;clear da db bG br eU eV;dsimp only;go_upto_block 0 with fail
 go_cut [4,5] (fun J _ ab=>∃ (ka:Option jD) (kn kc:Nat) (al:List S5),J=Y ka kn kc/\KpT ab ka kn al (Ke P)/\Below eT.heap.size eT ab)
 case first=>
  go_wp2_with fail
  go_loopw [4,5] (fun J i wr=>∃ (j:Nat) (ka:Option jD) (kn kc:Nat) (al:List S5),j<=dc/\i=U V ((j:Int)-1)/\J=Y ka kn kc/\(kn=0->ka=T)/\Hid (KpT wr ka kn al (Ke (P.drop j)))/\Below eT.heap.size eT wr) (fun _ i _=>(jI i+1).toNat)
  case atStart=>exact⟨dc,T,0,0,[],NLN,rfl,rfl,fun _=>rfl,Ab (by rw[List.drop_eq_nil_of_le (by rw[Aa cf];exact NLN)];exact KpT.nil _),BRN⟩
  case round=>
   obtain⟨j,ka,kn,kc,al,de,rfl,rfl,df,dg,F⟩:=hrel;cases j with
   |zero=>
    have fS:=Ab (show KpT wr ka kn al (Ke P)from Aa dg);go_wp2_with fail
    go_meet
    exact⟨ka,kn,kc,al,rfl,Aa fS,F⟩
   |succ j=>
    have fT:(((j+1 :Nat):Int)-1)=(j:Int):=by omega
    rw[fT];have eX:j<dc:=de;have gJ:(j:Int)<(dc:Int):=by omega
    have gK:(0 :Int)<=(j:Int):=by omega
    have eY:kn<=600:=by rw[<-(Aa dg).lenD];exact zB (UO _) (by rw[List.length_drop,Aa cf];omega)
    have dh:=(Aa eW).below F NLN;have dA:j<ss.length:=by rw[dh.len];exact eX
    have ch:j<P.length:=by rw[Aa cf];exact eX
    obtain⟨g,gL,rfl,hg,aI,c1,c2,c3,c4⟩:=Mj dh.rows dA;have ci:=Ab (dh.each j dA ch);have dB:=Ab (show P.drop j=P[j] ::P.drop (j+1)from z5 ch);have eZ:=Ab (Aa c8 _ (zH ch));have e5:=Ab (Aa eN _ (zH ch));generalize ss[j]=bH at aI c1 c2 c3 c4 ci;generalize P[j]=x at ci dB eZ e5;obtain⟨cj,aY,ac,aZ,a0,a1,a2,a3,a4⟩:=bH;dsimp only at aI c1 c2 c3 c4;have fU:ac=x.2:=(Aa ci).2.2.1;subst fU;clear dh dA ch;go_upto_block 2 with fail
    have dC:=F.trans ((Av wr (jF #[U V cj,Q aY,U V x.2,Y aZ a0 a1,Y a2 a3 a4] 45)).mono F.size);have bs:=Ag.new wr #[U V cj,Q aY,U V x.2,Y aZ a0 a1,Y a2 a3 a4] 45;have A:=Av wr (jF #[U V cj,Q aY,U V x.2,Y aZ a0 a1,Y a2 a3 a4] 45);have b0:=Ab ((Aa dg).below A NLN);have dD:=Ab ((Aa ci).below A NLN);generalize wr.alloc (jF #[U V cj,Q aY,U V x.2,Y aZ a0 a1,Y a2 a3 a4] 45)=e7 at dC bs A b0 dD|-;generalize dE:wr.heap.size=aR at bs A|-;have dF:=Ab bs;have dG:=Ab dC;obtain⟨ax,dH⟩:∃ax,ax=Ke (P.drop (j+1)):=⟨_,rfl⟩
    have dI:=Ab dH;rw[<-dH]at b0;clear aI c1 c2 c3 c4 hg F bs dC A dg ci dE dH;go_cut [7] (fun u ab=>u= .bool (ax.any fun ah=>usS x.2 ah.1)/\Below e7.heap.size e7 ab)
    case first=>
     go_wp2_with fail
     go_loopw [7,47] (fun u i z=>∃t:Nat,t<=kn/\i=U V t/\u= .bool ((ax.take t).any fun ah=>usS x.2 ah.1)/\Below e7.heap.size e7 z) (fun _ i _=>kn-(jI i).toNat)
     case atStart=>exact⟨0,zD _,rfl,by simp,BRN⟩
     case round=>
      obtain⟨t,e8,rfl,rfl,G⟩:=hrel;obtain⟨z,rfl⟩:∃z,z=wr:=⟨_,rfl⟩
      by_cases ay:t<kn
      ·have e9:(t:Int)<(kn:Int):=by omega
       have aD:=(Aa b0).below G NLN;have aN:t<al.length:=by rw[aD.len];exact ay
       have aw:t<ax.length:=by rw[aD.lenD];exact ay
       obtain⟨g2,di,rfl,ck,aI,c1,c2,c3,c4⟩:=Mj aD.rows aN;have ao:=Ab (aD.each t aN aw);have bI:=Ab (show UP ax[t].1.cond/\UP ax[t].1.grant from Aa c8 _ (List.mem_of_mem_drop (Pu _ (by rw[<-Aa dI];exact zH aw))));have dj:=Ab (show(ax.take (t+1)).any (fun ah=>usS x.2 ah.1)=((ax.take t).any (fun ah=>usS x.2 ah.1)||usS x.2 ax[t].1) by rw[zQ aw,List.any_append];simp);have aJ:=Ab ay;generalize al[t]=s at aI c1 c2 c3 c4 ao;generalize ax[t]=y at ao bI dj;obtain⟨bJ,bc,aE,ap,ae,ai,aq,af,aj⟩:=s;dsimp only at aI c1 c2 c3 c4;have A:=Av z (jF #[U V bJ,Q bc,U V aE,Y ap ae ai,Y aq af aj] 45);have ar:=Ab (G.trans (A.mono G.size));have bd:=Ag.new z #[U V bJ,Q bc,U V aE,Y ap ae ai,Y aq af aj] 45;have bK:=Ab ((Aa dF).after (Aa ar) NLN);have cl:=Ab ((Aa ao).2.2.2.1.below A NLN);have bL:=Ab ((Aa ao).2.2.2.2.below A NLN);dsimp only at cl bL;generalize cm:(ax.take t).any (fun ah=>usS x.2 ah.1)=aK;have b5:=Ab cm;clear ay aN aw cm ao aD;go_upto_block 4 with fail
       generalize z.alloc (jF #[U V bJ,Q bc,U V aE,Y ap ae ai,Y aq af aj] 45)=dJ at bd ar bK cl bL A|-;generalize z.heap.size=ak at bd|-;clear G aI c1 c2 c3 c4 ck A;generalize dJ=z at bd ar bK cl bL|-;obtain⟨bH,s1,s2,co,cp,-⟩:=AP bd;go_upto_block 4 with fail
       go_cut [7] (fun u ab=>u= .bool (aK||usO x.2 y.1.cond)/\Below z.heap.size z ab)
       case first=>
        have D:=Aa cl;have W:=(Aa bI).1;clear bH s1 s2 co cp;rcases hoo:y.1.cond with _|ez
        ·have bM:=Ab hoo;rw[hoo]at D;have au:ae=0:=D;clear hoo D W;subst au;go_wp2_with fail
         refine jv 1 ?_;rw[je];go_wp2_with fail
         go_meet
         exact⟨by rw[Aa bM];simp[usO],BRN⟩
        ·have bM:=Ab hoo;rw[hoo]at D W;obtain⟨au,o,aG,aL⟩:=D;subst au;obtain⟨b6,b7,rfl,dk,aH⟩:=Bh aG (by simp);obtain⟨aO,b1,b2,b3,b4⟩:=aH 0 (by simp);simp only[zt,z0,zX]at aO b1 b2 b3 b4;have A:=Av z (CE o);obtain⟨bt,bu,x2,x3,bv,-⟩:=AP ((Aa bK).alloc (CE o));have bf:=Ab (JI x.2 ez o _ (aL.below A NLN) W);have bi:=Ab A;clear hoo aH aG aL A W;cases aK with
         |true=>
          go_wp2_with fail
          refine jv 2 ?_;rw[je];go_wp2_with fail
          rw[je];go_wp2_with fail
          go_meet
          exact⟨by simp,(Aa bi)⟩
         |false=>
          go_wp2_with fail
          refine jv 2 ?_;rw[je];go_wp2_with fail
          refine(Aa bf).mono ?_;rintro ah bw ⟨rfl,bN⟩;have dK:=Ab ((Aa bi).trans (bN.mono (Aa bi).size));clear bN bf bi aO b1 b2 b3 b4 bt bu x2 x3 bv;dsimp only;go_wp2_with fail
          rw[je];go_wp2_with fail
          go_meet
          exact⟨by rw[Aa bM];simp[usO],(Aa dK)⟩
       case rest=>
        obtain⟨rfl,a5⟩:=hcut;have fa:=bd.after a5 NLN;replace bK:=Ab ((Aa bK).after a5 NLN);replace bL:=Ab ((Aa bL).below a5 NLN);replace ar:=Ab ((Aa ar).trans (a5.mono (Aa ar).size));clear bH s1 s2 co cp cl bd a5;generalize wc=z at fa bK bL ar|-;obtain⟨bH,s1,s2,co,cp,-⟩:=AP fa;generalize fb:(aK||usO x.2 y.1.cond)=aK;have dL:=Ab fb;clear fb;go_upto_block 6 with fail
        have D:=Aa bL;have W:=(Aa bI).2;clear bH s1 s2 co cp;rcases hoo:y.1.grant with _|ez
        ·have bM:=Ab hoo;rw[hoo]at D;have au:af=0:=D;clear hoo D W;subst au;go_wp2_with fail
         refine jv 1 ?_;rw[je];go_wp2_with fail
         go_roundw
         case rel=>exact⟨t+1,Aa aJ,by go_num,by rw[Aa dj,Aa b5,usS,<-Bool.or_assoc,Aa dL];rw[Aa bM];simp[usO],(Aa ar).trans (BRN.mono (Aa ar).size)⟩
         case measure=>have:=Aa aJ;simp[jI];omega
        ·have bM:=Ab hoo;rw[hoo]at D W;obtain⟨au,o,aG,aL⟩:=D;subst au;obtain⟨b6,b7,rfl,dk,aH⟩:=Bh aG (by simp);obtain⟨aO,b1,b2,b3,b4⟩:=aH 0 (by simp);simp only[zt,z0,zX]at aO b1 b2 b3 b4;have A:=Av z (CE o);obtain⟨bt,bu,x2,x3,bv,-⟩:=AP ((Aa bK).alloc (CE o));have bf:=Ab (JI x.2 ez o _ (aL.below A NLN) W);have bi:=Ab A;clear hoo aH aG aL A W;cases aK with
         |true=>
          go_wp2_with fail
          refine jv 2 ?_;rw[je];go_wp2_with fail
          rw[je];go_wp2_with fail
          go_roundw
          case rel=>exact⟨t+1,Aa aJ,by go_num,by rw[Aa dj,Aa b5,usS,<-Bool.or_assoc,Aa dL];simp,(Aa ar).trans ((Aa bi).mono (Aa ar).size)⟩
          case measure=>have:=Aa aJ;simp[jI];omega
         |false=>
          go_wp2_with fail
          refine jv 2 ?_;rw[je];go_wp2_with fail
          refine(Aa bf).mono ?_;rintro ah bw ⟨rfl,bN⟩;have dK:=Ab ((Aa bi).trans (bN.mono (Aa bi).size));clear bN bf bi aO b1 b2 b3 b4 bt bu x2 x3 bv;dsimp only;go_wp2_with fail
          rw[je];go_wp2_with fail
          go_roundw
          case rel=>exact⟨t+1,Aa aJ,by go_num,by rw[Aa dj,Aa b5,usS,<-Bool.or_assoc,Aa dL];rw[Aa bM];simp[usO],(Aa ar).trans ((Aa dK).mono (Aa ar).size)⟩
          case measure=>have:=Aa aJ;simp[jI];omega
      ·have fV:t=kn:=by omega
       have cq:=Ab (show ax.take t=ax from zY (by rw[(Aa b0).lenD];omega));have fc: ¬ ((t:Int)<(kn:Int)):=by omega
       clear fV ay;go_wp2_with fail
       go_meet
       exact⟨by rw[Aa cq],G⟩
    case rest=>
     obtain⟨rfl,a5⟩:=hcut;have bs:=(Aa dF).after a5 NLN;have fd:=(Aa dG).trans (a5.mono (Aa dG).size);have b8:=Ab ((Aa dD).below a5 NLN);have bx:=Ab ((Aa b0).below a5 NLN);obtain⟨bt,bu,x2,x3,bv,-⟩:=AP bs;have bz:=Ab fd;have dM:=Ab bs;generalize cm:(ax.any fun ah=>usS x.2 ah.1)=aK;have b5:=Ab cm;clear cm bs fd dF dG dD b0;have fe:(¬ (x.1.kind=1/\aK=jC/\EF x.1.cond=jA))->Hid (Ke (P.drop j)=x ::ax):=fun h=>Ab (by rw[Aa dB,Ke,<-Aa dI,if_neg (by rw[Aa b5];exact h)]);have fW:=Ab fe;have fX:cj=x.1.kind:=(Aa b8).1;subst fX;clear fe;have fY:=Ab (show ∀e,x.1.cond=X e->EF x.1.cond=Ao e from fun e h=>by rw[h];rfl);go_upto_region 24 with fail
     go_cut [95] (fun v ab=>v= .bool (decide (x.1.kind=1)&&(!aK&&EF x.1.cond))/\Below wc.heap.size wc ab)
     case first=>
      by_cases aM:x.1.kind=1
      ·have b9:(x.1.kind==1)=jA:=zM.2 aM;obtain⟨ez,dN⟩:=Aa e5 aM;have D:=(Aa b8).2.2.2.1;have W:=(Aa eZ).1;rw[dN]at D W;obtain⟨au,o,aG,aL⟩:=D;dsimp only at au aG;subst au;obtain⟨b6,b7,rfl,dk,aH⟩:=Bh aG (by simp);obtain⟨aO,b1,b2,b3,b4⟩:=aH 0 (by simp);simp only[zt,z0,zX]at aO b1 b2 b3 b4;have bf:=Ab (DU ez o _ aL W);have dl:=Ab (show(decide (x.1.kind=1)&&(!aK&&EF x.1.cond))=(!aK&&Ao ez) by rw[zL aM,Aa fY ez dN];rfl);clear aG aL aH aM dN W;cases aK with
       |true=>
        go_wp2_with fail
        go_meet
        exact⟨by rw[Aa dl];rfl,BRN⟩
       |false=>
        go_wp2_with fail
        refine(Aa bf).mono ?_;rintro ah bw ⟨rfl,bN⟩;dsimp only;go_wp2_with fail
        go_meet
        exact⟨by rw[Aa dl];rfl,bN⟩
      ·have b9:(x.1.kind==1)=jC:=zA.2 aM;have dl:=Ab (show(decide (x.1.kind=1)&&(!aK&&EF x.1.cond))=jC by rw[zJ aM];rfl);clear aM;go_wp2_with fail
       go_meet
       exact⟨by rw[Aa dl],BRN⟩
     case rest=>
      obtain⟨rfl,cr⟩:=hcut;replace dM:=Ab ((Aa dM).after cr NLN);replace bz:=Ab ((Aa bz).trans (cr.mono (Aa bz).size));replace b8:=Ab ((Aa b8).below cr NLN);replace bx:=Ab ((Aa bx).below cr NLN);clear bt bu x2 x3 bv cr a5;cases ct:(decide (x.1.kind=1)&&(!aK&&EF x.1.cond))with
      |true=>
       have ff:x.1.kind=1/\aK=jC/\EF x.1.cond=jA:=by simpa using ct
       have dm:=Ab (show ax=Ke (P.drop j) by rw[Aa dB,Ke,<-Aa dI,if_pos (by rw[Aa b5];exact ff)]);clear ct ff;rw[Aa dm]at bx;go_wp2_with fail
       go_roundw
       case rel=>exact⟨j,ka,kn,kc,al,Nat.le_of_succ_le de,rfl,rfl,df,bx,Aa bz⟩
       case measure=>simp[jI]
      |false=>
       have dm:=Aa fW (fun h=>by rw[zL h.1,h.2.1,h.2.2]at ct;cases ct);clear ct;have dO:StT wc ⟨x.1.kind,aY,x.2,aZ,a0,a1,a2,a3,a4⟩ x:=Aa b8;have A:=Av wc (jF #[U V x.1.kind,Q aY,U V x.2,Y aZ a0 a1,Y a2 a3 a4] 45);have cu:(wc.alloc (jF #[U V x.1.kind,Q aY,U V x.2,Y aZ a0 a1,Y a2 a3 a4] 45)).ownsRow wc.heap.size 45 5 (Y (X ⟨wc.heap.size,0,T⟩) 1 1) 1 (S5.cs ⟨x.1.kind,aY,x.2,aZ,a0,a1,a2,a3,a4⟩):=⟨rfl,.inr ⟨wc.heap.size,1,_,rfl,NLN,jm wc _,NLN,by decide,rfl,rfl⟩⟩
       have fZ:=Ab ((Aa bz).trans (A.mono (Aa bz).size));have KB:=(Aa bx).below A NLN;have dP:=dO.below A NLN;have cv:=Ab KB;have f0:=Ab dP;have f1:=Ab cu;obtain⟨bt,bu,x2,x3,bv,-⟩:=AP (Aa dM);by_cases dQ:kn=0
       ·have f2:=df dQ;subst dQ f2;have cw:=cu;clear cu KB dP A dO df;go_wp2_with (at_builtin;refine DX rfl _ _ 41 rfl wc.heap.size 45 eJ 5 kc underlying41 eK (.slice (X ⟨wc.heap.size,0,T⟩) 1 1) 1 _ rfl cw rfl ?_)
        have fg:al=[]:=z9 (Aa cv).len;have bO:=KpT.cons (n':=1) (c':=1) (Aa cv).len (Aa cv).lenD (Aa cv).each (Aa f0) rfl (by rw[fg];simpa using Aa f1);rw[<-Aa dm]at bO;have dR:=Ab bO;clear bO fg cw;go_wp2_with fail
        go_roundw
        case rel=>exact⟨j,_,_,_,_,Nat.le_of_succ_le de,rfl,rfl,fun h=>(by cases h),dR,Aa fZ⟩
        case measure=>simp[jI]
       ·obtain⟨g2,di,rfl,ck,-⟩:=Mj KB.rows (j:=0) (by rw[KB.len];omega);have fh:=KB.rows.news;have fi:(al.flatMap S5.cs).length=kn*5:=by rw[Ny,KB.len]
        have cw:=cu;have f3: 0<kn:=by omega
        have bj:=Ab fi;clear cu KB dP A dO df dQ fi;go_wp2_with (at_builtin;refine jj _ rfl _ _ 41 rfl wc.heap.size 45 eJ (jG #[U V 0,Q ByteArray.empty,U V 0,Y T 0 0,Y T 0 0]) 5 80 underlying41 eK fN fO fP rfl (by decide) (Y (X ⟨wc.heap.size,0,T⟩) 1 1) 1 _ rfl cw ⟨g2,di,T⟩ kn kc (al.flatMap S5.cs) rfl (Aa bj) fh (Air al) f3 (by unfold maxLen;omega) (by omega) (by simp) _ rfl ?_)
        intro g7 c7 cx bA bB hat cy;have fj:=(Below.refl (wc.alloc (jF #[U V x.1.kind,Q aY,U V x.2,Y aZ a0 a1,Y a2 a3 a4] 45)).heap.size (wc.alloc (jF #[U V x.1.kind,Q aY,U V x.2,Y aZ a0 a1,Y a2 a3 a4] 45))).mono (show wc.heap.size<=_ by simp);have dn:=fj.grown bB (by simp) (fun q hq=>by have h9:wc.heap.size=q:=(by simpa[Value.ownBlock]using hq);omega);have KB:=Aa cv;have dp:Below wc.heap.size wc cx:=(Av wc (jF #[U V x.1.kind,Q aY,U V x.2,Y aZ a0 a1,Y a2 a3 a4] 45)).trans dn;have bO:=KpT.cons (n':=kn+1) (c':=c7) (Aa bx).len (Aa bx).lenD (fun j h1 h2=>((Aa bx).each j h1 h2).below dp NLN) ((Aa b8).below dp NLN) rfl (by have:=bA;rw[Nat.add_comm 1 kn]at this;exact this);rw[<-Aa dm]at bO;have dR:=Ab bO;have f4:=Ab ((Aa bz).trans (dp.mono (Aa bz).size));clear bO cw bA bB hat cy fj dn KB dp fh;go_wp2_with fail
        go_roundw
        case rel=>exact⟨j,_,_,_,_,Nat.le_of_succ_le de,rfl,rfl,fun h=>(by omega),by rw[Nat.add_comm 1 kn];exact dR,Aa f4⟩
        case measure=>simp[jI]
 case rest=>
  obtain⟨ka,kn,kc,al,rfl,dq,fk⟩:=hcut;obtain⟨r,dr⟩:∃r,r=Ke P:=⟨_,rfl⟩
  rw[<-dr]at dq;have eY:kn<=600:=by rw[<-dq.lenD,dr];exact zB (UO _) (by rw[Aa cf];exact es)
  have ca:=Ab dq;have bP:=Ab fk;have cz:=Ab dr;generalize wc=bC at ca bP|-;clear dr dq fk;go_upto_block 8 with fail
  go_cut [14] (fun lv ab=>∃ (a6:Option jD) (aa a7:Nat),lv=Y a6 aa a7/\Hid (ab.ownsRow bC.heap.size 2 1 (Y a6 aa a7) aa (Aq (CC r))/\(CC r).length=aa)/\Below bC.heap.size bC ab)
  case first=>
   go_wp2_with fail
   go_loopw [14,102] (fun lv i wr=>∃ (t:Nat) (a6:Option jD) (aa a7:Nat),t<=kn/\i=U V t/\lv=Y a6 aa a7/\aa<=t/\Hid (wr.ownsRow bC.heap.size 2 1 (Y a6 aa a7) aa (Aq (CC (r.take t)))/\(CC (r.take t)).length=aa)/\Below bC.heap.size bC wr) (fun _ i _=>kn-(jI i).toNat)
   case atStart=>exact⟨0,T,0,0,zD _,rfl,rfl,zD _,Ab ⟨jX _ _ _ _,rfl⟩,BRN⟩
   case round=>
    obtain⟨t,a6,aa,a7,e8,rfl,rfl,f5,aS,G⟩:=hrel;obtain⟨z,rfl⟩:∃z,z=wr:=⟨_,rfl⟩
    by_cases ay:t<kn
    ·have e9:(t:Int)<(kn:Int):=by omega
     have aD:=(Aa ca).below G NLN;have aN:t<al.length:=by rw[aD.len];exact ay
     have aw:t<r.length:=by rw[aD.lenD];exact ay
     obtain⟨g2,di,rfl,ck,aI,c1,c2,c3,c4⟩:=Mj aD.rows aN;have ao:=Ab (aD.each t aN aw);have dS:=Ab (AgY aw);have aJ:=Ab ay;generalize al[t]=s at aI c1 c2 c3 c4 ao;generalize r[t]=y at ao dS;obtain⟨bJ,bc,aE,ap,ae,ai,aq,af,aj⟩:=s;dsimp only at aI c1 c2 c3 c4;have dT:bJ=y.1.kind/\aE=y.2:=⟨(Aa ao).1,(Aa ao).2.2.1⟩
     obtain⟨rfl,rfl⟩:=dT;have A:=Av z (jF #[U V y.1.kind,Q bc,U V y.2,Y ap ae ai,Y aq af aj] 45);have ar:=Ab (G.trans (A.mono G.size));have bd:=Ag.new z #[U V y.1.kind,Q bc,U V y.2,Y ap ae ai,Y aq af aj] 45;have gM:bC.heap.size<=z.heap.size:=G.size;clear ay aN aw ao aD;by_cases aM:y.1.kind=1
     ·have b9:(y.1.kind==1)=jA:=zM.2 aM;have cA:=Ab (show CC (r.take (t+1))=CC (r.take t)++[y.2] by rw[Aa dS,if_pos aM]);clear aM;obtain⟨f6,f7,f8,f9,ga⟩:=jZ AgX;have cb:=jV (Aa aS).1 (jF #[U V y.1.kind,Q bc,U V y.2,Y ap ae ai,Y aq af aj] 45);have fl:=jV cb (jF #[U V y.2] 2);obtain⟨bH,s1,s2,co,cp,-⟩:=AP bd;go_wp2_with (at_builtin;refine jj _ rfl _ _ 51 rfl bC.heap.size 2 f6 (U V 0) 1 8 underlying51 f7 f8 f9 ga rfl (by decide) (Y a6 aa a7) aa (Aq (CC (r.take t))) rfl fl ⟨z.heap.size+1,0,T⟩ 1 1 [U V y.2] rfl rfl ?n1 (by intro u cB;simp at cB;subst cB;rfl) (by decide) (by unfold maxLen;omega) (by omega) (by simp;omega) _ rfl ?_)
      case n1=>exact A5 _ _ _ _ (by simp)
      intro g7 c7 cx bA bB hat cy;have dn:=((Aa ar).alloc (Aa ar).size (jF #[U V y.2] 2)).grown bB (by have:=(Aa ar).size;rw[jW];omega) (fun q hq=>((Aa aS).1.lt q hq).1);have bk:=Ab (show cx.ownsRow bC.heap.size 2 1 (Y (X ⟨g7,0,T⟩) (aa+1) c7) (aa+1) (Aq (CC (r.take (t+1))))/\(CC (r.take (t+1))).length=aa+1 from⟨by rw[Aa cA];simpa[Aq]using bA,by rw[Aa cA,zC,(Aa aS).2];rfl⟩);clear bA bB hat cy cb fl bd;go_wp2_with fail
      go_roundw
      case rel=>exact⟨t+1,_,_,_,Aa aJ,by go_num,rfl,by omega,bk,dn⟩
      case measure=>have:=Aa aJ;simp[jI];omega
     ·have b9:(y.1.kind==1)=jC:=zA.2 aM;have cA:=Ab (show CC (r.take (t+1))=CC (r.take t) by rw[Aa dS,if_neg aM,Z3]);clear aM;have bk:=Ab (show(z.alloc (jF #[U V y.1.kind,Q bc,U V y.2,Y ap ae ai,Y aq af aj] 45)).ownsRow bC.heap.size 2 1 (Y a6 aa a7) aa (Aq (CC (r.take (t+1))))/\(CC (r.take (t+1))).length=aa from⟨by rw[Aa cA];exact jV (Aa aS).1 _,by rw[Aa cA];exact(Aa aS).2⟩);clear bd;go_wp2_with fail
      go_roundw
      case rel=>exact⟨t+1,_,_,_,Aa aJ,by go_num,rfl,by omega,bk,Aa ar⟩
      case measure=>have:=Aa aJ;simp[jI];omega
    ·have cq:=Ab (show r.take t=r from zY (by rw[(Aa ca).lenD];omega));have fc: ¬ ((t:Int)<(kn:Int)):=by omega
     have bk:=aS;rw[Aa cq]at bk;clear ay aS;go_wp2_with fail
     go_meet
     exact⟨_,_,_,rfl,bk,G⟩
  case rest=>
   obtain⟨a6,aa,a7,rfl,aS,cC⟩:=hcut;have f5:aa<=600:=by rw[<-(Aa aS).2];exact zB (Ais r) (by rw[(Aa ca).lenD];exact eY)
   have dU:=Ab (W8 (Aa aS).1 (Aa aS).2 (by omega));have cc:=Ab ((Aa ca).below cC NLN);have ds:=Ab (show w.heap.size<=wc.heap.size from zB (Aa cg).size (zB (Aa bP).size cC.size));have dV:=Ab (((Aa cg).trans ((Aa bP).mono (Aa cg).size)).trans (cC.mono (zB (Aa cg).size (Aa bP).size)));have dt:=Ab (((Aa dd).below (Aa bP) (Aa dd).lt).below cC (zE (Aa dd).lt (Aa bP).size));have fm:=Ab (show(CC r).Nodup by rw[Aa cz];exact Aa eR);have cD:=Ab (show I=r.map (fun q=>MN (CC r) q.1) by rw[Aa cz];exact Aa eO);have fn:=Ab (show ∀q∈r,∀m,usS m q.1=jA->m∈CC r by rw[Aa cz];exact Aa eS);have gb:=Ab (show ∀q∈r,UP q.1.cond/\UP q.1.grant from fun q hq=>Aa c8 q (Pu P (by rw[<-Aa cz];exact hq)));generalize wc=l at dU cc ds dV dt|-;have gN:=Aa ds;clear cC aS ca bP eW dd cg c8 eN cf eR eO eS cz;go_upto_block 10 with fail
   have fo:=Ab (show RY l.heap.size l.heap.size l (Y T 0 0) (Y T 0 0) [] [] [] [] (l.alloc (Fo T 0 0 T 0 0 T 0 0))from⟨Ci.nil _ _,jX _ _ _ _,Ag.new l _ _,BRN.alloc NLN _,NLN⟩);generalize l.alloc (Fo T 0 0 T 0 0 T 0 0)=gO at fo|-;go_cut [] (fun ab=>∃ (nd aT:R) (N J:List R),Hid (RY l.heap.size l.heap.size l nd aT (AM 0 I) (BK 0 I) N J ab))
   case first=>
    go_wp2_with fail
    go_loopw [117] (fun i wr=>∃ (t:Nat) (nd aT:R) (N J:List R),t<=kn/\i=U V t/\Hid (RY l.heap.size l.heap.size l nd aT (AM 0 (I.take t)) (BK 0 (I.take t)) N J wr)) (fun i _=>kn-(jI i).toNat)
    case atStart=>exact⟨0,_,_,_,_,zD _,rfl,fo⟩
    case round=>
     obtain⟨t,nd,aT,N,J,e8,rfl,du⟩:=hrel;obtain⟨z,rfl⟩:∃z,z=wr:=⟨_,rfl⟩
     by_cases ay:t<kn
     ·have e9:(t:Int)<(kn:Int):=by omega
      have cd:=Aa du;have aD:=(Aa cc).below cd.F NLN;have aN:t<al.length:=by rw[aD.len];exact ay
      have aw:t<r.length:=by rw[aD.lenD];exact ay
      obtain⟨g2,di,rfl,ck,aI,dW,c2,c3,c4⟩:=Mj aD.rows aN;have ao:=Ab ((Aa cc).each t aN aw);have bI:=Ab (Aa gb _ (zH aw));have dX:=Ab (show(∀m,usO m r[t].1.cond=jA->m∈CC r)/\(∀m,usO m r[t].1.grant=jA->m∈CC r)from⟨fun m h=>Aa fn _ (zH aw) m (by simp[usS,h]),fun m h=>Aa fn _ (zH aw) m (by simp[usS,h])⟩);have dY:=Ab (show I.take (t+1)=I.take t++[MN (CC r) r[t].1] by rw[zQ (by rw[Aa cD,ze];exact aw)];congr 2;simp[Aa cD]);have aJ:=Ab ay;generalize al[t]=s at aI dW c2 c3 c4 ao;generalize r[t]=y at ao bI dX dY;obtain⟨bJ,bc,aE,ap,ae,ai,aq,af,aj⟩:=s;dsimp only at aI dW c2 c3 c4;have dT:bJ=y.1.kind/\bc=y.1.name:=⟨(Aa ao).1,(Aa ao).2.1⟩
      obtain⟨rfl,rfl⟩:=dT;obtain⟨K,dv⟩:∃K,K=AM 0 (I.take t):=⟨_,rfl⟩
      obtain⟨a8,dw⟩:∃a8,a8=BK 0 (I.take t):=⟨_,rfl⟩
      obtain⟨aU,dZ⟩:∃aU,aU=y.1.cond.map (Cr (CC r)):=⟨_,rfl⟩
      obtain⟨go,d0⟩:∃go,go=y.1.grant.map (Cr (CC r)):=⟨_,rfl⟩
      have fp:K.length=Bu (I.take t):=by rw[dv,El]
      have fq:K.length+AF aU<=65535/\(K++Kk aU K.length).length+AF go<=65535:=by
       have q:=AeE I (t+1);rw[Aa dY,L7,A4]at q;have e1:(MN (CC r) y.1).cond=aU:=dZ.symm;have e2:(MN (CC r) y.1).grant=go:=d0.symm;rw[e1,e2]at q;have:=Aa dz;rw[zC,FI];omega
      have gc:a8.length<=600:=by rw[dw,Fh,zr];omega
      have cE:=Ab fq;have d1:=Ab dZ;have d2:=Ab d0;have dx:=Ab (jS dv (jS dw fp));rw[<-dv,<-dw]at cd;have A:=(Av z (jF #[U V y.1.kind,Q y.1.name,U V aE,Y ap ae ai,Y aq af aj] 45)).alloc (by simp) (jF #[U V y.1.kind,Q y.1.name,U V (-1),U V (-1)] 53);have az:=Ab (cd.below A);have aF:=(Ag.new z #[U V y.1.kind,Q y.1.name,U V aE,Y ap ae ai,Y aq af aj] 45).alloc (jF #[U V y.1.kind,Q y.1.name,U V (-1),U V (-1)] 53);have av:=Ag.new (z.alloc (jF #[U V y.1.kind,Q y.1.name,U V aE,Y ap ae ai,Y aq af aj] 45)) #[U V y.1.kind,Q y.1.name,U V (-1),U V (-1)] 53;simp only[jW]at av;have gd:l.heap.size<z.heap.size:=cd.Rr.lt;have d3:=Ab (show ∀q,aT.ownBlock=X q->q<z.heap.size from fun q hq=>(cd.S.lt q hq).2);clear ay aN aw aD dv dw dZ d0 fq fp A cd du;go_upto_block 12 with fail
      generalize (z.alloc (jF #[U V y.1.kind,Q y.1.name,U V aE,Y ap ae ai,Y aq af aj] 45)).alloc (jF #[U V y.1.kind,Q y.1.name,U V (-1),U V (-1)] 53)=dJ at az aF av|-;generalize dE:z.heap.size=aR at aF av d3 gd|-;generalize gP:aR+1=ak at av|-;clear aI dW c2 c3 c4 ck dE;generalize dJ=z at az aF av|-;go_cut [] (fun ab=>∃ (nd:R) (N J:List R) (aA:Int),Hid (aA=GD aU (K).length)/\Hid (RY l.heap.size l.heap.size l nd aT (K++Kk aU (K).length) a8 N J ab)/\Ag ab aR #[U V y.1.kind,Q y.1.name,U V aE,Y ap ae ai,Y aq af aj] 45/\Ag ab ak #[U V y.1.kind,Q y.1.name,U V aA,U V (-1)] 53)
      case first=>
       have D:=(Aa ao).2.2.2.1;have W:=(Aa bI).1;have bl:=(Aa dX).1;dsimp only at D;rcases hoo:y.1.cond with _|ez
       ·rw[hoo]at D;have au:ae=0:=D;obtain rfl:aU=T:=by rw[Aa d1,hoo];rfl
        have bQ:=Ab (show ∃ (nd:R) (N J:List R) (aA:Int),Hid (aA=GD T (K).length)/\Hid (RY l.heap.size l.heap.size l nd aT (K++Kk T (K).length) a8 N J z)/\Ag z aR #[U V y.1.kind,Q y.1.name,U V aE,Y ap ae ai,Y aq af aj] 45/\Ag z ak #[U V y.1.kind,Q y.1.name,U V aA,U V (-1)] 53 from⟨nd,N,J,-1,Ab rfl,Ab (by simpa[Kk]using Aa az),aF,av⟩);clear hoo D W bl aF av;subst au;go_wp2_with fail
        refine jv 1 ?_;rw[je];go_wp2_with fail
        go_meet
        exact Aa bQ
       ·rw[hoo]at D W bl;obtain rfl:aU=X (Cr (CC r) ez):=by rw[Aa d1,hoo];rfl
        obtain⟨au,o,aG,aL⟩:=D;subst au;have E:=Aa az;have cF:=aG.below E.F NLN;have cG:=aL.below E.F NLN;obtain⟨b6,b7,rfl,dk,aH⟩:=Bh cF (by simp);obtain⟨aO,b1,b2,b3,b4⟩:=aH 0 (by simp);simp only[zt,z0,zX]at aO b1 b2 b3 b4;obtain⟨M,aP⟩:∃M,M=(K).length:=⟨_,rfl⟩
        obtain⟨ac,a9,bD,_⟩:=Ae E.C.own;rw[<-aP]at bD;subst bD;have A:=Av z (CE o);have bm:=E.below A.drew;have cH:=Ag.new z #[U V o.op,U V o.num,Q o.text,Y o.an o.nn o.cn,Y o.ka o.kn o.kc] 48;have cI:=E.Rr.alloc (CE o);have cJ:=aF.after A.drew NLN;have cK:=av.after A.drew NLN;have cL:=(Aa dU).below bm.F NLN;have ge:=E.F.size;have d4:w.heap.size<=(z.alloc (CE o)).drew.heap.size:=by have:=A.size;show w.heap.size<=(z.alloc (CE o)).heap.size;omega
        have cM:=Ab (Gz (GA w (Aa fm) ez o (z.alloc (CE o)).drew d4 (cG.below A.drew NLN) cL W bl) (fun e w' ⟨k,h,_⟩=>⟨_,h⟩));obtain⟨e0,e1,e2,e3,e4,-⟩:=AP cH;obtain⟨bR,bS,o2⟩:=Fl cI;have d5:(Tryz.f18.name== "runtime.NumGoroutine")=jC:=by kernel_rfl
        have d6: Tryz.f18.body.isNone=jC:=by kernel_rfl
        have d7:(Tryz.f19.name== "runtime.NumGoroutine")=jC:=by kernel_rfl
        have d8: Tryz.f19.body.isNone=jC:=by kernel_rfl
        have d9:=Ab bm;have ea:=Ab cJ;have eb:=Ab cK;have cN:=Ab (show ∀q,(Y ac M a9).ownBlock=X q->q<(z.alloc (CE o)).drew.heap.size from fun q hq=>(bm.C.lts.1 q hq).2);have bj:=Ab aP;have bT:=Ab (show(K).length+(DC (Cr (CC r) ez) (K).length).length<=65535 by have q:=(Aa cE).1;rw[Ax];exact q);clear hoo aH aG aL cF cG A cH cI E bm cJ cK W bl cL aF av az aP;go_wp2_with fail
        refine jv 2 ?_;rw[je];go_wp2_with fail
        go_region_law (first
         |(refine AE rfl 18 _ func18 d5 d6 _ _ _ rfl (jG #[U V o.op,U V o.num,Q o.text,Y o.an o.nn o.cn,Y o.ka o.kn o.kc]) (Y a6 aa a7) rfl rfl _ (Aa cM) ?_;rintro gf bw ⟨ad,ec,cO,bn⟩;obtain rfl:=Bg ec;have aB:=(Aa d9).below bn;have cP:=Ab (Gz (Oo (wz:=w) (B:=l.heap.size) (Aa ds) (Cr (CC r) ez) ad cO (K) (Y ac M a9) N J bw (Cf.of_below BRN) NLN (fun q hq=> .inl (Aa cN q hq)) aB.C aB.F.size (Aa bT)) (fun e w' ⟨v,_,_,h,_⟩=>⟨_,h⟩));have cQ:bw.cell? ⟨l.heap.size,0,T⟩=X (Y ac M a9):=aB.Rr.cell 0;clear cO)
         |(refine AE rfl 19 _ func19 d7 d8 _ _ _ rfl (jG #[U V ad.op,U V ad.num,Q ad.text,Y ad.an ad.nn ad.cn,Y ad.ka ad.kn ad.kc]) (Y ac M a9) rfl rfl _ (Aa cP) ?_;rintro gg aV ⟨gh,gi,gj,ed,bo,ba,ee,ef⟩;obtain rfl:=Bg ed;obtain⟨H,bU⟩:∃L,L=(K++DC (Cr (CC r) ez) (K).length).length:=⟨_,rfl⟩;obtain⟨x6,bb,cR,_⟩:=Ae bo.own;rw[<-bU]at cR;subst cR;have cS:=Ab bU;clear bU;have bV:=(aB.put bo ba).1;have cT:aV.cell? ⟨l.heap.size,0,T⟩=X (Y ac M a9):=bV.cell 0;have eg:=bV.frozen 0))
        all_goals
         have bW:=(aB.put bo ba).2;have cU:=ba.row aB.C ((Aa ea).after bn NLN) (by decide);have cV:=ba.row aB.C ((Aa eb).after bn NLN) (by decide);have gl:H<=65535:=by rw[Aa cS,zC];exact Aa bT
         have cW:=cU.setFar (p:=⟨l.heap.size,0,T⟩) (by show aR≠l.heap.size;omega) (Y x6 H bb);have bp:=cV.setFar (p:=⟨l.heap.size,0,T⟩) (by show ak≠l.heap.size;omega) (Y x6 H bb);have bE:=bW.set (j:=2) (u:= U V ((H:Int)-1)) bp (by decide) (by decide) (by decide) (by decide) (fun e=>by have:=Aa d3 _ e;omega) (by omega);have cX:=cW.setFar (p:=⟨ak,2,T⟩) (by show aR≠ak;omega) (U V ((H:Int)-1));have bX:=bp.set 2 (U V ((H:Int)-1));simp only[zn,zh,zk]at bX;have e6:(H:Int)-1=GD (X (Cr (CC r) ez)) (K).length:=by
          have:=GB (Cr (CC r) ez);rw[Aa cS,zC,Ax];show _=((((K).length+(Cr (CC r) ez).cnt-1 :Nat)):Int)
          omega
         obtain⟨fr,b9,fs⟩:=Fl bW.Rr;obtain⟨m0,eh,ei,ej,gm⟩:=A6 bp;have bQ:=Ab (show ∃ (nd:R) (N J:List R) (aA:Int),Hid (aA=GD (X (Cr (CC r) ez)) (K).length)/\Hid (RY l.heap.size l.heap.size l nd aT (K++Kk (X (Cr (CC r) ez)) (K).length) a8 N J ((aV.setCell ⟨l.heap.size,0,T⟩ (Y x6 H bb)).setCell ⟨ak,2,T⟩ (U V ((H:Int)-1))))/\Ag ((aV.setCell ⟨l.heap.size,0,T⟩ (Y x6 H bb)).setCell ⟨ak,2,T⟩ (U V ((H:Int)-1))) aR #[U V y.1.kind,Q y.1.name,U V aE,Y (X ⟨b6,b7,T⟩) 1 ai,Y aq af aj] 45/\Ag ((aV.setCell ⟨l.heap.size,0,T⟩ (Y x6 H bb)).setCell ⟨ak,2,T⟩ (U V ((H:Int)-1))) ak #[U V y.1.kind,Q y.1.name,U V aA,U V (-1)] 53 from⟨_,_,_,(H:Int)-1,Ab e6,Ab bE,cX,bX⟩);clear bW bE cU cV cW bp cX bX bV bo ba ee ef aB bn cP cQ cT eg cM bT cN e0 e1 e2 e3 e4 bR bS o2 aO b1 b2 b3 b4 e6;go_wp2_with fail
         rw[je];go_wp2_with fail
         go_meet
         exact Aa bQ
      case rest=>
       obtain⟨nd,N,J,bF,gn,az,aF,av⟩:=hcut;obtain⟨ag,dy⟩:∃ag,ag=K++Kk aU K.length:=⟨_,rfl⟩
       rw[<-dy]at az;have ek:=(Aa cE).2;rw[<-dy]at ek;have ft:=Ab dy;clear cE;have cE:=Ab (jS True.intro ek);clear dy ek;obtain⟨bt,bu,x2,x3,bv,-⟩:=AP aF;go_upto_block 14 with fail
       clear bt bu x2 x3 bv;generalize wc=z at az aF av|-;go_cut [] (fun ab=>∃ (nd:R) (N J:List R) (aA:Int),Hid (aA=GD go (ag).length)/\Hid (RY l.heap.size l.heap.size l nd aT (ag++Kk go (ag).length) a8 N J ab)/\Ag ab aR #[U V y.1.kind,Q y.1.name,U V aE,Y ap ae ai,Y aq af aj] 45/\Ag ab ak #[U V y.1.kind,Q y.1.name,U V bF,U V aA] 53)
       case first=>
        have D:=(Aa ao).2.2.2.2;have W:=(Aa bI).2;have bl:=(Aa dX).2;dsimp only at D;rcases hoo:y.1.grant with _|ez
        ·rw[hoo]at D;have au:af=0:=D;obtain rfl:go=T:=by rw[Aa d2,hoo];rfl
         have bQ:=Ab (show ∃ (nd:R) (N J:List R) (aA:Int),Hid (aA=GD T (ag).length)/\Hid (RY l.heap.size l.heap.size l nd aT (ag++Kk T (ag).length) a8 N J z)/\Ag z aR #[U V y.1.kind,Q y.1.name,U V aE,Y ap ae ai,Y aq af aj] 45/\Ag z ak #[U V y.1.kind,Q y.1.name,U V bF,U V aA] 53 from⟨nd,N,J,-1,Ab rfl,Ab (by simpa[Kk]using Aa az),aF,av⟩);clear hoo D W bl aF av;subst au;go_wp2_with fail
         refine jv 1 ?_;rw[je];go_wp2_with fail
         go_meet
         exact Aa bQ
        ·rw[hoo]at D W bl;obtain rfl:go=X (Cr (CC r) ez):=by rw[Aa d2,hoo];rfl
         obtain⟨au,o,aG,aL⟩:=D;subst au;have E:=Aa az;have cF:=aG.below E.F NLN;have cG:=aL.below E.F NLN;obtain⟨b6,b7,rfl,dk,aH⟩:=Bh cF (by simp);obtain⟨aO,b1,b2,b3,b4⟩:=aH 0 (by simp);simp only[zt,z0,zX]at aO b1 b2 b3 b4;obtain⟨M,aP⟩:∃M,M=(ag).length:=⟨_,rfl⟩
         obtain⟨ac,a9,bD,_⟩:=Ae E.C.own;rw[<-aP]at bD;subst bD;have A:=Av z (CE o);have bm:=E.below A.drew;have cH:=Ag.new z #[U V o.op,U V o.num,Q o.text,Y o.an o.nn o.cn,Y o.ka o.kn o.kc] 48;have cI:=E.Rr.alloc (CE o);have cJ:=aF.after A.drew NLN;have cK:=av.after A.drew NLN;have cL:=(Aa dU).below bm.F NLN;have ge:=E.F.size;have d4:w.heap.size<=(z.alloc (CE o)).drew.heap.size:=by have:=A.size;show w.heap.size<=(z.alloc (CE o)).heap.size;omega
         have cM:=Ab (Gz (GA w (Aa fm) ez o (z.alloc (CE o)).drew d4 (cG.below A.drew NLN) cL W bl) (fun e w' ⟨k,h,_⟩=>⟨_,h⟩));obtain⟨e0,e1,e2,e3,e4,-⟩:=AP cH;obtain⟨bR,bS,o2⟩:=Fl cI;have d5:(Tryz.f18.name== "runtime.NumGoroutine")=jC:=by kernel_rfl
         have d6: Tryz.f18.body.isNone=jC:=by kernel_rfl
         have d7:(Tryz.f19.name== "runtime.NumGoroutine")=jC:=by kernel_rfl
         have d8: Tryz.f19.body.isNone=jC:=by kernel_rfl
         have d9:=Ab bm;have ea:=Ab cJ;have eb:=Ab cK;have cN:=Ab (show ∀q,(Y ac M a9).ownBlock=X q->q<(z.alloc (CE o)).drew.heap.size from fun q hq=>(bm.C.lts.1 q hq).2);have bj:=Ab aP;have bT:=Ab (show(ag).length+(DC (Cr (CC r) ez) (ag).length).length<=65535 by have q:=(Aa cE).2;rw[Ax];exact q);clear hoo aH aG aL cF cG A cH cI E bm cJ cK W bl cL aF av az aP;go_wp2_with fail
         refine jv 2 ?_;rw[je];go_wp2_with fail
         go_region_law (first
          |(refine AE rfl 18 _ func18 d5 d6 _ _ _ rfl (jG #[U V o.op,U V o.num,Q o.text,Y o.an o.nn o.cn,Y o.ka o.kn o.kc]) (Y a6 aa a7) rfl rfl _ (Aa cM) ?_;rintro gf bw ⟨ad,ec,cO,bn⟩;obtain rfl:=Bg ec;have aB:=(Aa d9).below bn;have cP:=Ab (Gz (Oo (wz:=w) (B:=l.heap.size) (Aa ds) (Cr (CC r) ez) ad cO (ag) (Y ac M a9) N J bw (Cf.of_below BRN) NLN (fun q hq=> .inl (Aa cN q hq)) aB.C aB.F.size (Aa bT)) (fun e w' ⟨v,_,_,h,_⟩=>⟨_,h⟩));have cQ:bw.cell? ⟨l.heap.size,0,T⟩=X (Y ac M a9):=aB.Rr.cell 0;clear cO)
          |(refine AE rfl 19 _ func19 d7 d8 _ _ _ rfl (jG #[U V ad.op,U V ad.num,Q ad.text,Y ad.an ad.nn ad.cn,Y ad.ka ad.kn ad.kc]) (Y ac M a9) rfl rfl _ (Aa cP) ?_;rintro gg aV ⟨gh,gi,gj,ed,bo,ba,ee,ef⟩;obtain rfl:=Bg ed;obtain⟨H,bU⟩:∃L,L=(ag++DC (Cr (CC r) ez) (ag).length).length:=⟨_,rfl⟩;obtain⟨x6,bb,cR,_⟩:=Ae bo.own;rw[<-bU]at cR;subst cR;have cS:=Ab bU;clear bU;have bV:=(aB.put bo ba).1;have cT:aV.cell? ⟨l.heap.size,0,T⟩=X (Y ac M a9):=bV.cell 0;have eg:=bV.frozen 0))
         all_goals
          have bW:=(aB.put bo ba).2;have cU:=ba.row aB.C ((Aa ea).after bn NLN) (by decide);have cV:=ba.row aB.C ((Aa eb).after bn NLN) (by decide);have gl:H<=65535:=by rw[Aa cS,zC];exact Aa bT
          have cW:=cU.setFar (p:=⟨l.heap.size,0,T⟩) (by show aR≠l.heap.size;omega) (Y x6 H bb);have bp:=cV.setFar (p:=⟨l.heap.size,0,T⟩) (by show ak≠l.heap.size;omega) (Y x6 H bb);have bE:=bW.set (j:=3) (u:= U V ((H:Int)-1)) bp (by decide) (by decide) (by decide) (by decide) (fun e=>by have:=Aa d3 _ e;omega) (by omega);have cX:=cW.setFar (p:=⟨ak,3,T⟩) (by show aR≠ak;omega) (U V ((H:Int)-1));have bX:=bp.set 3 (U V ((H:Int)-1));simp only[zn,zh,zk]at bX;have e6:(H:Int)-1=GD (X (Cr (CC r) ez)) (ag).length:=by
           have:=GB (Cr (CC r) ez);rw[Aa cS,zC,Ax];show _=((((ag).length+(Cr (CC r) ez).cnt-1 :Nat)):Int)
           omega
          obtain⟨fr,b9,fs⟩:=Fl bW.Rr;obtain⟨m0,eh,ei,ej,gm⟩:=A6 bp;have bQ:=Ab (show ∃ (nd:R) (N J:List R) (aA:Int),Hid (aA=GD (X (Cr (CC r) ez)) (ag).length)/\Hid (RY l.heap.size l.heap.size l nd aT (ag++Kk (X (Cr (CC r) ez)) (ag).length) a8 N J ((aV.setCell ⟨l.heap.size,0,T⟩ (Y x6 H bb)).setCell ⟨ak,3,T⟩ (U V ((H:Int)-1))))/\Ag ((aV.setCell ⟨l.heap.size,0,T⟩ (Y x6 H bb)).setCell ⟨ak,3,T⟩ (U V ((H:Int)-1))) aR #[U V y.1.kind,Q y.1.name,U V aE,Y ap ae ai,Y (X ⟨b6,b7,T⟩) 1 aj] 45/\Ag ((aV.setCell ⟨l.heap.size,0,T⟩ (Y x6 H bb)).setCell ⟨ak,3,T⟩ (U V ((H:Int)-1))) ak #[U V y.1.kind,Q y.1.name,U V bF,U V aA] 53 from⟨_,_,_,(H:Int)-1,Ab e6,Ab bE,cX,bX⟩);clear bW bE cU cV cW bp cX bX bV bo ba ee ef aB bn cP cQ cT eg cM bT cN e0 e1 e2 e3 e4 bR bS o2 aO b1 b2 b3 b4 e6;go_wp2_with fail
          rw[je];go_wp2_with fail
          go_meet
          exact Aa bQ
       case rest=>
        obtain⟨nd,N,J,cY,gp,az,aF,av⟩:=hcut;have E:=Aa az;obtain⟨aC,aW⟩:∃aC,aC=a8.length:=⟨_,rfl⟩
        obtain⟨bq,cs,cZ,_⟩:=Ae E.S;rw[<-aW]at cZ;subst cZ;obtain⟨gq,gr,gs,gt,gu⟩:=jZ AaC;obtain⟨bR,bS,o2⟩:=Fl E.Rr;obtain⟨m0,eh,ei,ej,-⟩:=A6 av;have cb:=jV E.S (PN y.1.kind y.1.name bF cY);rw[<-aW]at cb;have fu:=World.news_of_block (jm wc (PN y.1.kind y.1.name bF cY));have aH:l.heap.size<=wc.heap.size:=E.F.size;obtain⟨cQ,cT,gv⟩:=Fl (E.Rr.alloc (PN y.1.kind y.1.name bF cY));have gw:=Ab aW;have gQ:aC<=600:=by rw[aW];exact gc
        clear aW E aF av;go_wp2_with (at_builtin;refine jj _ rfl _ _ 29 rfl l.heap.size 53 gq (jG #[U V 0,Q ByteArray.empty,U V 0,U V 0]) 4 40 underlying29 gr gs gt gu rfl (by decide) (Y bq aC cs) aC (Dk a8) rfl cb ⟨wc.heap.size,0,T⟩ 1 1 [U V y.1.kind,Q y.1.name,U V bF,U V cY] rfl rfl fu (by intro u cB;simp at cB;rcases cB with rfl|rfl|rfl|rfl<;>rfl) (by decide) (by unfold maxLen;omega) (by omega) (by simp;omega) _ rfl ?_)
        intro g7 c7 cx bA bB hat cy;obtain⟨el,bE⟩:=(Aa az).stm (s:=⟨y.1.kind,y.1.name,bF,cY⟩) (by rw[<-Aa gw];exact bA) bB;have gR:=el.cell 1;have gS:=el.frozen 1;have gx:=Ab (show RY l.heap.size l.heap.size l nd (Y (X ⟨g7,0,T⟩) (aC+1) c7) (AM 0 (I.take (t+1))) (BK 0 (I.take (t+1))) _ _ (cx.setCell ⟨l.heap.size,1,T⟩ (Y (X ⟨g7,0,T⟩) (aC+1) c7)) by
         have e1:(MN (CC r) y.1).cond=aU:=(Aa d1).symm;have e2:(MN (CC r) y.1).grant=go:=(Aa d2).symm;have e3:ag.length=Bu (I.take t)+AF aU:=by rw[Aa ft,zC,FI,(Aa dx).2.2]
         rw[Aa dY,Nc,Nf,e1,e2,zU,<-e3,<-(Aa dx).2.2,<-(Aa dx).1,<-(Aa dx).2.1,<-Aa ft,<-Aa gn,<-Aa gp];exact bE)
        clear bA bB hat cy el bE cb fu bR bS o2 m0 eh ei ej cQ cT gv;go_wp2_with fail
        go_roundw
        case rel=>exact⟨t+1,_,_,_,_,Aa aJ,by go_num,gx⟩
        case measure=>have:=Aa aJ;simp[jI];omega
     ·have cq:=Ab (show I.take t=I from zY (by rw[Aa cD,ze,(Aa cc).lenD];omega));have fc: ¬ ((t:Int)<(kn:Int)):=by omega
      have bk:=du;rw[Aa cq]at bk;clear ay du;go_wp2_with fail
      go_meet
      exact⟨_,_,_,_,bk⟩
   case rest=>
    obtain⟨nd,aT,N,J,az⟩:=hcut;have E:=Aa az;obtain⟨M,aP⟩:∃M,M=(AM 0 I).length:=⟨_,rfl⟩
    obtain⟨aC,aW⟩:∃aC,aC=(BK 0 I).length:=⟨_,rfl⟩
    obtain⟨ac,bY,bD,_⟩:=Ae E.C.own;obtain⟨bq,bZ,cZ,_⟩:=Ae E.S;rw[<-aP]at bD;rw[<-aW]at cZ;subst bD cZ;have fv:=E.C.nds aP.symm (by rw[aP,El];have:=Aa dz;omega) (Aa eP);have fw:=JA (by have q:=E.S;rw[<-aW]at q;exact q) aW.symm (by rw[aW,Fh,Aa cD,ze,(Aa cc).lenD];omega) (Aa eQ);have bf:=Ab (Aa fQ wc ac M bY bq aC bZ fv fw);have fx:=(Aa dt).below E.F (Aa dt).lt;have gy:=Ab fx;have bj:=Ab (jS aP aW);have gT:w.heap.size+1<l.heap.size:=(Aa dt).lt;obtain⟨bR,bS,o2⟩:=Fl E.Rr;clear aP aW fv fw fx E;go_wp2_with fail
    refine(Aa bf).mono ?_;rintro ah aV ⟨⟨gz,gU,gV,fy,fz,rfl,D⟩,em⟩;obtain⟨aX,en⟩:∃aX,aX=TT.length:=⟨_,rfl⟩
    obtain⟨bg,bh,fA,_⟩:=Ae D;rw[<-en]at fA;subst fA;have A:=Av aV (jF #[U V fy,U V fz] 58);have c0:=((Aa az).below em).below A;have c5:=c0.Rr;have fB:=((Aa gy).after em NLN).after A NLN;have fC:TyM l.heap.size gz (Y ac M bY) (Y bq aC bZ) (Y bg aX bh) (AM 0 I) (BK 0 I) TT N J (aV.alloc (jF #[U V fy,U V fz] 58)):=⟨c0.C,c0.S,Af D (fun q hq=>A.block q (D.lt q hq).2)⟩
    have fD:=(Aa dV).trans (c0.F.mono (Aa dV).size);have eo:=Ab en;obtain⟨fr,b9,fs⟩:=Fl c5;have gW:=fun k=>c5.frozen k;have fE:=c5.set 2 (Y bg aX bh);have fF:=fC.set c5 2 (Y bg aX bh);have c6:=fB.setFar (p:=⟨l.heap.size,2,T⟩) (by show w.heap.size+1≠l.heap.size;omega) (Y bg aX bh);have fG:=fD.setCell (p:=⟨l.heap.size,2,T⟩) (by show w.heap.size<=l.heap.size;omega) (Y bg aX bh);obtain⟨gX,gY,r2⟩:=Fl fE;obtain⟨gZ,g0,g1⟩:=Fl c6;have g3:=fun k=>c6.frozen k;have fH:=fF.set c6 0 (Y ac M bY);have ep:=c6.set 0 (Y ac M bY);have fI:=fH.set ep 1 (Y bq aC bZ);have eq:=ep.set 1 (Y bq aC bZ);have fJ:=fI.set eq 2 (Y bg aX bh);have fK:=eq.set 2 (Y bg aX bh);have fL:=((fG.setCell (p:=⟨w.heap.size+1,0,T⟩) (by show w.heap.size<=w.heap.size+1;omega) (Y ac M bY)).setCell (p:=⟨w.heap.size+1,1,T⟩) (by show w.heap.size<=w.heap.size+1;omega) (Y bq aC bZ)).setCell (p:=⟨w.heap.size+1,2,T⟩) (by show w.heap.size<=w.heap.size+1;omega) (Y bg aX bh);have er:=Ab fJ;have gA:=Ab fK;have gB:=Ab fL;clear fC fF fH fI fJ ep eq fK c6 fE c5 fB fD fG fL c0 A D en em bf bR bS o2;dsimp only;go_wp2_with fail
    obtain⟨gC,gD,gE⟩:=Fl (Aa gA);refine jN (v:= jG #[Y ac M bY,Y bq aC bZ,Y bg aX bh]) (by simp[results,results5,go_sem,gC,gD,gE]) rfl ⟨⟨ac,M,bY,bq,aC,bZ,bg,aX,bh,rfl,?_,?_,?_⟩,Aa gB⟩
    ·exact(Aa er).C.nds (Aa bj).1.symm (by rw[(Aa bj).1,El];have:=Aa dz;omega) (Aa eP)
    ·exact JA (by have q:=(Aa er).S;rw[<-(Aa bj).2]at q;exact q) (Aa bj).2.symm (by rw[(Aa bj).2,Fh,Aa cD,ze,(Aa cc).lenD];omega) (Aa eQ)
    ·exact W8 (by have q:=(Aa er).Tt;rw[<-Aa eo]at q;exact q) (Aa eo).symm (by rw[Aa eo];exact fM)
theorem If {ls:List Ex}{e:Ex}(a:e.kids=[])(h7:EZ e≠7):AG ls e=e:=by
 cases e<;>first|(simp[AG,FL,Ar,Ex.kids,AR];done)|(exact absurd rfl h7)|(cases a;done)
theorem AeB {e:Ex}(h:e.con=jA):e.kids=[]:=by cases e<;>first|rfl|cases h
theorem Sy {ls:List Ex}(i n:Int):(AG ls (.lett i n)).kids=[]:=by
 simp only[AG,FL,Ar,Ex.kids,List.isEmpty_nil,if_true,AR];cases ls[n.toNat]? with
 |none=>rfl
 |some c=>
  by_cases hc:c.con=jA
  ·show((if c.con=jA then X c else T).getD (.lett i n)).kids=[]
   rw[if_pos hc];exact AeB hc
  ·show((if c.con=jA then X c else T).getD (.lett i n)).kids=[]
   rw[if_neg hc];rfl
theorem IN {wz:Z}{z:Ex}{w:Z}{P:Program}{f:FuncId}(a:z.kids=[])(h:jE P f args w (RwA z w)):jE P f args w (Yp wz z w):=
 h.mono fun e w' ⟨⟨k,h1,h2⟩,h3⟩=>⟨k,h1,Gx a h2,h3⟩
theorem TD {e:Ex}(h:e.con=jA):∃v,e.cv=X v:=Option.isSome_iff_exists.1 h
theorem okI {e:Ex}{v:Vv}(h:e.cv=X v)(a:Ib e):∀n,v= .int n->Di n:=fun n e=>by
 subst e;exact Aic h a
theorem QR (wz:Z){ls:List Ex}{ts:List Int}(l:Fu ts ls)(F:ls.length=ts.length)(A:∀c∈ls,Ib c)(D:∀c∈ls,Be c=jA){o:Option jD}{p:Nat}(E:ls.length<=p):∀(e:Ex) (t:Int) (k:K5) (w:Z),Al ts e=X t->Ib e->wz.heap.size<=w.heap.size->Tq w e k->LtQ w o ls->
  jE j4 43 #[jG #[U V k.op,U V k.num,Q k.text,Y k.an k.nn k.cn,Y k.ka k.kn k.kc],Y o ls.length p] w (Yp wz (AG ls e) w)
 |.lett i n,t,k,w,ht,ho,f,h,hL=>by
  have S: 0<=n/\n<ls.length:=by
   rw[Al]at ht;split at ht
   ·have:=(zd.1 ht).1;omega
   ·cases ht
  exact IN (Sy i n) (AgU h hL rfl E S D)
 |.un i op c,t,k,w,ht,ho,f,h,hL=>by
  obtain⟨h1,h2,h3,h4,h5,B,h6,h7⟩:=h;rw[Al]at ht;cases hc:Al ts c with
  |none=>rw[hc]at ht;cases ht
  |some a=>
   rw[hc]at ht;have W:=DV ht;have r:=BP l c a hc;rw[h5,AG,h1];exact TC wz w f o ls.length p ls w BRN op k.num k.text k.an k.nn k.cn k.ka 1 k.kc [B] h6 rfl (by decide) (by decide) (by decide) (by omega) [AG ls c] rfl (fun z f=>by rw[zS.1 f];exact Cl _ _ r) _ (.un i _ ⟨rfl,rfl,rfl⟩) (fun _ _ _=>by omega) (fun _ _ _ e=>by cases e)
    (fun s H ka kc hv I C m=>by
     match H,hv with
     |[k0],_=>
      obtain⟨v,hv⟩:=TD (show(AG ls c).con=jA by simpa using m);have J:v.ty=a:=by rw[IX hv]at r;exact jb r
      exact AgR i op (by rw[J];exact ht) (C 0 (by simp) (by simp)) hv (okI hv (Ge A c ho)) I)
    (fun m=>by simp only[List.all_cons,List.all_nil,Bool.and_true]at m;simp[Ar,Ex.kids,m])
    (fun j a1 a2 s g=>by
     match j,a1 with
     |0,_=>exact QR wz l F A D E c a B s hc ho (zB f g.size) (h7.below g NLN) (hL.below g NLN))
 |.bin i op x y,t,k,w,ht,ho,f,h,hL=>by
  obtain⟨h1,h2,h3,h4,h5,B,K,h6,h7,h8⟩:=h;rw[Al]at ht;cases hx:Al ts x with
  |none=>rw[hx]at ht;cases ht
  |some a=>
   cases hy:Al ts y with
   |none=>rw[hx,hy]at ht;cases ht
   |some b=>
    rw[hx,hy]at ht;have W:=CU ht;have r:=BP l x a hx;have L:=BP l y b hy;rw[h5,AG,h1];exact TC wz w f o ls.length p ls w BRN op k.num k.text k.an k.nn k.cn k.ka 2 k.kc [B,K] h6 rfl (by decide) (by decide) (by decide) (by omega) [AG ls x,AG ls y] rfl (fun z f=>by
      simp only[zP,List.not_mem_nil,or_false]at f;rcases f with rfl|rfl
      ·exact Cl _ _ r
      ·exact Cl _ _ L) _ (.bin i _ _ ⟨rfl,rfl,rfl⟩) (fun _ _ e=>by cases e) (fun _ _ _ _=>by omega)
     (fun s H ka kc hv I C m=>by
      match H,hv with
      |[k0,k0'],_=>
       have G:(AG ls x).con=jA/\(AG ls y).con=jA:=by simpa using m
       obtain⟨v,hv⟩:=TD G.1;obtain⟨u,M⟩:=TD G.2;have J:v.ty=a:=by rw[IX hv]at r;exact jb r
       have aa:u.ty=b:=by rw[IX M]at L;exact jb L
       exact AgS i op (by rw[J,aa];exact ht) (C 0 (by simp) (by simp)) (C 1 (by simp) (by simp)) hv M (okI hv (Ge A x ho.1)) (okI M (Ge A y ho.2)) I)
     (fun m=>by
      have:([AG ls x,AG ls y].all Ex.con)=jC:=m;simp only[Ar,Ex.kids,this,List.isEmpty_cons];rfl)
     (fun j a1 a2 s g=>by
      match j,a1 with
      |0,_=>exact QR wz l F A D E x a B s hx ho.1 (zB f g.size) (h7.below g NLN) (hL.below g NLN)
      |1,_=>exact QR wz l F A D E y b K s hy ho.2 (zB f g.size) (h8.below g NLN) (hL.below g NLN))
 |.ite i x y z,t,k,w,ht,ho,f,h,hL=>by
  obtain⟨h1,h2,h3,h4,h5,B,K,P,h6,h7,h8,h9⟩:=h;rw[Al]at ht;cases hx:Al ts x with
  |none=>rw[hx]at ht;cases ht
  |some a=>
   cases hy:Al ts y with
   |none=>rw[hx,hy]at ht;cases ht
   |some b=>
    cases N:Al ts z with
    |none=>rw[hx,hy,N]at ht;cases ht
    |some d=>
     rw[hx,hy,N]at ht;have ab:a=1:=by
      obtain⟨O,ac⟩:=EU ht;simp only[Ba]at O;split at O
      ·rename_i he;exact he.1
      ·exact absurd O.symm ac
     have r:=BP l x a hx;have L:=BP l y b hy;have ad:=BP l z d N;rw[h5,AG,h1];exact Aci wz w f o ls.length p ls w BRN 27 k.num k.text k.an k.nn k.cn k.ka 3 k.kc [B,K,P] h6 rfl (by decide) (by decide) (by decide) (by decide) [AG ls x,AG ls y,AG ls z] rfl (fun z f=>by
       simp only[zP,List.not_mem_nil,or_false]at f;rcases f with rfl|rfl|rfl
       ·exact Cl _ _ r
       ·exact Cl _ _ L
       ·exact Cl _ _ ad) _ (.ite i _ _ _ rfl ⟨rfl,rfl,rfl⟩) (fun _ _ e=>by cases e) (fun _ _ _ e=>by cases e)
      (fun s H ka kc hv I C m=>by
       match H,hv with
       |[k0,k0',k0''],_=>
        have G:(AG ls x).con=jA/\(AG ls y).con=jA/\(AG ls z).con=jA:=by simpa using m
        obtain⟨v,hv⟩:=TD G.1;obtain⟨u,M⟩:=TD G.2.1;obtain⟨q,hq⟩:=TD G.2.2;have J:v.ty=1:=by rw[IX hv,ab]at r;exact jb r
        cases v with
        |bool c=>exact WT i (C 0 (by simp) (by simp)) (C 1 (by simp) (by simp)) (C 2 (by simp) (by simp)) hv M hq I
        |_=>cases J)
      (fun m=>by
       have:([AG ls x,AG ls y,AG ls z].all Ex.con)=jC:=m;simp only[Ar,Ex.kids,this,List.isEmpty_cons];rfl)
      (fun j a1 a2 s g=>by
       match j,a1 with
       |0,_=>exact QR wz l F A D E x a B s hx ho.1 (zB f g.size) (h7.below g NLN) (hL.below g NLN)
       |1,_=>exact QR wz l F A D E y b K s hy ho.2.1 (zB f g.size) (h8.below g NLN) (hL.below g NLN)
       |2,_=>exact QR wz l F A D E z d P s N ho.2.2 (zB f g.size) (h9.below g NLN) (hL.below g NLN))
 |.int ..,t,k,w,ht,ho,f,h,hL=>by rw[If rfl (by simp[EZ,CV])];exact IN rfl (Ie o _ p h (h.leaf rfl) (by rw[h.op];simp[EZ,CV]))
 |.text ..,t,k,w,ht,ho,f,h,hL=>by rw[If rfl (by simp[EZ,CV])];exact IN rfl (Ie o _ p h (h.leaf rfl) (by rw[h.op];simp[EZ,CV]))
 |.bool ..,t,k,w,ht,ho,f,h,hL=>by rw[If rfl (by simp[EZ,CV])];exact IN rfl (Ie o _ p h (h.leaf rfl) (by rw[h.op];simp[EZ,CV]))
 |.set ..,t,k,w,ht,ho,f,h,hL=>by rw[If rfl (by simp[EZ,CV])];exact IN rfl (Ie o _ p h (h.leaf rfl) (by rw[h.op];simp[EZ,CV]))
 |.name ..,t,k,w,ht,ho,f,h,hL=>by rw[If rfl (by simp[EZ,CV])];exact IN rfl (Ie o _ p h (h.leaf rfl) (by rw[h.op];simp[EZ,CV]))
 |.attr ..,t,k,w,ht,ho,f,h,hL=>by rw[If rfl (by simp[EZ,CV])];exact IN rfl (Ie o _ p h (h.leaf rfl) (by rw[h.op];simp[EZ,CV]))
theorem Ajy (wz:Z):RwC wz:=fun ls ts h1 h2 h3 h4 a b h5 e t k w h6 h7 h8 h9 h10=>QR wz h1 h2 h3 h4 h5 e t k w h6 h7 h8 h9 h10
end Go.Proofs.YteiieikcjcfkkaaGreatDoor
