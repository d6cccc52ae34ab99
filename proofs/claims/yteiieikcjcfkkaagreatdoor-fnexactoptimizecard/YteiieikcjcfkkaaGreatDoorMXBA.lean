import Derived.Test.YteiieikcjcfkkaaGreatDoorMXAV
import Derived.Test.YteiieikcjcfkkaaGreatDoorMXAR
import Derived.Test.YteiieikcjcfkkaaGreatDoorMXAZ
open Go.Proofs.Tryz
open Option renaming none->T,some->X
open Go.Value renaming int->U,slice->Y,string->Q,iface->jB,agg->jG,pointer->jK,nilIface->jL,tuple->jO
open Go.IntKind renaming i64->V
open Go renaming World->Z,Value->R,Addr->jD,Calls->jE,TypeId->jJ,bodyPost_ret->jN,rounds_succ->je,run_underlying->jl,wp_loop_rounds->jv
open Bool renaming true->jA,false->jC
open Go.Obj renaming cells->jF
open Go.Ending renaming returned->jH
open Go.Instr renaming typeAssert->ji
open Go.Proofs.Tryz renaming prog->j4
namespace Go.Proofs.YteiieikcjcfkkaaGreatDoor
open Go.RowKit
set_option linter.unusedVariables false
set_option maxRecDepth 100000
set_option maxHeartbeats 3200000
variable {i:Int}{b:Nat}{S:jJ}{u c:R}{w:Z}
section
variable {aS aO aZ aW : jD} {G : Nat -> Prop}
def Ex.mem (G:Nat->Prop) (w:Z):Ex->Prop
 |.int _ n=>Di n
 |.set _ a n c ss=>Ap w a n c ss/\ss.length<=1048576/\∀ad,a=X ad->0<n->G ad.block
 |.un _ _ k=>k.mem G w
 |.bin _ _ k l=>k.mem G w/\l.mem G w
 |.ite _ k l m=>k.mem G w/\l.mem G w/\m.mem G w
 |_=>True
theorem Ex.mem_below {w w':Z}{B:Nat}(a:Below B w w')(hB:w.heap.size<=B):∀(e:Ex),e.mem G w->e.mem G w'
 |.int ..,h=>h
 |.text ..,h=>h
 |.bool ..,h=>h
 |.set ..,h=>⟨Ap.below h.1 a hB,h.2⟩
 |.name ..,h=>h
 |.attr ..,h=>h
 |.lett ..,h=>h
 |.un _ _ k,h=>k.mem_below a hB h
 |.bin _ _ k l,h=>⟨k.mem_below a hB h.1,l.mem_below a hB h.2⟩
 |.ite _ k l m,h=>⟨k.mem_below a hB h.1,l.mem_below a hB h.2.1,m.mem_below a hB h.2.2⟩
theorem VC.weak {P c:Z->Prop}{x:R}{o:Ev}(h:VC G aS aO aZ aW b c x o)(d:∀a,P a->c a):VC G aS aO aZ aW b P x o:=fun a f=>h a (d a f)
theorem Ir (k:Nat)(P:Z->Prop)(T:jJ)(i:Int)(x y:R)(v:Vv)(h:(T= 220/\y=jB 249 x/\∃n,x=U V n)\/(T= 222/\y=jB 250 x/\∃s,x=Q s)\/(T= 177/\y=jB 251 x/\∃b,x= .bool b)\/T= 218/\y=jB 252 x/\∃a n c,x=Y a n c)(hv:∀d f,P d->Ah d f->VIs G f y v):VC G aS aO aZ aW k P (jB T (jG #[U V i,x])) (.ok v):=by
 intro d g;have j:=Ab (fun o=>And.intro (Av d o) (hv d _ g (Av d o)));have ts:=tas T (jG #[U V i,x]);clear hv g;rcases h with⟨rfl,rfl,n,rfl⟩|⟨rfl,rfl,n,rfl⟩|⟨rfl,rfl,n,rfl⟩|⟨rfl,rfl,a,n,c,rfl⟩
 all_goals
  simp only[MT,Nat.reduceEqDiff,reduceIte]at ts;obtain⟨l,m,p,q,r,t,u,w,z,A⟩:=ts;go_enter func138,ntmps138
  go_wp2_with fail
  exact jN (v:= jO #[jB _ _,jL]) (by simp[results,results138,go_sem]) rfl ⟨⟨_,rfl,(Aa j _).2⟩,(Aa j _).1⟩
theorem KH (d:Nat)(P:Z->Prop)(f:PH P)(T:jJ)(A:Array R)(F:FuncId)(o:Ev)(h:(T= 166/\F= 169/\∃i op t u,A= #[U V i,U V op,jB t u])\/(T= 168/\F= 170/\∃i op t u b c,A= #[U V i,U V op,jB t u,jB b c])\/T= 213/\F= 171/\∃i t u b c g j,A= #[U V i,jB t u,jB b c,jB g j])(p:Hid (∀a,P a->jE j4 F #[jK (X ⟨d,0,none⟩),jG A] a (OL G aS aO aZ aW o a))):VC G aS aO aZ aW d P (jB T (jG A)) o:=by
 intro a k;have l:=Ab (fun o=>And.intro (Av a o) (f _ _ k (Av a o)));have ts:=tas T (jG A);clear f k;rcases h with⟨rfl,rfl,i,op,t,u,rfl⟩|⟨rfl,rfl,i,op,t,u,b,c,rfl⟩|⟨rfl,rfl,i,t,u,b,c,g,j,rfl⟩
 all_goals
  simp only[MT,Nat.reduceEqDiff,reduceIte]at ts;obtain⟨s,w,x,y,z,B,C,D,E,H⟩:=ts;go_enter func138,ntmps138
  go_wp2_with fail
  refine(Aa p _ (Aa l _).2).mono ?_;intro I J m;obtain⟨q,e1,rfl,n⟩:=m.form;have r:=Ab n;clear n m;dsimp only;go_wp2_with fail
  exact jN (v:= jO #[q,e1]) (by simp[results,results138,go_sem]) rfl ((Aa r).back (Aa l _).1)
theorem Ads (R:Rq)(ls:List Vv)(i:Int)(k l m:Ex):DI R ls (.ite i k l m)=Ajc (DI R ls k) (DI R ls l) (DI R ls m):=by
 rw[DI];generalize DI R ls k=a;cases a with
 |err c=>rfl
 |ok v=>cases v<;>rfl
def Ex.cst:Ex->Prop
 |.attr .. =>False
 |.un _ _ k=>k.cst
 |.bin _ _ k l=>k.cst/\l.cst
 |.ite _ k l m=>k.cst/\l.cst/\m.cst
 |_=>True
theorem EH (j:Nat)(R:Rq):∀(e:Ex),e.typed->e.cst->∀t,Al [] e=some t->VC G aS aO aZ aW j (fun f=>(∀b,f.heap.size<=b->G b)/\CZ f aS aO aZ aW/\e.mem G f) e.val (DI R [] e)
 |.int i n,_,_,t,ht=>Ir j _ _ i _ _ _ (.inl ⟨rfl,rfl,_,rfl⟩) fun f x h _=>⟨rfl,h.2.2⟩
 |.text i s,_,_,t,ht=>Ir j _ _ i _ _ _ (.inr (.inl ⟨rfl,rfl,_,rfl⟩)) fun f x h _=>rfl
 |.bool i b,_,_,t,ht=>Ir j _ _ i _ _ _ (.inr (.inr (.inl ⟨rfl,rfl,_,rfl⟩))) fun f x h _=>rfl
 |.set i a n c ss,_,_,t,ht=>Ir j _ _ i _ _ _ (.inr (.inr (.inr ⟨rfl,rfl,_,_,_,rfl⟩))) fun f x h b=>⟨_,_,_,rfl,(h.2.2).1.below b NLN,(h.2.2).2⟩
 |.name ..,he,_,_,_=>absurd he id
 |.attr ..,_,h,_,_=>absurd h id
 |.lett i n,_,_,t,ht=>by simp[Al]at ht
 |.un i op k,he,hc,t,ht=>by
  rw[Al]at ht;cases o:Al [] k with
  |none=>rw[o]at ht;cases ht
  |some a=>
   rw[o]at ht;have q:=EH j R k he.2 hc a o;obtain⟨y,z,r⟩:=k.form;rw[r]at q;have st:PH (fun f=>(∀b,f.heap.size<=b->G b)/\CZ f aS aO aZ aW/\(Ex.un i op k).mem G f):=fun f x h p=>⟨fun b k=>h.1 b (zB p.size k),h.2.1.below p NLN,Ex.mem_below p NLN _ h.2.2⟩
   show VC G aS aO aZ aW j _ (jB 166 (jG #[U V i,U V op,k.val])) _;rw[r];exact KH j _ st _ _ _ _ (.inl ⟨rfl,rfl,_,_,_,_,rfl⟩) (Ab (AbA j _ st (fun f h=>h.2.1) i op y z (DI R [] k) (Ab (q.weak (fun f h=>h))) (fun v hv=>⟨t,by rw[FY (ls:= []) (ts:= []) rfl k a o v hv];exact ht⟩)))
 |.bin i op k l,he,hc,t,ht=>by
  rw[Al]at ht;cases o:Al [] k with
  |none=>rw[o]at ht;cases ht
  |some a=>
   rw[o]at ht;cases w:Al [] l with
   |none=>rw[w]at ht;cases ht
   |some b=>
    rw[w]at ht;dsimp only at ht;have q:=EH j R k he.2.1 hc.1 a o;have A:=EH j R l he.2.2 hc.2 b w;obtain⟨y,z,r⟩:=k.form;obtain⟨C,D,B⟩:=l.form;rw[r]at q;rw[B]at A;have st:PH (fun f=>(∀b,f.heap.size<=b->G b)/\CZ f aS aO aZ aW/\(Ex.bin i op k l).mem G f):=fun f x h p=>⟨fun b k=>h.1 b (zB p.size k),h.2.1.below p NLN,Ex.mem_below p NLN _ h.2.2⟩
    show VC G aS aO aZ aW j _ (jB 168 (jG #[U V i,U V op,k.val,l.val])) _;rw[r,B];refine KH j _ st _ _ _ _ (.inr (.inl ⟨rfl,rfl,_,_,_,_,_,_,rfl⟩)) (Ab (YC j _ st (fun f h=>h.2.1) (fun f h=>h.1) i op y z C D (DI R [] k) (DI R [] l) (Ab (q.weak (fun f h=>⟨h.1,h.2.1,h.2.2.1⟩))) (Ab (A.weak (fun f h=>⟨h.1,h.2.1,h.2.2.2⟩))) (fun v hv J=>?_) (fun v u hv F=>⟨t,by rw[FY (ls:= []) (ts:= []) rfl k a o v hv,FY (ls:= []) (ts:= []) rfl l b w u F];exact ht⟩)));rw[FY (ls:= []) (ts:= []) rfl k a o v hv];rcases CU ht with g|g|g|g|g|g|g<;>omega
 |.ite i k l m,he,hc,t,ht=>by
  rw[Al]at ht;cases o:Al [] k with
  |none=>rw[o]at ht;cases ht
  |some a=>
   rw[o]at ht;cases w:Al [] l with
   |none=>rw[w]at ht;cases ht
   |some b=>
    rw[w]at ht;cases hm:Al [] m with
    |none=>rw[hm]at ht;cases ht
    |some d=>
     rw[hm]at ht;dsimp only at ht;have q:=EH j R k he.1 hc.1 a o;have A:=EH j R l he.2.1 hc.2.1 b w;have X:=EH j R m he.2.2 hc.2.2 d hm;obtain⟨y,z,r⟩:=k.form;obtain⟨C,D,B⟩:=l.form;obtain⟨H,I,E⟩:=m.form;rw[r]at q;rw[B]at A;rw[E]at X;have st:PH (fun f=>(∀b,f.heap.size<=b->G b)/\CZ f aS aO aZ aW/\(Ex.ite i k l m).mem G f):=fun f x h p=>⟨fun b k=>h.1 b (zB p.size k),h.2.1.below p NLN,Ex.mem_below p NLN _ h.2.2⟩
     show VC G aS aO aZ aW j _ (jB 213 (jG #[U V i,k.val,l.val,m.val])) _;rw[r,B,E,Ads];refine KH j _ st _ _ _ _ (.inr (.inr ⟨rfl,rfl,_,_,_,_,_,_,_,rfl⟩)) (Ab (YD j _ st i y z C D H I (DI R [] k) (DI R [] l) (DI R [] m) (Ab (q.weak (fun f h=>⟨h.1,h.2.1,h.2.2.1⟩))) (Ab (A.weak (fun f h=>⟨h.1,h.2.1,h.2.2.2.1⟩))) (Ab (X.weak (fun f h=>⟨h.1,h.2.1,h.2.2.2.2⟩))) (fun v hv=>?_)));rw[FY (ls:= []) (ts:= []) rfl k a o v hv];obtain⟨h1,h0⟩:=EU ht;simp only[Ba]at h1;by_cases c1:a=1/\b=d
     ·exact c1.1
     ·rw[if_neg c1]at h1;exact absurd h1.symm h0
end
section
variable {G : Nat -> Prop}
def Ex.lp:Ex->Int
 |.attr i _=>i
 |.lett i _=>i
 |.set i _ _ _ _=>i
 |_=>0
def A9 (G:Nat->Prop) (o:Option Ex) (w:Z) (r:Ending) (w':Z):Prop:=
 ∃o':Option Ex,o'.map Ex.st=o.map Ex.st/\r=jH (oV o')/\(∀e,o'=X e->e.mem G w')/\Ah w w'
theorem A9.of {o o':Option Ex}{w':Z}{a:Ending}(h:Cy (oV o') w a w')(e:o'.map Ex.st=o.map Ex.st)(m:∀e,o'=X e->e.mem G w):A9 G o w a w':=
 ⟨o',e,h.1,fun x hx=>(x.mem_below h.2 NLN) (m x hx),h.2⟩
theorem Ex.mem.ln {e:Ex}{w:Z}(h:e.mem G w):e.ln:=by
 cases e with
 |set i a n c ss=>exact h.1.len
 |_=>trivial
theorem Acm (x y:Ex)(w:Z)(mx:x.mem G w)(my:y.mem G w):jE j4 99 #[x.val,y.val] w (A9 G (Gd x y) w):=by
 refine(Ack x.val y.val _ _ _ (Ab (BH x mx.ln)) (Ab (BH y my.ln)) (Ab (FN x y)) (oV (Gd x y)) (Ab ?_) w).mono ?_
 ·unfold Gd;cases GP x<;>cases GP y<;>cases sameL x y<;>rfl
 ·intro a w' h;exact A9.of h rfl (fun e he=>(H9 he).elim (fun h=>h ▸ mx) (fun h=>h ▸ my))
theorem AeJ (x y:Ex)(w:Z)(mx:x.mem G w)(my:y.mem G w):jE j4 100 #[x.val,y.val] w (A9 G (JD x y) w):=by
 refine(AeF x.val y.val _ _ _ _ _ (Ab (BH x mx.ln)) (Ab (Dq y)) (Ab (BH y my.ln)) (Ab (Dq x)) (Ab (FN x y)) (oV (JD x y)) (Ab ?_) w).mono ?_
 ·unfold JD;cases GP x<;>cases GP y<;>cases Ao x<;>cases Ao y<;>cases sameL x y<;>rfl
 ·intro a w' h;exact A9.of h rfl (fun e he=>(JX he).elim (fun h=>h ▸ mx) (fun h=>h ▸ my))
theorem Ag4 (x y:Ex)(w:Z)(mx:x.mem G w)(my:y.mem G w):jE j4 102 #[x.val,y.val] w (A9 G (Qo x y) w):=by
 refine(Ag2 x.val y.val _ _ (Ab (Cn x 0)) (Ab (Cn y 0)) (oV (Qo x y)) (Ab ?_) w).mono ?_
 ·unfold Qo;cases No 0 x<;>cases No 0 y<;>rfl
 ·intro a w' h;exact A9.of h rfl (fun e he=>(Nq he).elim (fun h=>h ▸ mx) (fun h=>h ▸ my))
theorem AeK (x y:Ex)(w:Z)(mx:x.mem G w)(my:y.mem G w):jE j4 103 #[x.val,y.val] w (A9 G (EE 0 x y) w):=by
 refine(AeG x.val y.val _ (Ab (Cn y 0)) (oV (EE 0 x y)) (Ab ?_) w).mono ?_
 ·unfold EE;cases No 0 y<;>rfl
 ·intro a w' h;exact A9.of h rfl (fun e he=>(DQ he).elim (fun h=>h ▸ mx) (fun h=>h ▸ my))
theorem Ag5 (x y:Ex)(w:Z)(mx:x.mem G w)(my:y.mem G w):jE j4 105 #[x.val,y.val] w (A9 G (EE 1 x y) w):=by
 refine(Ag3 x.val y.val _ (Ab (Cn y 1)) (oV (EE 1 x y)) (Ab ?_) w).mono ?_
 ·unfold EE;cases No 1 y<;>rfl
 ·intro a w' h;exact A9.of h rfl (fun e he=>(DQ he).elim (fun h=>h ▸ mx) (fun h=>h ▸ my))
theorem AeL (x y:Ex)(w:Z)(mx:x.mem G w)(my:y.mem G w):jE j4 104 #[x.val,y.val] w (A9 G (JE x y) w):=by
 refine(AeH x.val y.val _ _ _ _ _ _ (Ab (Cn x 1)) (Ab (Cn y 1)) (Ab (Cn x 0)) (Ab (Dq y)) (Ab (Cn y 0)) (Ab (Dq x)) (oV (JE x y)) (Ab ?_) w).mono ?_
 ·unfold JE;cases No 1 x<;>cases No 1 y<;>cases No 0 x<;>cases No 0 y<;>cases Ao x<;>cases Ao y<;>rfl
 ·intro a w' h;exact A9.of h rfl (fun e he=>(JY he).elim (fun h=>h ▸ mx) (fun h=>h ▸ my))
theorem Xb (b:Bool)(a:Nat)(c:jJ)(x y:Ex)(w:Z)(d:Ag w a #[.bool b] c)(mx:x.mem G w)(my:y.mem G w):jE j4 142 #[x.val,y.val,jK (X ⟨a,0,T⟩)] w (A9 G (JC b x y) w):=by
 refine(AeI x.val y.val b a _ _ _ _ _ (Ab (Dp x b)) (Ab (Dp x (!b))) (Ab (Dp y b)) (Ab (Dp y (!b))) (Ab (Dq x)) (oV (JC b x y)) (Ab ?_) w c d).mono ?_
 ·unfold JC;cases isB b x<;>cases isB (!b) x<;>cases isB b y<;>cases isB (!b) y<;>cases Ao x<;>rfl
 ·intro f w' h;exact A9.of h rfl (fun e he=>(En he).elim (fun h=>h ▸ mx) (fun h=>h ▸ my))
theorem QV {x y:Ex}(h:sameL x y=jA){t:jJ}(hf:x.val=jB t u):∀w,(method 422 t u "loop.example/s01308/impl.place").run j4 w= .ok (230,U V x.lp) w:=by
 cases x with
 |attr i n=>cases hf;exact YL i n
 |lett i n=>cases hf;exact YM i n
 |_=>simp[sameL]at h
theorem QX {x:Ex}(h:GP x=jA){t:jJ}(hf:x.val=jB t u):∀w,(method 422 t u "loop.example/s01308/impl.place").run j4 w= .ok (230,U V x.lp) w:=by
 cases x with
 |set i a n c ss=>cases hf;exact AbG i a n c
 |_=>simp[GP]at h
theorem Acn (x y:Ex)(w:Z)(mx:x.mem G w)(my:y.mem G w):jE j4 101 #[x.val,y.val] w (A9 G (GF x y) w):=by
 obtain⟨t,u,hf⟩:=x.form;have h1:=BH x mx.ln;have h2:=Dq y;have h3:=FN x y;have hp:=fun h=>QV (y:=y) h hf;rw[hf]at h1 h3|-;refine(Acl t u y.val _ _ _ _ (Ab (BH y my.ln)) (Ab h1) (Ab h2) (Ab h3) x.lp (Ab hp) (oV (if GP y||(GP x&&Ao y)then X x else if sameL x y then X (.set x.lp T 0 0 [])else T)) (Ab ?_) w).mono ?_
 ·rw[<-hf];cases GP x<;>cases GP y<;>cases Ao y<;>cases sameL x y<;>rfl
 ·intro b w' h;refine A9.of h ?_ ?_
  ·unfold GF;cases GP x<;>cases GP y<;>cases Ao y<;>cases sameL x y<;>rfl
  ·intro e he;split at he
   ·cases he;exact mx
   ·split at he<;>cases he
    exact⟨⟨rfl,NLN,zD _,fun j a=>absurd a (Nat.not_lt_zero j),fun j a=>absurd a (Nat.not_lt_zero j)⟩,zD _,fun _ h=>nomatch h⟩
theorem Zb (x y:Ex)(w:Z)(mx:x.mem G w)(my:y.mem G w):jE j4 107 #[x.val,y.val] w (A9 G (if GP x&&Ao y then X (.bool 0 jA)else T) w):=by
 obtain⟨t,u,hf⟩:=x.form;have h1:=BH x mx.ln;have hp:=fun h=>QX (x:=x) h hf;rw[hf]at h1|-;refine(Za t u y.val _ _ (Ab h1) (Ab (Dq y)) x.lp (Ab hp) (oV (if GP x&&Ao y then X (.bool x.lp jA)else T)) (Ab ?_) w).mono ?_
 ·cases GP x<;>cases Ao y<;>rfl
 ·intro a w' h;refine A9.of h ?_ ?_
  ·cases GP x<;>cases Ao y<;>rfl
  ·intro e he;split at he<;>cases he
   trivial
theorem Aiu (x y:Ex)(w:Z)(mx:x.mem G w)(my:y.mem G w):jE j4 108 #[x.val,y.val] w (A9 G (inE x y) w):=by
 obtain⟨t,u,hf⟩:=y.form;have h1:=BH y my.ln;have hp:=fun h=>QX (x:=y) h hf;rw[hf]at h1|-;refine(Ait x.val t u _ _ (Ab h1) (Ab (Dq x)) y.lp (Ab hp) (oV (if GP y&&Ao x then X (.bool y.lp jC)else T)) (Ab ?_) w).mono ?_
 ·cases GP y<;>cases Ao x<;>rfl
 ·intro a w' h;refine A9.of h ?_ ?_
  ·unfold inE;cases GP y<;>cases Ao x<;>rfl
  ·intro e he;split at he<;>cases he
   trivial
theorem AeM (c:jJ)(d g:R)(b:Bool)(f:Nat)(l:Bool)(k:Hid (∀w,jE j4 145 #[jB c d,g] w (AJ l w)))(p:Int)(m:Hid (l=jA->∀w,(method 422 c d "loop.example/s01308/impl.place").run j4 w= .ok (230,U V p) w))(h:R)(i:Hid (h=if l then jB 177 (jG #[U V p,.bool b])else jL))(w:Z)(n:jJ)(o:Ag w f #[.bool b] n):
  jE j4 147 #[jB c d,g,jK (X ⟨f,0,T⟩)] w (Cy h w):=by
 have j:=Ji w;go_enter func147,ntmps147
 go_wp2_with fail
 refine(Aa k _).mono ?_;rintro t q ⟨rfl,r⟩;have a:=j.trans (r.mono j.size);cases l with
 |false=>
  dsimp only;go_wp2_with fail
  go_ret
  exact⟨congrArg jH (Aa i).symm,a⟩
 |true=>
  have hp:=Aa m (by first|rfl|trivial)
  have c1:q.cell? ⟨f,0,T⟩=X (.bool b):=(o.after a NLN).cell 0;have s:=Ab (fun w=>Ga p w);dsimp only;go_wp2_with fail
  go_quiet (first|(go_at_call 230;with_reducible refine Calls.quiet_of_same (Aa s _))|fail)
  go_wp2_with fail
  go_ret
  exact⟨congrArg jH (Aa i).symm,a.trans ((Cj _ _).mono a.size)⟩
theorem Xc (b:Bool)(a:Nat)(c:jJ)(x y:Ex)(w:Z)(d:Ag w a #[.bool b] c)(mx:x.mem G w)(my:y.mem G w):jE j4 147 #[x.val,y.val,jK (X ⟨a,0,T⟩)] w (A9 G (Em b x y) w):=by
 obtain⟨t,u,hf⟩:=x.form;have h3:=FN x y;have hp:=fun h=>QV (y:=y) h hf;rw[hf]at h3|-;refine(AeM t u y.val b a _ (Ab h3) x.lp (Ab hp) (oV (if sameL x y then X (.bool x.lp b)else T)) (Ab ?_) w c d).mono ?_
 ·cases sameL x y<;>rfl
 ·intro f w' h;refine A9.of h ?_ ?_
  ·unfold Em;cases sameL x y<;>rfl
  ·intro e he;split at he<;>cases he
   trivial
end
section
variable {G : Nat -> Prop}
theorem Zc (a:Option jD)(n c:Nat)(A:List Int)(s:Int)(w:Z)(h1:AK w a n c A):
  jE j4 172 #[Y a n c,U V s] w fun e w'=>(∃k:Int,e=jH (U V k)/\(0<=k↔s∈A))/\Ah w w':=by
 have s1:n<=9223372036854775807:=by have:=h1.small;omega
 have p:=Ab h1.len;go_enter func172,ntmps172
 go_wp2_with fail
 go_loopw [8] (fun i wr=>∃k:Nat,k<=n/\i=U V k/\Ah w wr/\Hid (∀j,j<k->(h:j<A.length)->A[j]≠s)) (fun i _=>n-(intOf i).toNat)
 case atStart=>exact⟨0,by omega,rfl,BRN,Ab (fun j h=>absurd h (by omega))⟩
 case round=>
  obtain⟨k,y,rfl,f,m⟩:=hrel;by_cases o:k<n
  ·have z:(k:Int)<(n:Int):=by omega
   have q:k<A.length:=by rw[Aa p];exact o
   obtain⟨b1,B,rfl,C,c1⟩:=(h1.below f NLN).cells k q;have g:=Ab (show A[k]=s->s∈A from fun e=>e ▸ zH q);have l:=Ab (show A[k]≠s->∀j,j<k+1->(h:j<A.length)->A[j]≠s from fun e j D h=>by
    by_cases u:j=k
    ·subst u;exact e
    ·exact Aa m j (by omega) h)
   have r:=Ab o;clear m o;generalize A[k]=x at c1 g l;by_cases b:x=s
   ·have v:(s==x)=jA:=zM.2 b.symm;have d:=Ab (Aa g b);clear b g l;go_wp2_with fail
    go_ret
    exact⟨⟨k,rfl,⟨fun _=>Aa d,fun _=>by omega⟩⟩,f⟩
   ·have v:(s==x)=jC:=zA.2 (fun h=>b h.symm);have d:=Ab (Aa l b);clear b g l;go_wp2_with fail
    go_roundw
    case rel=>exact⟨k+1,Aa r,by go_num,f,d⟩
    case measure=>have:=Aa r;simp[intOf];omega
  ·have e:k=n:=by omega
   subst e;have d:=Ab (show s ∉ A from fun h=>by
    obtain⟨j,t,e⟩:=zy h;exact Aa m j (by rw[<-Aa p];exact t) t e)
   go_wp2_with fail
   go_ret
   exact⟨⟨-1,rfl,⟨fun h=>absurd h (by decide),fun h=>absurd h (Aa d)⟩⟩,f⟩
theorem Kx (a:Option jD)(n c:Nat)(A:List Int)(s:Int)(w:Z)(h1:AK w a n c A):
  jE j4 141 #[Y a n c,U V s] w fun e w'=>e=jH (.bool (decide (s∈A)))/\Ah w w':=by
 go_enter func141,ntmps141
 go_wp2_with fail
 refine(Zc _ _ _ A s _ h1).mono ?_;rintro i j ⟨⟨k,rfl,d⟩,f⟩;have g:=Ab d;clear d;by_cases h0: 0<=k
 ·have b:=Ab (zL ((Aa g).1 h0));dsimp only;go_wp2_with fail
  go_ret
  exact⟨by rw[Aa b];rfl,f⟩
 ·have b:=Ab (zJ (fun h=>h0 ((Aa g).2 h)));dsimp only;go_wp2_with fail
  go_ret
  exact⟨by rw[Aa b];rfl,f⟩
structure OtM (w:Z) (ob fb:Nat) (ops:List Int) (F:FuncId) (caps:Array R):Prop where
 o:∃a n c t,Ag w ob #[Y a n c] t/\AK w a n c ops
 f:∃t,Ag w fb #[.func (.func F) #[] caps] t
theorem OtM.below {w w':Z}{B d f:Nat}{ops:List Int}{F:FuncId}{g:Array R}(h:OtM w d f ops F g)(b:Below B w w')(hB:w.heap.size<=B):OtM w' d f ops F g:=by
 obtain⟨⟨a,n,c,t,h1,h2⟩,i,h3⟩:=h;exact⟨⟨a,n,c,t,h1.after b hB,h2.below b hB⟩,i,h3.after b hB⟩
theorem QY (hS:S≠168)(v:R)(a b:Nat)(w:Z):jE j4 140 #[jB S v,jK (X ⟨a,0,none⟩),jK (X ⟨b,0,none⟩)] w (Cy jL w):=by
 have d:=A8 (S:=S) (T:=168) underlying168 zeroValue168 hS 106;have c:=Av w (jF #[U V 0,U V 0,jL,jL] 168);clear hS;go_enter func140,ntmps140
 go_wp2_with fail
 go_ret
 exact⟨rfl,c⟩
theorem Mo {a d f:Value}{t:jJ}(R:Ag w b #[a,c,d,f] t):w.cell? ⟨b,0,T⟩=X a/\w.cell? ⟨b,1,T⟩=X c/\w.cell? ⟨b,2,T⟩=X d/\w.cell? ⟨b,3,T⟩=X f:=⟨R.cell 0,R.cell 1,R.cell 2,R.cell 3⟩
theorem Zd (i op:Int)(g:jJ)(h:R)(j:jJ)(k:R)(p q:Nat)(ops:List Int)(F:FuncId)(w:Z)(M:OtM w p q ops F #[])(P:R->Z->Prop)(t:Hid (∀args w,(callFunc F args).run j4 w= .ok (.enter F args) w))
  (u:Hid (∀m,Ah w m->jE j4 F #[jB g h,jB j k] m fun d w'=>(∃v,d=jH v/\P v w')/\Ah m w')):
  jE j4 140 #[(jB 168 (jG #[U V i,U V op,jB g h,jB j k])),jK (X ⟨p,0,none⟩),jK (X ⟨q,0,none⟩)] w fun d w'=>(∃v,d=jH v/\((op∈ops/\P v w')\/(op ∉ ops/\v=jL)))/\Ah w w':=by
 have D:=De (T:=168) underlying168 106;have l:=Av w (jF #[U V i,U V op,jB g h,jB j k] 168);have r:=Ag.new w #[U V i,U V op,jB g h,jB j k] 168;obtain⟨⟨a,n,c,to,h1,h2⟩,E,h3⟩:=M;have x:=Ab (Kx a n c ops op _ (h2.below l NLN));have y:=(h1.after l NLN).cell 0;obtain⟨z,A,r2,r3⟩:=Mo r;go_enter func140,ntmps140
 go_wp2_with fail
 refine(Aa x).mono ?_;rintro d G ⟨rfl,s⟩;have f:=l.trans (s.mono l.size);have H:=(h3.after f NLN).cell 0;obtain⟨I,J,K,L⟩:=Mo (r.after s NLN);clear y z A r2 r3;by_cases b:op∈ops
 ·rw[zL b];have o:=Ab b;clear b;dsimp only;go_wp2_with fail
  rw[Aa t,Oper.upon_enter];refine(Aa u _ f).mono ?_;rintro d N ⟨⟨v,rfl,hv⟩,B⟩;have C:=Ab hv;clear hv;dsimp only;go_wp2_with fail
  go_ret
  exact⟨⟨v,rfl,.inl ⟨Aa o,Aa C⟩⟩,f.trans (B.mono f.size)⟩
 ·rw[zJ b];have o:=Ab b;clear b;dsimp only;go_wp2_with fail
  go_ret
  exact⟨⟨_,rfl,.inr ⟨Aa o,rfl⟩⟩,f⟩
theorem Ze (i op:Int)(g:jJ)(h:R)(j:jJ)(k:R)(p q:Nat)(ops:List Int)(F:FuncId)(r:Nat)(w:Z)(M:OtM w p q ops F #[jK (X ⟨r,0,none⟩)])(P:R->Z->Prop)(u:Hid (∀args w,(callFunc F args).run j4 w= .ok (.enter F args) w))
  (x:Hid (∀m,Ah w m->jE j4 F #[jB g h,jB j k,jK (X ⟨r,0,none⟩)] m fun d w'=>(∃v,d=jH v/\P v w')/\Ah m w')):
  jE j4 140 #[(jB 168 (jG #[U V i,U V op,jB g h,jB j k])),jK (X ⟨p,0,none⟩),jK (X ⟨q,0,none⟩)] w fun d w'=>(∃v,d=jH v/\((op∈ops/\P v w')\/(op ∉ ops/\v=jL)))/\Ah w w':=by
 have E:=De (T:=168) underlying168 106;have l:=Av w (jF #[U V i,U V op,jB g h,jB j k] 168);have s:=Ag.new w #[U V i,U V op,jB g h,jB j k] 168;obtain⟨⟨a,n,c,to,h1,h2⟩,G,h3⟩:=M;have y:=Ab (Kx a n c ops op _ (h2.below l NLN));have z:=(h1.after l NLN).cell 0;obtain⟨A,B,r2,r3⟩:=Mo s;go_enter func140,ntmps140
 go_wp2_with fail
 refine(Aa y).mono ?_;rintro d H ⟨rfl,t⟩;have f:=l.trans (t.mono l.size);have I:=(h3.after f NLN).cell 0;obtain⟨J,K,L,N⟩:=Mo (s.after t NLN);clear z A B r2 r3;by_cases b:op∈ops
 ·rw[zL b];have o:=Ab b;clear b;dsimp only;go_wp2_with fail
  rw[Aa u,Oper.upon_enter];refine(Aa x _ f).mono ?_;rintro d O ⟨⟨v,rfl,hv⟩,C⟩;have D:=Ab hv;clear hv;dsimp only;go_wp2_with fail
  go_ret
  exact⟨⟨v,rfl,.inl ⟨Aa o,Aa D⟩⟩,f.trans (C.mono f.size)⟩
 ·rw[zJ b];have o:=Ab b;clear b;dsimp only;go_wp2_with fail
  go_ret
  exact⟨⟨_,rfl,.inr ⟨Aa o,rfl⟩⟩,f⟩
end
section
variable {G : Nat -> Prop}
theorem AeN (hS:S≠166)(v:R)(w:Z):jE j4 98 #[jB S v] w (Cy jL w):=by
 have b:=A8 (S:=S) (T:=166) underlying166 zeroValue166 hS 106;have a:=Av w (jF #[U V 0,U V 0,jL] 166);clear hS;go_enter func98,ntmps98
 go_wp2_with fail
 go_ret
 exact⟨rfl,a⟩
theorem Aiv (i op:Int)(t:jJ)(u:R)(h:op≠9)(w:Z):jE j4 98 #[jB 166 (jG #[U V i,U V op,jB t u])] w (Cy jL w):=by
 have b:=De (T:=166) underlying166 106;have a:=Av w (jF #[U V i,U V op,jB t u] 166);have c:(op !=9)=jA:=zc.2 h;clear h;go_enter func98,ntmps98
 go_wp2_with fail
 go_ret
 exact⟨rfl,a⟩
theorem Ag6 (hS:S≠166)(i:Int)(v:R)(w:Z):jE j4 98 #[jB 166 (jG #[U V i,U V 9,jB S v])] w (Cy jL w):=by
 have c:=De (T:=166) underlying166 106;have a1:=A8 (S:=S) (T:=166) underlying166 zeroValue166 hS 106;have a:=Av w (jF #[U V i,U V 9,jB S v] 166);have b:=a.alloc a.size (jF #[U V 0,U V 0,jL] 166);clear hS;go_enter func98,ntmps98
 go_wp2_with fail
 go_ret
 exact⟨rfl,b⟩
theorem Ag7 (i j op:Int)(t:jJ)(u:R)(a:R)(b:Hid (a=if op=9 then jB t u else jL))(w:Z):jE j4 98 #[jB 166 (jG #[U V i,U V 9,jB 166 (jG #[U V j,U V op,jB t u])])] w (Cy a w):=by
 have g:=De (T:=166) underlying166 106;have c:=Av w (jF #[U V i,U V 9,jB 166 (jG #[U V j,U V op,jB t u])] 166);have d:=c.alloc c.size (jF #[U V j,U V op,jB t u] 166);by_cases h:op=9
 ·subst h;go_enter func98,ntmps98
  go_wp2_with fail
  go_ret
  exact⟨congrArg jH (Aa b).symm,d⟩
 ·have k:(op !=9)=jA:=zc.2 h;have f:=Ab ((Aa b).trans (if_neg h));clear h;go_enter func98,ntmps98
  go_wp2_with fail
  go_ret
  exact⟨congrArg jH (Aa f).symm,d⟩
def Vh:Ex->Option Ex
 |.un _ op k=>if op=9 then Np k else T
 |_=>T
theorem Aiw (e:Ex)(w:Z)(m:e.mem G w):jE j4 98 #[e.val] w (A9 G (Vh e) w):=by
 have b:jE j4 98 #[e.val] w (Cy (oV (Vh e)) w):=by
  cases e with
  |un i op k=>
   by_cases h:op=9
   ·subst h;cases k with
    |un j a l=>
     obtain⟨t,u,hf⟩:=l.form;simp only[Ex.val,hf];refine Ag7 i j a t u _ (Ab ?_) w;simp only[Vh,Np];by_cases h:a=9
     ·rw[if_pos h,if_pos h];exact hf
     ·rw[if_neg h,if_neg h];rfl
    |_=>exact Ag6 (by decide) _ _ _
   ·obtain⟨t,u,hf⟩:=k.form;simp only[Ex.val,hf];rw[show Vh (.un i op k)=T from if_neg h];exact Aiv i op t u h w
  |_=>exact AeN (by decide) _ _
 refine b.mono fun c w' h=>A9.of h rfl fun x hx=>?_;cases e with
 |un i op k=>
  simp only[Vh]at hx;split at hx
  ·cases k with
   |un j a l=>
    simp only[Np]at hx;split at hx<;>cases hx
    exact m
   |_=>cases hx
  ·cases hx
 |_=>cases hx
theorem Zf (h:S≠249)(a:jJ)(v:R)(w:Z):(ji (jB S v) a 249 jA).run j4 w= .ok (jO #[U V 0,.bool jC]) w:=by simp[ji,jl underlying249,zeroValue249,h]
theorem AaZ (h:S≠250)(a:jJ)(v:R)(w:Z):(ji (jB S v) a 250 jA).run j4 w= .ok (jO #[Q ⟨#[]⟩,.bool jC]) w:=by simp[ji,jl underlying250,zeroValue250,h]
theorem Ag8 (h:S≠251)(a:jJ)(v:R)(w:Z):(ji (jB S v) a 251 jA).run j4 w= .ok (jO #[.bool jC,.bool jC]) w:=by simp[ji,jl underlying251,zeroValue251,h]
theorem QZ (n:Int)(i:Int)(w:Z):jE j4 139 #[jB 249 (U V n),U V i] w fun a w'=>a=jH (jB 220 (jG #[U V i,U V n]))/\w'=w:=by
 have b:=Adj;go_enter func139,ntmps139
 go_wp2_with fail
 go_ret
 exact⟨rfl,rfl⟩
theorem Pi (s:ByteArray)(i:Int)(w:Z):jE j4 139 #[jB 250 (Q s),U V i] w fun a w'=>a=jH (jB 222 (jG #[U V i,Q s]))/\w'=w:=by
 have b:=Zf (S:=250) (by decide);have a1:=Aan;go_enter func139,ntmps139
 go_wp2_with fail
 go_ret
 exact⟨rfl,rfl⟩
theorem Pj (b:Bool)(i:Int)(w:Z):jE j4 139 #[jB 251 (.bool b),U V i] w fun a w'=>a=jH (jB 177 (jG #[U V i,.bool b]))/\w'=w:=by
 have c:=Zf (S:=251) (by decide);have a1:=AaZ (S:=251) (by decide);have a2:=Aam;go_enter func139,ntmps139
 go_wp2_with fail
 go_ret
 exact⟨rfl,rfl⟩
theorem Q6 (a:Option jD)(n c:Nat)(i:Int)(w:Z):jE j4 139 #[jB 252 (Y a n c),U V i] w fun b w'=>b=jH (jB 218 (jG #[U V i,Y a n c]))/\w'=w:=by
 have d:=Zf (S:=252) (by decide);have a1:=AaZ (S:=252) (by decide);have a2:=Ag8 (S:=252) (by decide);have a3:=Adl;go_enter func139,ntmps139
 go_wp2_with fail
 go_ret
 exact⟨rfl,rfl⟩
theorem Gh (x:R)(v:Vv)(i:Int)(w:Z)(h:VIs G w x v):jE j4 139 #[x,U V i] w fun f w'=>(∃e:Ex,e.st=v.ex.st/\f=jH e.val/\e.mem G w')/\w'=w:=by
 cases v with
 |bool b=>cases h;exact(Pj b i w).mono fun f w' h=>⟨⟨.bool i b,rfl,h.1,trivial⟩,h.2⟩
 |int n=>obtain⟨rfl,h⟩:=h;exact(QZ n i w).mono fun f w' d=>⟨⟨.int i n,rfl,d.1,h⟩,d.2⟩
 |text s=>cases h;exact(Pi s i w).mono fun f w' h=>⟨⟨.text i s,rfl,h.1,trivial⟩,h.2⟩
 |set ss=>
  obtain⟨a,n,c,rfl,h⟩:=h;exact(Q6 a n c i w).mono fun f w' d=>⟨⟨.set i a n c ss,rfl,d.1,by rw[d.2];exact h⟩,d.2⟩
end
section
variable {aS aO aZ aW : jD} {G : Nat -> Prop}
abbrev TT:Nat->Prop:=fun _=>True
def Ev0 (W:Z) (eb:Nat):Prop:=Ag W eb #[Q ⟨#[]⟩,Q ⟨#[]⟩,U V 0,U V 0,Y T 0 0,Y T 0 0,Y T 0 0] 204
def CvV (G:Nat->Prop) (aS aO aZ aW:jD) (w0:Z) (vx:R) (o:Ev):Prop:=∀W eb,Ah w0 W->Ev0 W eb->jE j4 138 #[jK (X ⟨eb,0,T⟩),vx] W (OL G aS aO aZ aW o W)
theorem Xd (w0:Z)(c:∀b,w0.heap.size<=b->G b)(hS:CZ w0 aS aO aZ aW)(e:Ex)(he:e.typed)(hc:e.cst)(t:Int)(d:Al [] e=X t)(m:e.mem G w0):CvV G aS aO aZ aW w0 e.val (DI Sw [] e):=fun f g a R=>
 EH g Sw e he hc t d f ⟨fun b h=>c b (zB a.size h),hS.below a NLN,e.mem_below a NLN m⟩
theorem Xe (w0:Z)(d:∀b,w0.heap.size<=b->G b)(hS:CZ w0 aS aO aZ aW)(e:Ex)(v:Vv)(hv:e.cv=X v)(m:e.mem G w0):CvV G aS aO aZ aW w0 e.val (.ok v):=by
 have h:=fun he hc t f=>Xd w0 d hS e he hc t f m;cases e with
 |int i n=>cases hv;exact h trivial trivial _ rfl
 |text i n=>cases hv;exact h trivial trivial _ rfl
 |bool i n=>cases hv;exact h trivial trivial _ rfl
 |set i a n c ss=>cases hv;exact h trivial trivial _ rfl
 |_=>cases hv
theorem AeO (b c:R)(w:Z)(m:Hid (∀w,jE j4 137 #[b] w (AJ jA w)))(n:Hid (∀w,jE j4 137 #[c] w (AJ jA w)))(x y:Bool)(o:Hid (CvV G aS aO aZ aW w b (.ok (.bool x))))(p:Hid (CvV G aS aO aZ aW w c (.ok (.bool y)))):
  jE j4 143 #[b,c] w (AJ (Dj (.bool x) (.bool y)) w):=by
 have g:=Ji w;go_enter func143,ntmps143
 go_wp2_with fail
 refine(Aa m _).mono ?_;rintro a A ⟨rfl,q⟩;have h:=g.trans (q.mono g.size);dsimp only;go_wp2_with fail
 refine(Aa n _).mono ?_;rintro a r ⟨rfl,s⟩;have i:=h.trans (s.mono h.size);have d:=i.alloc i.size (jF #[Q ⟨#[]⟩,Q ⟨#[]⟩,U V 0,U V 0,Y T 0 0,Y T 0 0,Y T 0 0] 204);have j:=Ag.new r #[Q ⟨#[]⟩,Q ⟨#[]⟩,U V 0,U V 0,Y T 0 0,Y T 0 0,Y T 0 0] 204;dsimp only;go_wp2_with fail
 refine(Aa o _ _ d j).mono ?_;rintro a B ⟨⟨X,rfl,hx⟩,k⟩;obtain rfl:=hx;have f:=d.trans (k.mono d.size);have t:=j.after k NLN;dsimp only;go_wp2_with fail
 refine(Aa p _ _ f t).mono ?_;rintro a C ⟨⟨D,rfl,hy⟩,u⟩;obtain rfl:=hy;have l:=f.trans (u.mono f.size);have E:=Aao x;dsimp only;go_wp2_with fail
 refine(SW x y _).mono ?_;rintro a F ⟨rfl,v⟩;have z:=l.trans (v.mono l.size);dsimp only;go_wp2_with fail
 go_ret
 exact⟨rfl,z⟩
theorem Ag9 (b c:R)(w:Z)(m:Hid (∀w,jE j4 137 #[b] w (AJ jA w)))(n:Hid (∀w,jE j4 137 #[c] w (AJ jA w)))(x y:Int)(o:Hid (CvV G aS aO aZ aW w b (.ok (.int x))))(p:Hid (CvV G aS aO aZ aW w c (.ok (.int y)))):
  jE j4 143 #[b,c] w (AJ (Dj (.int x) (.int y)) w):=by
 have g:=Ji w;go_enter func143,ntmps143
 go_wp2_with fail
 refine(Aa m _).mono ?_;rintro a A ⟨rfl,q⟩;have h:=g.trans (q.mono g.size);dsimp only;go_wp2_with fail
 refine(Aa n _).mono ?_;rintro a r ⟨rfl,s⟩;have i:=h.trans (s.mono h.size);have d:=i.alloc i.size (jF #[Q ⟨#[]⟩,Q ⟨#[]⟩,U V 0,U V 0,Y T 0 0,Y T 0 0,Y T 0 0] 204);have j:=Ag.new r #[Q ⟨#[]⟩,Q ⟨#[]⟩,U V 0,U V 0,Y T 0 0,Y T 0 0,Y T 0 0] 204;dsimp only;go_wp2_with fail
 refine(Aa o _ _ d j).mono ?_;rintro a B ⟨⟨X,rfl,hx⟩,k⟩;obtain⟨rfl,C⟩:=hx;have f:=d.trans (k.mono d.size);have t:=j.after k NLN;dsimp only;go_wp2_with fail
 refine(Aa p _ _ f t).mono ?_;rintro a D ⟨⟨E,rfl,hy⟩,u⟩;obtain⟨rfl,F⟩:=hy;have l:=f.trans (u.mono f.size);have H:=Ado x;dsimp only;go_wp2_with fail
 refine(SY x y _).mono ?_;rintro a I ⟨rfl,v⟩;have z:=l.trans (v.mono l.size);dsimp only;go_wp2_with fail
 go_ret
 exact⟨rfl,z⟩
theorem AeP (b c:R)(w:Z)(m:Hid (∀w,jE j4 137 #[b] w (AJ jA w)))(n:Hid (∀w,jE j4 137 #[c] w (AJ jA w)))(x y:ByteArray)(o:Hid (CvV G aS aO aZ aW w b (.ok (.text x))))(p:Hid (CvV G aS aO aZ aW w c (.ok (.text y)))):
  jE j4 143 #[b,c] w (AJ (Dj (.text x) (.text y)) w):=by
 have g:=Ji w;go_enter func143,ntmps143
 go_wp2_with fail
 refine(Aa m _).mono ?_;rintro a A ⟨rfl,q⟩;have h:=g.trans (q.mono g.size);dsimp only;go_wp2_with fail
 refine(Aa n _).mono ?_;rintro a r ⟨rfl,s⟩;have i:=h.trans (s.mono h.size);have d:=i.alloc i.size (jF #[Q ⟨#[]⟩,Q ⟨#[]⟩,U V 0,U V 0,Y T 0 0,Y T 0 0,Y T 0 0] 204);have j:=Ag.new r #[Q ⟨#[]⟩,Q ⟨#[]⟩,U V 0,U V 0,Y T 0 0,Y T 0 0,Y T 0 0] 204;dsimp only;go_wp2_with fail
 refine(Aa o _ _ d j).mono ?_;rintro a B ⟨⟨X,rfl,hx⟩,k⟩;obtain rfl:=hx;have f:=d.trans (k.mono d.size);have t:=j.after k NLN;dsimp only;go_wp2_with fail
 refine(Aa p _ _ f t).mono ?_;rintro a C ⟨⟨D,rfl,hy⟩,u⟩;obtain rfl:=hy;have l:=f.trans (u.mono f.size);have E:=Aap x;dsimp only;go_wp2_with fail
 refine(SZ x y _).mono ?_;rintro a F ⟨rfl,v⟩;have z:=l.trans (v.mono l.size);dsimp only;go_wp2_with fail
 go_ret
 exact⟨rfl,z⟩
theorem Aha (b c:R)(w:Z)(n:Hid (∀w,jE j4 137 #[b] w (AJ jA w)))(o:Hid (∀w,jE j4 137 #[c] w (AJ jA w)))(x y:List ByteArray)(p:Hid (CvV G aS aO aZ aW w b (.ok (.set x))))(q:Hid (CvV G aS aO aZ aW w c (.ok (.set y)))):
  jE j4 143 #[b,c] w (AJ (Dj (.set x) (.set y)) w):=by
 have g:=Ji w;go_enter func143,ntmps143
 go_wp2_with fail
 refine(Aa n _).mono ?_;rintro a C ⟨rfl,r⟩;have h:=g.trans (r.mono g.size);dsimp only;go_wp2_with fail
 refine(Aa o _).mono ?_;rintro a s ⟨rfl,t⟩;have i:=h.trans (t.mono h.size);have d:=i.alloc i.size (jF #[Q ⟨#[]⟩,Q ⟨#[]⟩,U V 0,U V 0,Y T 0 0,Y T 0 0,Y T 0 0] 204);have j:=Ag.new s #[Q ⟨#[]⟩,Q ⟨#[]⟩,U V 0,U V 0,Y T 0 0,Y T 0 0,Y T 0 0] 204;dsimp only;go_wp2_with fail
 refine(Aa p _ _ d j).mono ?_;rintro a D ⟨⟨X,rfl,hx⟩,k⟩;obtain⟨a1,n1,c1,rfl,u,E,_⟩:=hx;have f:=d.trans (k.mono d.size);have v:=j.after k NLN;dsimp only;go_wp2_with fail
 refine(Aa q _ _ f v).mono ?_;rintro a F ⟨⟨H,rfl,hy⟩,l⟩;obtain⟨a2,n2,c2,rfl,z,I,_⟩:=hy;have m:=f.trans (l.mono f.size);have J:=Adp a1 n1 c1;dsimp only;go_wp2_with fail
 refine(S4 a1 n1 c1 x a2 n2 c2 y _ (u.below l NLN) z).mono ?_;rintro a K ⟨rfl,A⟩;have B:=m.trans (A.mono m.size);dsimp only;go_wp2_with fail
 go_ret
 exact⟨rfl,B⟩
theorem Ahb (d f:R)(w:Z)(a b:Bool)(i:Hid (∀w,jE j4 137 #[d] w (AJ a w)))(j:Hid (∀w,jE j4 137 #[f] w (AJ b w)))(hc:(a&&b)=jC):
  jE j4 143 #[d,f] w (AJ jC w):=by
 have g:=Ji w;have h:=Ab hc;clear hc;go_enter func143,ntmps143
 go_wp2_with fail
 refine(Aa i _).mono ?_;rintro k o ⟨rfl,l⟩;have c:=g.trans (l.mono g.size);cases a with
 |false=>
  dsimp only;go_wp2_with fail
  go_ret
  exact⟨rfl,c⟩
 |true=>
  have hy:b=jC:=by simpa using Aa h
  clear h;subst hy;dsimp only;go_wp2_with fail
  refine(Aa j _).mono ?_;rintro k p ⟨rfl,m⟩;have n:=c.trans (m.mono c.size);dsimp only;go_wp2_with fail
  go_ret
  exact⟨rfl,n⟩
theorem Q7 {e:Ex}(h:e.con=jA):∃v,e.cv=X v:=Option.isSome_iff_exists.1 h
def AjB (x y:Ex):Prop:=∀v u,x.cv=X v->y.cv=X u->v.ty=u.ty
theorem Aco {x y:Ex}{v u:Vv}(hx:x.cv=X v)(hy:y.cv=X u):Ol x y=Dj v u:=by
 rw[Ol,Ex.con,hx,hy,Dj];simp
theorem Ahc (x y:Ex)(w:Z)(c:∀b,w.heap.size<=b->G b)(hS:CZ w aS aO aZ aW)(mx:x.mem G w)(my:y.mem G w)(g:AjB x y):jE j4 143 #[x.val,y.val] w (AJ (Ol x y) w):=by
 have hx:=Bz x;have hy:=Bz y;by_cases hc:(x.con&&y.con)=jA
 ·rw[zF]at hc;obtain⟨v,hv⟩:=Q7 hc.1;obtain⟨u,a⟩:=Q7 hc.2;have h1:=Xe w c hS x v hv mx;have h2:=Xe w c hS y u a my;have h:=g v u hv a;rw[hc.1]at hx;rw[hc.2]at hy;rw[Aco hv a];cases v<;>cases u<;>first|(simp[Vv.ty]at h;done)|exact AeO _ _ w (Ab hx) (Ab hy) _ _ (Ab h1) (Ab h2)|exact Ag9 _ _ w (Ab hx) (Ab hy) _ _ (Ab h1) (Ab h2)|exact AeP _ _ w (Ab hx) (Ab hy) _ _ (Ab h1) (Ab h2)|exact Aha _ _ w (Ab hx) (Ab hy) _ _ (Ab h1) (Ab h2)
 ·have hf:(x.con&&y.con)=jC:=by simpa using hc
  have he:Ol x y=jC:=by
   unfold Ol;cases d:x.con with
   |false=>rfl
   |true=>
    rw[d]at hf;have f:y.con=jC:=hf;have h1:y.cv=T:=by unfold Ex.con at f;simpa using f
    obtain⟨v,hv⟩:=Q7 d;rw[h1,hv];simp
  rw[he];exact Ahb _ _ w _ _ (Ab hx) (Ab hy) hf
end
section
variable {aS aO aZ aW : jD} {G : Nat -> Prop}
theorem UQ (hS:S≠213)(v:R)(w:Z):jE j4 97 #[jB S v] w (Cy jL w):=by
 have b:=A8 (S:=S) (T:=213) underlying213 zeroValue213 hS 106;have a:=Av w (jF #[U V 0,jL,jL,jL] 213);clear hS;go_enter func97,ntmps97
 go_wp2_with fail
 go_ret
 exact⟨rfl,a⟩
theorem Xf (i:Int)(c:jJ)(d:R)(f:jJ)(g:R)(h:jJ)(j:R)(w:Z)(m n q s:Bool)
  (G:Hid (∀w,jE j4 68 #[jB c d,.bool jA] w (AJ m w)))(H:Hid (∀w,jE j4 68 #[jB c d,.bool jC] w (AJ n w)))
  (I:Hid (∀o,Ah w o->jE j4 143 #[jB f g,jB h j] o (AJ q o)))(J:Hid (∀w,jE j4 63 #[jB c d] w (AJ s w)))
  (u:R)(k:Hid (u=if m then jB f g else if n then jB h j else if q&&s then jB f g else jL)):
  jE j4 97 #[jB 213 (jG #[U V i,jB c d,jB f g,jB h j])] w (Cy u w):=by
 have L:=De (T:=213) underlying213 106;have v:=Av w (jF #[U V i,jB c d,jB f g,jB h j] 213);have x:=Ag.new w #[U V i,jB c d,jB f g,jB h j] 213;obtain⟨a,b,r2,r3⟩:=Mo x;go_enter func97,ntmps97
 go_wp2_with fail
 refine(Aa G _).mono ?_;rintro p M ⟨rfl,y⟩;have r:=v.trans (y.mono v.size);have z:=x.after y NLN;clear a b r2 r3;obtain⟨a,b,r2,r3⟩:=Mo z;cases m with
 |true=>
  dsimp only;go_wp2_with fail
  go_ret
  exact⟨congrArg jH (Aa k).symm,r⟩
 |false=>
  dsimp only;go_wp2_with fail
  refine(Aa H _).mono ?_;rintro p N ⟨rfl,A⟩;have l:=r.trans (A.mono r.size);have B:=z.after A NLN;clear a b r2 r3;obtain⟨a,b,r2,r3⟩:=Mo B;cases n with
  |true=>
   dsimp only;go_wp2_with fail
   go_ret
   exact⟨congrArg jH (Aa k).symm,l⟩
  |false=>
   dsimp only;go_wp2_with fail
   refine(Aa I _ l).mono ?_;rintro p O ⟨rfl,C⟩;have t:=l.trans (C.mono l.size);have D:=B.after C NLN;clear a b r2 r3;obtain⟨a,b,r2,r3⟩:=Mo D;cases q with
   |false=>
    dsimp only;go_wp2_with fail
    go_ret
    exact⟨congrArg jH (Aa k).symm,t⟩
   |true=>
    dsimp only;go_wp2_with fail
    refine(Aa J _).mono ?_;rintro p P ⟨rfl,E⟩;have F:=t.trans (E.mono t.size);have K:=D.after E NLN;clear a b r2 r3;obtain⟨a,b,r2,r3⟩:=Mo K;cases s with
    |false=>
     dsimp only;go_wp2_with fail
     go_ret
     exact⟨congrArg jH (Aa k).symm,F⟩
    |true=>
     dsimp only;go_wp2_with fail
     go_ret
     exact⟨congrArg jH (Aa k).symm,F⟩
noncomputable def I9:Ex->Option Ex
 |.ite _ c t e=>if isB jA c then X t else if isB jC c then X e else if Ol t e&&Ao c then X t else T
 |_=>T
def AjC:Ex->Prop
 |.ite _ _ t e=>AjB t e
 |_=>True
theorem Xg (e:Ex)(w:Z)(k:∀b,w.heap.size<=b->G b)(hS:CZ w aS aO aZ aW)(m:e.mem G w)(l:AjC e):jE j4 97 #[e.val] w (A9 G (I9 e) w):=by
 have n:jE j4 97 #[e.val] w (Cy (oV (I9 e)) w):=by
  cases e with
  |ite i c x y=>
   obtain⟨o,p,j⟩:=c.form;obtain⟨q,r,f⟩:=x.form;obtain⟨s,t,g⟩:=y.form;have h1:=Dp c jA;have h2:=Dp c jC;have h3:=Dq c;have h4:∀a,Ah w a->jE j4 143 #[x.val,y.val] a (AJ (Ol x y) a):=fun a d=>Ahc x y a (fun b h=>k b (zB d.size h)) (hS.below d NLN) (x.mem_below d NLN m.2.1) (y.mem_below d NLN m.2.2) l;rw[j]at h1 h2 h3;rw[f,g]at h4;simp only[Ex.val,j,f,g];refine Xf i o p q r s t w _ _ _ _ (Ab h1) (Ab h2) (Ab h4) (Ab h3) _ (Ab ?_);rw[<-f,<-g,I9];cases isB jA c<;>cases isB jC c<;>cases Ol x y<;>cases Ao c<;>rfl
  |_=>exact UQ (by decide) _ _
 refine n.mono fun u w' h=>A9.of h rfl fun x hx=>?_;cases e with
 |ite i c y z=>
  simp only[I9]at hx
  repeat' split at hx
  all_goals first|(cases hx;first|exact m.2.1|exact m.2.2)|cases hx
 |_=>cases hx
end
section
variable {aS aO aZ aW : jD} {G : Nat -> Prop}
theorem Zg {T:jJ}{v:R}(b:∀w,(method 422 T v "loop.example/s01308/impl.kids").run j4 w= .ok (229,U V i) w)(w:Z):jE j4 94 #[jB T v] w (Cy jL w):=by
 go_enter func94,ntmps94
 go_wp2_with fail
 refine(JW i _).mono ?_;rintro c d ⟨rfl,a⟩;rw[a];clear a;dsimp only;go_wp2_with fail
 go_ret
 exact⟨rfl,BRN⟩
theorem AeQ (i op:Int)(a:jJ)(b:R)(w:Z)(b1:Bool)
  (u:Hid (∀w,jE j4 137 #[jB a b] w (AJ b1 w)))(j:Ev)
  (y:Hid ((b1)=jA->CvV G aS aO aZ aW w (jB 166 (jG #[U V i,U V op,jB a b])) j))(o:Option Ex)(k:Hid (o=if b1 then (match j with| .ok v=>X v.ex| .err _=>T)else T)):
  jE j4 94 #[(jB 166 (jG #[U V i,U V op,jB a b]))] w (A9 G o w):=by
 have N:=Aay i op a b;have z:=Ab (KU i op a b);have hp:=AdG i op a b;have A:=Ab (Of i op a b);have p:=Ji w;go_enter func94,ntmps94
 go_wp2_with fail
 refine(Aa z _).mono ?_;rintro d q ⟨g,rfl,hg,B,C⟩;have f:=p.trans (C.mono p.size);have l:=Ji q;dsimp only;go_wp2_with fail
 refine jv 2 ?_;rw[je];have c1:q.cell? ⟨g,0,T⟩=X (jB a b):=(B.after l NLN).cell 0;go_wp2_with fail
 refine(Aa u _).mono ?_;rintro d D ⟨rfl,E⟩;have r:=l.trans (E.mono l.size);clear c1;cases b1 with
 |false=>
  dsimp only;go_wp2_with fail
  go_ret
  exact⟨T,by rw[Aa k];rfl,rfl,(fun e h=>by cases h),f.trans (r.mono f.size)⟩
 |true=>
  dsimp only;go_wp2_with fail
  rw[je];have s:=f.trans (r.mono f.size);have m:=s.alloc s.size (jF #[Q ⟨#[]⟩,Q ⟨#[]⟩,U V 0,U V 0,Y T 0 0,Y T 0 0,Y T 0 0] 204);have F:=Ag.new D #[Q ⟨#[]⟩,Q ⟨#[]⟩,U V 0,U V 0,Y T 0 0,Y T 0 0,Y T 0 0] 204;go_wp2_with fail
  refine(Aa y (by first|rfl|trivial) _ _ m F).mono ?_
  rintro d O ⟨hv,H⟩;have n:=m.trans (H.mono m.size);cases j with
  |err c=>
   obtain⟨x,e,rfl,he⟩:=hv;obtain⟨P,rfl⟩:=he.form;dsimp only;go_wp2_with fail
   go_ret
   exact⟨T,by rw[Aa k];rfl,rfl,(fun e h=>by cases h),n⟩
  |ok v=>
   obtain⟨x,rfl,hx⟩:=hv;have I:=Ab hx;clear hx;dsimp only;go_wp2_with fail
   refine(Aa A _).mono ?_;rintro d S ⟨rfl,t⟩;have J:=n.trans (t.mono n.size);dsimp only;go_wp2_with fail
   refine(Gh x v i _ ((Aa I).below t NLN)).mono ?_;rintro d wc ⟨⟨e,he,rfl,me⟩,K⟩;subst K;have L:=Ab me;have M:=Ab he;clear me he;dsimp only;go_wp2_with fail
   go_ret
   exact⟨X e,by rw[Aa k];exact congrArg X (Aa M),rfl,(fun e' h=>by cases h;exact Aa L),J⟩
theorem Acp (i op:Int)(a:jJ)(b:R)(d:jJ)(f:R)(w:Z)(b1 b2:Bool)
  (B:Hid (∀w,jE j4 137 #[jB a b] w (AJ b1 w)))(C:Hid (∀w,jE j4 137 #[jB d f] w (AJ b2 w)))(n:Ev)
  (D:Hid ((b1&&b2)=jA->CvV G aS aO aZ aW w (jB 168 (jG #[U V i,U V op,jB a b,jB d f])) n))(r:Option Ex)(l:Hid (r=if b1&&b2 then (match n with| .ok v=>X v.ex| .err _=>T)else T)):
  jE j4 94 #[(jB 168 (jG #[U V i,U V op,jB a b,jB d f]))] w (A9 G r w):=by
 have ab:=Wf i op a b d f;have E:=Ab (Jq i op a b d f);have hp:=AbH i op a b d f;have F:=Ab (LP i op a b d f);have s:=Ji w;go_enter func94,ntmps94
 go_wp2_with fail
 refine(Aa E _).mono ?_;rintro k t ⟨g,rfl,hg,u,H⟩;have j:=s.trans (H.mono s.size);have o:=Ji t;dsimp only;go_wp2_with fail
 refine jv 3 ?_;rw[je];have c1:t.cell? ⟨g,0,T⟩=X (jB a b):=(u.after o NLN).cell 0;go_wp2_with fail
 refine(Aa B _).mono ?_;rintro k I ⟨rfl,J⟩;have m:=o.trans (J.mono o.size);clear c1;cases b1 with
 |false=>
  dsimp only;go_wp2_with fail
  go_ret
  exact⟨T,by rw[Aa l];rfl,rfl,(fun e h=>by cases h),j.trans (m.mono j.size)⟩
 |true=>
  dsimp only;go_wp2_with fail
  rw[je];have c2:I.cell? ⟨g,1,T⟩=X (jB d f):=(u.after m NLN).cell 1;go_wp2_with fail
  refine(Aa C _).mono ?_;rintro k K ⟨rfl,L⟩;have y:=m.trans (L.mono m.size);clear c2;cases b2 with
  |false=>
   dsimp only;go_wp2_with fail
   go_ret
   exact⟨T,by rw[Aa l];rfl,rfl,(fun e h=>by cases h),j.trans (y.mono j.size)⟩
  |true=>
   dsimp only;go_wp2_with fail
   rw[je];have z:=j.trans (y.mono j.size);have p:=z.alloc z.size (jF #[Q ⟨#[]⟩,Q ⟨#[]⟩,U V 0,U V 0,Y T 0 0,Y T 0 0,Y T 0 0] 204);have M:=Ag.new K #[Q ⟨#[]⟩,Q ⟨#[]⟩,U V 0,U V 0,Y T 0 0,Y T 0 0,Y T 0 0] 204;go_wp2_with fail
   refine(Aa D (by first|rfl|trivial) _ _ p M).mono ?_
   rintro k ac ⟨hv,N⟩;have q:=p.trans (N.mono p.size);cases n with
   |err c=>
    obtain⟨x,e,rfl,he⟩:=hv;obtain⟨ad,rfl⟩:=he.form;dsimp only;go_wp2_with fail
    go_ret
    exact⟨T,by rw[Aa l];rfl,rfl,(fun e h=>by cases h),q⟩
   |ok v=>
    obtain⟨x,rfl,hx⟩:=hv;have O:=Ab hx;clear hx;dsimp only;go_wp2_with fail
    refine(Aa F _).mono ?_;rintro k ae ⟨rfl,A⟩;have P:=q.trans (A.mono q.size);dsimp only;go_wp2_with fail
    refine(Gh x v i _ ((Aa O).below A NLN)).mono ?_;rintro k wc ⟨⟨e,he,rfl,me⟩,S⟩;subst S;have W:=Ab me;have aa:=Ab he;clear me he;dsimp only;go_wp2_with fail
    go_ret
    exact⟨X e,by rw[Aa l];exact congrArg X (Aa aa),rfl,(fun e' h=>by cases h;exact Aa W),P⟩
theorem Acq (i:Int)(a:jJ)(b:R)(d:jJ)(f:R)(j:jJ)(k:R)(w:Z)(b1 b2 b3:Bool)
  (E:Hid (∀w,jE j4 137 #[jB a b] w (AJ b1 w)))(F:Hid (∀w,jE j4 137 #[jB d f] w (AJ b2 w)))(H:Hid (∀w,jE j4 137 #[jB j k] w (AJ b3 w)))(q:Ev)
  (I:Hid ((b1&&(b2&&b3))=jA->CvV G aS aO aZ aW w (jB 213 (jG #[U V i,jB a b,jB d f,jB j k])) q))(y:Option Ex)(n:Hid (y=if b1&&(b2&&b3)then (match q with| .ok v=>X v.ex| .err _=>T)else T)):
  jE j4 94 #[(jB 213 (jG #[U V i,jB a b,jB d f,jB j k]))] w (A9 G y w):=by
 have ah:=Wg i a b d f j k;have J:=Ab (Jr i a b d f j k);have hp:=AbI i a b d f j k;have K:=Ab (LQ i a b d f j k);have z:=Ji w;go_enter func94,ntmps94
 go_wp2_with fail
 refine(Aa J _).mono ?_;rintro m A ⟨g,rfl,hg,r,L⟩;have l:=z.trans (L.mono z.size);have s:=Ji A;dsimp only;go_wp2_with fail
 refine jv 4 ?_;rw[je];have c1:A.cell? ⟨g,0,T⟩=X (jB a b):=(r.after s NLN).cell 0;go_wp2_with fail
 refine(Aa E _).mono ?_;rintro m M ⟨rfl,N⟩;have o:=s.trans (N.mono s.size);clear c1;cases b1 with
 |false=>
  dsimp only;go_wp2_with fail
  go_ret
  exact⟨T,by rw[Aa n];rfl,rfl,(fun e h=>by cases h),l.trans (o.mono l.size)⟩
 |true=>
  dsimp only;go_wp2_with fail
  rw[je];have c2:M.cell? ⟨g,1,T⟩=X (jB d f):=(r.after o NLN).cell 1;go_wp2_with fail
  refine(Aa F _).mono ?_;rintro m O ⟨rfl,P⟩;have p:=o.trans (P.mono o.size);clear c2;cases b2 with
  |false=>
   dsimp only;go_wp2_with fail
   go_ret
   exact⟨T,by rw[Aa n];rfl,rfl,(fun e h=>by cases h),l.trans (p.mono l.size)⟩
  |true=>
   dsimp only;go_wp2_with fail
   rw[je];have c3:O.cell? ⟨g,2,T⟩=X (jB j k):=(r.after p NLN).cell 2;go_wp2_with fail
   refine(Aa H _).mono ?_;rintro m S ⟨rfl,W⟩;have B:=p.trans (W.mono p.size);clear c3;cases b3 with
   |false=>
    dsimp only;go_wp2_with fail
    go_ret
    exact⟨T,by rw[Aa n];rfl,rfl,(fun e h=>by cases h),l.trans (B.mono l.size)⟩
   |true=>
    dsimp only;go_wp2_with fail
    rw[je];have C:=l.trans (B.mono l.size);have t:=C.alloc C.size (jF #[Q ⟨#[]⟩,Q ⟨#[]⟩,U V 0,U V 0,Y T 0 0,Y T 0 0,Y T 0 0] 204);have aa:=Ag.new S #[Q ⟨#[]⟩,Q ⟨#[]⟩,U V 0,U V 0,Y T 0 0,Y T 0 0,Y T 0 0] 204;go_wp2_with fail
    refine(Aa I (by first|rfl|trivial) _ _ t aa).mono ?_
    rintro m ai ⟨hv,ab⟩;have u:=t.trans (ab.mono t.size);cases q with
    |err c=>
     obtain⟨x,e,rfl,he⟩:=hv;obtain⟨aj,rfl⟩:=he.form;dsimp only;go_wp2_with fail
     go_ret
     exact⟨T,by rw[Aa n];rfl,rfl,(fun e h=>by cases h),u⟩
    |ok v=>
     obtain⟨x,rfl,hx⟩:=hv;have ac:=Ab hx;clear hx;dsimp only;go_wp2_with fail
     refine(Aa K _).mono ?_;rintro m ak ⟨rfl,D⟩;have ad:=u.trans (D.mono u.size);dsimp only;go_wp2_with fail
     refine(Gh x v i _ ((Aa ac).below D NLN)).mono ?_;rintro m wc ⟨⟨e,he,rfl,me⟩,ae⟩;subst ae;have af:=Ab me;have ag:=Ab he;clear me he;dsimp only;go_wp2_with fail
     go_ret
     exact⟨X e,by rw[Aa n];exact congrArg X (Aa ag),rfl,(fun e' h=>by cases h;exact Aa af),ad⟩
theorem J3 {e:Ex}(h:e.con=jA):e.cst:=by cases e<;>first|trivial|cases h
theorem AeR {e:Ex}(h:e.kids.all Ex.con=jA)(a:e.kids.isEmpty=jC):e.cst:=by
 have q:=z1.1 h;cases e<;>first|trivial|cases a|skip
 ·rename_i k;exact(J3 (q k (by simp[Ex.kids])):k.cst)
 ·exact⟨J3 (q _ (by simp[Ex.kids])),J3 (q _ (by simp[Ex.kids]))⟩
 ·exact⟨J3 (q _ (by simp[Ex.kids])),J3 (q _ (by simp[Ex.kids])),J3 (q _ (by simp[Ex.kids]))⟩
theorem Ahd {ts:List Int}{t:Int}{e:Ex}(b:e.kids.all Ex.con=jA)(c:e.kids.isEmpty=jC)(h:Al ts e=X t):Al [] e=X t:=by
 have hc:∀k∈e.kids,Al [] k=Al ts k:=fun k d=>by
  have:=z1.1 b k d;obtain⟨u,a⟩:=Option.isSome_iff_exists.1 this;rw[IX a,IX a]
 cases e with
 |un i op k=>rw[Al]at h|-;rw[hc k (by simp[Ex.kids])];exact h
 |bin i op l f=>rw[Al]at h|-;rw[hc l (by simp[Ex.kids]),hc f (by simp[Ex.kids])];exact h
 |ite i x y z=>rw[Al]at h|-;rw[hc x (by simp[Ex.kids]),hc y (by simp[Ex.kids]),hc z (by simp[Ex.kids])];exact h
 |_=>simp[Ex.kids]at c
theorem Acr (e:Ex)(w:Z)(u:∀b,w.heap.size<=b->G b)(hS:CZ w aS aO aZ aW)(m:e.mem G w)(he:e.typed)(ts:List Int)(t:Int)(y:Al ts e=X t):jE j4 94 #[e.val] w (A9 G (Ar e) w):=by
 have L:∀{T:jJ} {v:R} {i:Int},e.kids=[]->e.val=jB T v->(∀w,(method 422 T v "loop.example/s01308/impl.kids").run j4 w= .ok (229,U V i) w)->jE j4 94 #[e.val] w (A9 G (Ar e) w):=fun {T v i} h1 h2 h3=>by
  rw[h2];refine(Zg h3 w).mono fun C w' h=>A9.of (o':=none) h ?_ (fun x hx=>by cases hx);unfold Ar;rw[h1];rfl
 have d:e.kids.all Ex.con=jA->e.kids.isEmpty=jC->CvV G aS aO aZ aW w e.val (DI Sw [] e):=fun h1 h2=>Xd w u hS e he (AeR h1 h2) t (Ahd h1 h2 y) m;cases e with
 |int i n=>exact L rfl rfl (Wc i n)
 |text i n=>exact L rfl rfl (Tf i n)
 |bool i n=>exact L rfl rfl (Tg i n)
 |set i a n c ss=>exact L rfl rfl (We i a n c)
 |name i n=>exact L rfl rfl (Th i n)
 |attr i n=>exact L rfl rfl (Tj i n)
 |lett i n=>exact L rfl rfl (Tk i n)
 |un i op k=>
  obtain⟨f,g,j⟩:=k.form;have h1:=Bz k;simp only[Ex.val,j]at h1 d|-;refine AeQ i op f g w _ (Ab h1) (DI Sw [] (.un i op k)) (Ab fun h=>d (by simp[Ex.kids,h]) rfl) _ (Ab ?_);unfold Ar;simp only[Ex.kids,List.isEmpty_cons,List.all_cons,List.all_nil,Bool.and_true,Bool.false_eq_true,if_false];generalize DI Sw [] (.un i op k)=p;cases p<;>rfl
 |bin i op k l=>
  obtain⟨f,g,j⟩:=k.form;obtain⟨q,r,s⟩:=l.form;have h1:=Bz k;have h2:=Bz l;simp only[Ex.val,j,s]at h1 h2 d|-;refine Acp i op f g q r w _ _ (Ab h1) (Ab h2) (DI Sw [] (.bin i op k l)) (Ab fun h=>d (by simpa[Ex.kids]using h) rfl) _ (Ab ?_);unfold Ar;simp only[Ex.kids,List.isEmpty_cons,List.all_cons,List.all_nil,Bool.and_true,Bool.false_eq_true,if_false];generalize DI Sw [] (.bin i op k l)=p;cases p<;>rfl
 |ite i k l o=>
  obtain⟨f,g,j⟩:=k.form;obtain⟨q,r,s⟩:=l.form;obtain⟨z,A,B⟩:=o.form;have h1:=Bz k;have h2:=Bz l;have h3:=Bz o;simp only[Ex.val,j,s,B]at h1 h2 h3 d|-;refine Acq i f g q r z A w _ _ _ (Ab h1) (Ab h2) (Ab h3) (DI Sw [] (.ite i k l o)) (Ab fun h=>d (by simpa[Ex.kids]using h) rfl) _ (Ab ?_);unfold Ar;simp only[Ex.kids,List.isEmpty_cons,List.all_cons,List.all_nil,Bool.and_true,Bool.false_eq_true,if_false];generalize DI Sw [] (.ite i k l o)=p;cases p<;>rfl
end
theorem Acs (hS:S≠173)(v:R)(b:R)(w:Z):jE j4 93 #[b,jB S v] w (Cy jL w):=by
 have c:=A8 (S:=S) (T:=173) underlying173 zeroValue173 hS 106;have a:=Av w (jF #[U V 0,U V 0] 173);clear hS;go_enter func93,ntmps93
 go_wp2_with fail
 go_quiet (fail)
 go_wp2_with fail
 go_ret
 exact⟨rfl,a.trans ((Cj _ _).mono a.size)⟩
theorem Xh {a:Value}{t:jJ}(R:Ag w b #[a,c] t):w.cell? ⟨b,0,T⟩=X a/\w.cell? ⟨b,1,T⟩=X c:=⟨R.cell 0,R.cell 1⟩
theorem AeS (i:Int)(k f b d n c:Nat)(l:R)(t:jJ)(u:R)(w:Z)(g:Ag w f #[l,Y (X ⟨b,d,none⟩) n c] 114)(s:k<n)(v:n<=1048576)(m:b<w.heap.size)(hc:w.cell? ⟨b,d+k,none⟩=X (jB t u))(q:Bool)
  (o:Hid (∀w,jE j4 137 #[jB t u] w fun r w'=>r=jH (.bool q)/\w'=w))(h:R)(j:Hid (h=if q then jB t u else jL)):
  jE j4 93 #[jK (X ⟨f,0,none⟩),jB 173 (jG #[U V i,U V k])] w (Cy h w):=by
 have x:=De (T:=173) underlying173 106;have a:=Av w (jF #[U V i,U V k] 173);have y:(k:Int)<(n:Int):=by omega
 have cc:=(a.cell (p:=⟨b,d+k,none⟩) m).trans hc;obtain⟨z,A⟩:=Xh (g.after a NLN);obtain⟨B,C⟩:=Xh (Ag.new w #[U V i,U V k] 173);clear hc g;go_enter func93,ntmps93
 go_wp2_with fail
 go_quiet (first|(go_at_call 137;with_reducible refine Calls.quiet_of_same (Aa o _))|fail)
 cases q with
 |false=>
  go_wp2_with fail
  go_ret
  exact⟨congrArg jH (Aa j).symm,a.trans ((Cj _ _).mono a.size)⟩
 |true=>
  go_wp2_with fail
  go_quiet (fail)
  go_wp2_with fail
  go_ret
  exact⟨congrArg jH (Aa j).symm,(a.trans ((Cj _ _).mono a.size)).trans ((Cj _ _).mono (a.trans ((Cj _ _).mono a.size)).size)⟩
end Go.Proofs.YteiieikcjcfkkaaGreatDoor
