import Derived.Test.YtppafecmccdplaaGreatMXAJ
open Go.Proofs.Tryz
open Option renaming none->T,some->Y
open Go.Value renaming int->U,slice->X,string->Q,agg->jE,tuple->jJ
open Go.IntKind renaming i64->V
open Go renaming World->Z,Value->jB
open Bool renaming true->R,false->jA
open Go.Proofs.Tryz renaming prog->jL
namespace Go.Proofs.YtppafecmccdplaaGreat
set_option maxRecDepth 100000
set_option maxHeartbeats 25600000
open Go.RowKit
set_option linter.unusedVariables false
variable {tmps:Array jB}{x y:Ex}{k l:K5}{b:Nat}{c d f g i:jB}{w a:Z}
def PrA (o:Option Ex) (w:Z) (r:Ending) (w':Z):Prop:=
 (∃ (k:K5) (b:Bool),r= .returned (jJ #[jE #[U V k.op,U V k.num,Q k.text,X k.an k.nn k.cn,X k.ka k.kn k.kc],.bool b])/\b=o.isSome/\∀z,o=Y z->Tq w' z k)/\An w w'
def PrW (x y:Ex) (k l:K5) (z:Ex) (m:K5):Prop:=(z=x/\m=k)\/(z=y/\m=l)\/(∃b,z= .bool 0 b/\m=⟨3,if b then 1 else 0,⟨#[]⟩,T,0,0,T,0,0⟩)\/(z= .set 0 T 0 0 []/\m=⟨4,0,⟨#[]⟩,T,0,0,T,0,0⟩)
theorem prX  :PrW x y k l x k:=Or.inl ⟨rfl,rfl⟩
theorem prY  :PrW x y k l y l:=Or.inr (Or.inl ⟨rfl,rfl⟩)
theorem prT (b:Bool):PrW x y k l (.bool 0 b) ⟨3,if b then 1 else 0,⟨#[]⟩,T,0,0,T,0,0⟩:=Or.inr (Or.inr (Or.inl ⟨b,rfl,rfl⟩))
theorem prE  :PrW x y k l (.set 0 T 0 0 []) ⟨4,0,⟨#[]⟩,T,0,0,T,0,0⟩:=Or.inr (Or.inr (Or.inr ⟨rfl,rfl⟩))
def PrB (x y:Ex) (k l:K5) (o:Option Ex) (w:Z) (r:Ending) (w':Z):Prop:=
 (∃ (m:K5) (b:Bool),r= .returned (jJ #[jE #[U V m.op,U V m.num,Q m.text,X m.an m.nn m.cn,X m.ka m.kn m.kc],.bool b])/\b=o.isSome/\∀z,o=Y z->PrW x y k l z m)/\An w w'
theorem Ce {j:Func}{a u:Tmp}(h:j.results= #[.cell a 101,.tmp u]){e:jB}(k:tmps.getD a undef= .pointer (Y ⟨b,0,T⟩))(hu:tmps.getD u undef=e)
  (R:Ah w b #[c,d,f,g,i] 101):(results j tmps).run jL w= .ok (jJ #[jE #[c,d,f,g,i],e]) w:=by
 rw[yH]at k hu;have l:w.cell? ⟨b,0,T⟩=Y c:=R.cell 0;have m:w.cell? ⟨b,1,T⟩=Y d:=R.cell 1;have n:w.cell? ⟨b,2,T⟩=Y f:=R.cell 2;have o:w.cell? ⟨b,3,T⟩=Y g:=R.cell 3;have p:w.cell? ⟨b,4,T⟩=Y i:=R.cell 4;simp[results,h,k,hu,go_sem,l,m,n,o,p]
theorem AdC (w:Z):Tq w (.set 0 T 0 0 []) ⟨4,0,⟨#[]⟩,T,0,0,T,0,0⟩:=
 ⟨rfl,rfl,rfl,rfl,⟨rfl,NLN,zE _,fun j h=>absurd h (by simp),fun j h=>absurd h (by simp)⟩,zE _,fun _=>rfl,fun a e=>by cases e⟩
theorem ZT (w:Z)(b:Bool):Tq w (.bool 0 b) ⟨3,if b then 1 else 0,⟨#[]⟩,T,0,0,T,0,0⟩:=
 ⟨rfl,by cases b<;>rfl,rfl,rfl,⟨rfl,NLN,zE _,fun j h=>absurd h (by simp),fun j h=>absurd h (by simp)⟩,zE _,fun _=>rfl,fun a e=>by cases e⟩
theorem RB (n:Int)(w:Z):Calls jL 120 #[U V n] w fun r w'=>r= .returned (jE #[U V 3,U V n,Q ⟨#[]⟩,X T 0 0,X T 0 0])/\An w w':=by
 have a:=AN w (.cells #[U V 3,U V n,Q ⟨#[]⟩,X T 0 0,X T 0 0] 101);go_enter func120,ntmps120
 go_wp2_with fail
 first
 |(go_ret;exact⟨rfl,a⟩)
 |exact bodyPost_ret (v:= jE #[U V 3,U V n,Q ⟨#[]⟩,X T 0 0,X T 0 0]) (by simp[results,results120,go_sem]) rfl ⟨rfl,a⟩
theorem Agz (h:sameL x y=R):SI x=jA/\SI y=jA:=by
 cases x<;>cases y<;>first|exact⟨rfl,rfl⟩|cases h
theorem OE {P:Program}{ops:Array Oper}{o:Oper}{a:Act}{K:Act->Z->Prop}{Q:Exit->Act->Z->Prop}{E:Prop}(g:Region.wanted o (yielded ops a.tmps)=true)(f:FuncId)(b:Func)(i:P.funcs[f]? =Y b)(j:(b.name== "runtime.NumGoroutine")=jA)(d:b.body.isNone=jA)(x:Operand)(k:Array TypeId)
  (l:o.op= .call { callee:= .value (.func f),args:=#[x],argTypes:=k })(c:jB)(hx:a.eval x=c)
  (R:jB->Z->Prop)(hc:Calls P f #[c] w fun e w'=>∃v,e= .returned v/\R v w')(h:∀v w',R v w'->K (a.put o.dst v) w'):
  if Region.wanted o (yielded ops a.tmps)=true then Oper.wp P o a w K Q else E:=by
 rw[if_pos g];unfold Oper.wp;have m:(execOp a.eval o).run P w= .ok (.enter f #[c]) w:=by
  subst hx;have h1:b.name≠ "runtime.NumGoroutine" :=by simpa using j
  have n:(callFunc f #[a.eval x]).run P w= .ok (.enter f #[a.eval x]) w:=by
   have p:b.body≠T:=fun e=>by rw[e]at d;cases d
   simp[callFunc,i,h1,p]
  simpa[execOp,l,resolve,invoke,Act.eval,Result.andThen,go_sem]using n
 rw[m,Oper.upon_enter];refine hc.mono ?_;rintro e w' ⟨v,rfl,q⟩;exact h v w' q
def zW (W:Z) (b:Nat) (k:K5):Z:=((((W.setCell ⟨b,0,T⟩ (U V k.op)).setCell ⟨b,1,T⟩ (U V k.num)).setCell ⟨b,2,T⟩ (Q k.text)).setCell ⟨b,3,T⟩ (X k.an k.nn k.cn)).setCell ⟨b,4,T⟩ (X k.ka k.kn k.kc)
theorem RH {c:Z}{d f g h:jB}(k:K5)(B:An w c)(R:Ah c b #[d,f,g,h,i] 101)(a:w.heap.size<=b):An w (zW c b k)/\Ah (zW c b k) b #[U V k.op,U V k.num,Q k.text,X k.an k.nn k.cn,X k.ka k.kn k.kc] 101:=
 ⟨((((B.setCell (p:=⟨b,0,T⟩) a _).setCell (p:=⟨b,1,T⟩) a _).setCell (p:=⟨b,2,T⟩) a _).setCell (p:=⟨b,3,T⟩) a _).setCell (p:=⟨b,4,T⟩) a _,((((R.set 0 _).set 1 _).set 2 _).set 3 _).set 4 _⟩
def Pz (w:Z) (k l:K5) (W:Z):Prop:=An w W/\Ah W w.heap.size #[U V k.op,U V k.num,Q k.text,X k.an k.nn k.cn,X k.ka k.kn k.kc] 101/\Ah W (w.heap.size+1) #[U V l.op,U V l.num,Q l.text,X l.an l.nn l.cn,X l.ka l.kn l.kc] 101/\Ah W (w.heap.size+1+1) #[U V 0,U V 0,Q ⟨#[]⟩,X T 0 0,X T 0 0] 101
theorem Pz.next {c:Z}(h:Pz w k l a)(b:An a c):Pz w k l c:=
 ⟨h.1.trans (b.mono h.1.size),h.2.1.after b NLN,h.2.2.1.after b NLN,h.2.2.2.after b NLN⟩
theorem Fl {a:Array jB}{t:TypeId}(R:Ah w b a t):w.frozen? ⟨b,0,T⟩=jA/\w.frozen? ⟨b,1,T⟩=jA/\w.frozen? ⟨b,2,T⟩=jA/\w.frozen? ⟨b,3,T⟩=jA/\w.frozen? ⟨b,4,T⟩=jA:=⟨R.frozen 0,R.frozen 1,R.frozen 2,R.frozen 3,R.frozen 4⟩
theorem Pz.fin (m:K5)(h:Pz w k l a):An w (zW a (w.heap.size+1+1) m)/\Ah (zW a (w.heap.size+1+1) m) (w.heap.size+1+1) #[U V m.op,U V m.num,Q m.text,X m.an m.nn m.cn,X m.ka m.kn m.kc] 101:=RH m h.1 h.2.2.2 (by omega)
theorem RJ (d:a=((w.alloc (CZ k)).alloc (CZ l)).alloc Gm):Pz w k l a:=by
 subst d;have f:=((Ah.new w #[U V k.op,U V k.num,Q k.text,X k.an k.nn k.cn,X k.ka k.kn k.kc] 101).alloc (CZ l)).alloc Gm;have b:=(Ah.new (w.alloc (CZ k)) #[U V l.op,U V l.num,Q l.text,X l.an l.nn l.cn,X l.ka l.kn l.kc] 101).alloc Gm;have c:=Ah.new ((w.alloc (CZ k)).alloc (CZ l)) #[U V 0,U V 0,Q ⟨#[]⟩,X T 0 0,X T 0 0] 101;simp only[World.size_alloc]at b c;exact⟨((AN w _).alloc (by simp) _).alloc (by simp;omega) _,f,b,c⟩
theorem AgA (op:Int)(B:op=11\/op=13\/op=15\/op=16\/op=17\/op=18\/op=19\/op=20\/op=21\/op=22\/op=24\/op=25\/op=26)(s:Tq w x k)(t:Tq w y l)(f:Bi x=R)(g:Bi y=R):Calls jL 102 #[U V op,jE #[U V k.op,U V k.num,Q k.text,X k.an k.nn k.cn,X k.ka k.kn k.kc],jE #[U V l.op,U V l.num,Q l.text,X l.an l.nn l.cn,X l.ka l.kn l.kc]] w (PrB x y k l (DP op x y) w):=by
 obtain⟨j,n⟩:∃j,j=((w.alloc (CZ k)).alloc (CZ l)).alloc Gm:=⟨_,rfl⟩
 have P:=RJ n;have u:=Ab n;clear n;obtain⟨o,p⟩:∃o,o=DP op x y:=⟨_,rfl⟩
 rw[<-p];have C:=Ab p;clear p;rcases B with rfl|rfl|rfl|rfl|rfl|rfl|rfl|rfl|rfl|rfl|rfl|rfl|rfl
 all_goals
  go_enter func102,ntmps102
  go_wp2_with fail
  rw[<-Aa u];clear u;refine(Rz (s.below P.1 NLN) (t.below P.1 NLN) f g).mono ?_;rintro r D ⟨rfl,v⟩;replace P:=P.next v;clear v;generalize D=j at P|-;dsimp only;generalize hv:sameL x y=c;cases c
  case' true=>have q:=Ab (Agz hv)
  all_goals
   first
    |have m:=Ab (And.intro hv (Aa q))
    |have m:=Ab hv
   clear hv
   repeat'
    first
     |obtain⟨E,F,G,H,I,-⟩:=Aq P.2.1
      obtain⟨J,K,L,M,N,-⟩:=Aq P.2.2.1;obtain⟨O,f1,f2,S,W⟩:=Fl P.2.2.2;obtain⟨aa,ab,ac,ad,ae,-⟩:=Aq P.2.2.2;go_wp2_with fail
      have h:=s.below P.1 NLN;have i:=t.below P.1 NLN
      first
       |with_reducible refine(UM h f _).mono ?_
        rintro r d ⟨rfl,b⟩;generalize hv:U9 _ x=c
       |with_reducible refine(NT h f).mono ?_
        rintro r d ⟨rfl,b⟩;generalize hv:SI x=c
       |with_reducible refine(Gb h f jA 0 rfl).mono ?_
        rintro r d ⟨rfl,b⟩;generalize hv:isB jA x=c
       |with_reducible refine(Gb h f R 1 rfl).mono ?_
        rintro r d ⟨rfl,b⟩;generalize hv:isB R x=c
       |with_reducible refine(EO x _ _ h f).mono ?_
        rintro r d ⟨rfl,b⟩;generalize hv:AF x=c
       |with_reducible refine(UM i g _).mono ?_
        rintro r d ⟨rfl,b⟩;generalize hv:U9 _ y=c
       |with_reducible refine(NT i g).mono ?_
        rintro r d ⟨rfl,b⟩;generalize hv:SI y=c
       |with_reducible refine(Gb i g jA 0 rfl).mono ?_
        rintro r d ⟨rfl,b⟩;generalize hv:isB jA y=c
       |with_reducible refine(Gb i g R 1 rfl).mono ?_
        rintro r d ⟨rfl,b⟩;generalize hv:isB R y=c
       |with_reducible refine(EO y _ _ i g).mono ?_
        rintro r d ⟨rfl,b⟩;generalize hv:AF y=c
       |with_reducible refine(RB 1 _).mono ?_
        rintro r d ⟨rfl,b⟩;have af:True:=trivial
       |with_reducible refine(RB 0 _).mono ?_
        rintro r d ⟨rfl,b⟩;have ag:True:=trivial
       |have A:=Aa C
        simp[DP,WB,Rf,WC,Rg,Adf,WE,Ph,ML,Aa m]at A;subst A
        first
         |with_reducible show bodyPost _ _ (PrB x y k l (Y y) w) _ _ _
          exact bodyPost_ret (Ce results102 rfl rfl (P.fin l).2) rfl ⟨⟨l,R,rfl,rfl,fun z a=>by cases a;exact prY⟩,(P.fin l).1⟩
         |with_reducible show bodyPost _ _ (PrB x y k l (Y x) w) _ _ _
          exact bodyPost_ret (Ce results102 rfl rfl (P.fin k).2) rfl ⟨⟨k,R,rfl,rfl,fun z a=>by cases a;exact prX⟩,(P.fin k).1⟩
         |with_reducible show bodyPost _ _ (PrB x y k l (Y (.bool 0 R)) w) _ _ _
          exact bodyPost_ret (Ce results102 rfl rfl (P.fin ⟨3,1,⟨#[]⟩,T,0,0,T,0,0⟩).2) rfl ⟨⟨⟨3,1,⟨#[]⟩,T,0,0,T,0,0⟩,R,rfl,rfl,fun z a=>by cases a;exact prT R⟩,(P.fin ⟨3,1,⟨#[]⟩,T,0,0,T,0,0⟩).1⟩
         |with_reducible show bodyPost _ _ (PrB x y k l (Y (.bool 0 jA)) w) _ _ _
          exact bodyPost_ret (Ce results102 rfl rfl (P.fin ⟨3,0,⟨#[]⟩,T,0,0,T,0,0⟩).2) rfl ⟨⟨⟨3,0,⟨#[]⟩,T,0,0,T,0,0⟩,R,rfl,rfl,fun z a=>by cases a;exact prT jA⟩,(P.fin ⟨3,0,⟨#[]⟩,T,0,0,T,0,0⟩).1⟩
         |with_reducible show bodyPost _ _ (PrB x y k l (Y (.set 0 T 0 0 [])) w) _ _ _
          exact bodyPost_ret (Ce results102 rfl rfl (P.fin ⟨4,0,⟨#[]⟩,T,0,0,T,0,0⟩).2) rfl ⟨⟨⟨4,0,⟨#[]⟩,T,0,0,T,0,0⟩,R,rfl,rfl,fun z a=>by cases a;exact prE⟩,(P.fin ⟨4,0,⟨#[]⟩,T,0,0,T,0,0⟩).1⟩
         |have:=af;with_reducible show bodyPost _ _ (PrB x y k l (T) w) _ _ _
          exact bodyPost_ret (Ce results102 rfl rfl (P.fin ⟨3,1,⟨#[]⟩,T,0,0,T,0,0⟩).2) rfl ⟨⟨⟨3,1,⟨#[]⟩,T,0,0,T,0,0⟩,jA,rfl,rfl,fun z a=>by cases a⟩,(P.fin ⟨3,1,⟨#[]⟩,T,0,0,T,0,0⟩).1⟩
         |have:=ag;with_reducible show bodyPost _ _ (PrB x y k l (T) w) _ _ _
          exact bodyPost_ret (Ce results102 rfl rfl (P.fin ⟨3,0,⟨#[]⟩,T,0,0,T,0,0⟩).2) rfl ⟨⟨⟨3,0,⟨#[]⟩,T,0,0,T,0,0⟩,jA,rfl,rfl,fun z a=>by cases a⟩,(P.fin ⟨3,0,⟨#[]⟩,T,0,0,T,0,0⟩).1⟩
         |with_reducible show bodyPost _ _ (PrB x y k l (T) w) _ _ _
          exact bodyPost_ret (Ce results102 rfl rfl (P.fin ⟨0,0,⟨#[]⟩,T,0,0,T,0,0⟩).2) rfl ⟨⟨⟨0,0,⟨#[]⟩,T,0,0,T,0,0⟩,jA,rfl,rfl,fun z a=>by cases a⟩,(P.fin ⟨0,0,⟨#[]⟩,T,0,0,T,0,0⟩).1⟩
      all_goals
       clear h i E F G H I J K L M N aa ab ac ad ae O f1 f2 S W;replace P:=P.next b;clear b;generalize d=j at P|-;dsimp only
       first
        |cases c
         all_goals
          first
           |exact absurd ((Aa q).1.symm.trans hv) Bool.false_ne_true
           |exact absurd ((Aa q).2.symm.trans hv) Bool.false_ne_true
           |replace m:=Ab (And.intro hv (Aa m))
            clear hv
        |skip
     |fail
theorem AdD (op:Int)(n:Int)(f:(op=12/\n=0)\/(op=14/\n=1))(t:Tq w x k)(g:Tq w y l)(u:Bi x=R)(i:Bi y=R):Calls jL 102 #[U V op,jE #[U V k.op,U V k.num,Q k.text,X k.an k.nn k.cn,X k.ka k.kn k.kc],jE #[U V l.op,U V l.num,Q l.text,X l.an l.nn l.cn,X l.ka l.kn l.kc]] w (PrB x y k l (DP op x y) w):=by
 obtain⟨b,d⟩:∃b,b=((w.alloc (CZ k)).alloc (CZ l)).alloc Gm:=⟨_,rfl⟩
 have P:=RJ d;have j:=Ab d;clear d;have m:=Ab (show DP op x y=if U9 n y then Y x else T by rcases f with⟨rfl,rfl⟩|⟨rfl,rfl⟩<;>rfl);have o:=Ab (fun (A:Z) (b1:An w A)=>UM (g.below b1 NLN) i n);generalize U9 n y=c at m o;rcases f with⟨rfl,rfl⟩|⟨rfl,rfl⟩
 all_goals
  go_enter func102,ntmps102
  go_wp2_with fail
  rw[<-Aa j];clear j;refine(Rz (t.below P.1 NLN) (g.below P.1 NLN) u i).mono ?_;rintro r B ⟨rfl,p⟩;replace P:=P.next p;clear p;generalize B=b at P|-;dsimp only;generalize sameL x y=ac;obtain⟨C,D,E,F,G,-⟩:=Aq P.2.1;obtain⟨ad,ae,af,ag,ah,-⟩:=Aq P.2.2.1;obtain⟨H,f1,f2,I,J⟩:=Fl P.2.2.2;obtain⟨K,L,M,N,O,-⟩:=Aq P.2.2.2;have S:(Tryz.f119.name== "runtime.NumGoroutine")=jA:=by kernel_rfl
  have W: Tryz.f119.body.isNone=jA:=by kernel_rfl
  have aa:=Ab ((Aa o _ P.1.drew).mono (R':=fun e w'=>∃v,e= .returned v/\(v= .bool c/\An b w')) (fun r w' h=>⟨_,h.1,rfl,⟨h.2.os,h.2.tape,h.2.output,h.2.size,h.2.block⟩⟩));go_wp2_with fail
  go_region_law (refine Bf rfl 119 _ func119 S W _ _ _ rfl (jE #[U V l.op,U V l.num,Q l.text,X l.an l.nn l.cn,X l.ka l.kn l.kc]) _ rfl rfl _ (Aa aa) ?_;rintro ai aj ⟨rfl,q⟩;have a:=P.next q;obtain⟨C,D,E,F,G,-⟩:=Aq a.2.1;obtain⟨H,f1,f2,I,J⟩:=Fl a.2.2.2;obtain⟨K,L,M,N,O,-⟩:=Aq a.2.2.2)
  all_goals
   have s:=Ab (a.fin k);clear a P q;go_wp2
   exact bodyPost_ret (Ce results102 rfl rfl (Aa s).2) rfl (by rw[Aa m];exact⟨⟨k,c,rfl,by cases c<;>rfl,fun z ab=>by cases c<;>cases ab;exact prX⟩,(Aa s).1⟩)
theorem Afo (op:Int)(ag:op=23)(O:Tq w x k)(S:Tq w y l)(W:Bi x=R)(aa:Bi y=R):Calls jL 102 #[U V op,jE #[U V k.op,U V k.num,Q k.text,X k.an k.nn k.cn,X k.ka k.kn k.kc],jE #[U V l.op,U V l.num,Q l.text,X l.an l.nn l.cn,X l.ka l.kn l.kc]] w (PrB x y k l (DP op x y) w):=by
 obtain⟨d,i⟩:∃d,d=((w.alloc (CZ k)).alloc (CZ l)).alloc Gm:=⟨_,rfl⟩
 have P:=RJ i;have ab:=Ab i;clear i;subst ag;go_enter func102,ntmps102
 go_wp2_with fail
 rw[<-Aa ab];clear ab;refine(Rz (O.below P.1 NLN) (S.below P.1 NLN) W aa).mono ?_;rintro r ah ⟨rfl,ac⟩;replace P:=P.next ac;clear ac;generalize ah=d at P|-;dsimp only;generalize sameL x y=aB;obtain⟨j,m,n,o,p,-⟩:=Aq P.2.1;obtain⟨q,s,t,u,v,-⟩:=Aq P.2.2.1;obtain⟨A,f1,f2,B,C⟩:=Fl P.2.2.2;obtain⟨D,E,F,G,H,-⟩:=Aq P.2.2.2;have ad:=Ab (fun (I:Z) (b1:An w I)=>NT (S.below b1 NLN) aa);have ae:=Ab (fun (I:Z) (b1:An w I)=>EO x _ _ (O.below b1 NLN) W);have g:=Ab (show DP 23 x y=if SI y&&AF x then Y (.bool 0 jA)else T from rfl);generalize SI y=ai at ad g;generalize AF x=J at ae g;have K:=P.next (Brw d).drew;clear P;go_wp2_with fail
 cases ai
 all_goals
  have aj:(Tryz.f120.name== "runtime.NumGoroutine")=jA:=by kernel_rfl
  have ak: Tryz.f120.body.isNone=jA:=by kernel_rfl
  have al:(Tryz.f118.name== "runtime.NumGoroutine")=jA:=by kernel_rfl
  have ao: Tryz.f118.body.isNone=jA:=by kernel_rfl
  have ap:(Tryz.f48.name== "runtime.NumGoroutine")=jA:=by kernel_rfl
  have aq: Tryz.f48.body.isNone=jA:=by kernel_rfl
  have ar:=Ab (Fd (RB 0 d.drew) (fun e w' h=>⟨_,h.1⟩));go_region_law (first
   |(refine EI rfl 120 _ func120 aj ak _ _ rfl (U V 0) rfl _ (Aa ar) ?_;rintro aC au ⟨av,L⟩;obtain rfl:=AS av;have b:=K.next L;obtain⟨j,m,n,o,p,-⟩:=Aq b.2.1;obtain⟨q,s,t,u,v,-⟩:=Aq b.2.2.1;obtain⟨A,f1,f2,B,C⟩:=Fl b.2.2.2;obtain⟨D,E,F,G,H,-⟩:=Aq b.2.2.2;have aw:=Ab (Fd (Aa ad au b.1) (fun e w' h=>⟨_,h.1⟩)))
   |(refine EI rfl 118 _ func118 al ao _ _ rfl (jE #[U V l.op,U V l.num,Q l.text,X l.an l.nn l.cn,X l.ka l.kn l.kc]) rfl _ (Aa aw) ?_;rintro aD ax ⟨ay,M⟩;obtain rfl:=AS ay;have a:=b.next M;obtain⟨j,m,n,o,p,-⟩:=Aq a.2.1;obtain⟨q,s,t,u,v,-⟩:=Aq a.2.2.1;obtain⟨A,f1,f2,B,C⟩:=Fl a.2.2.2;obtain⟨D,E,F,G,H,-⟩:=Aq a.2.2.2;have az:=Ab (Fd (Aa ae ax a.1) (fun e w' h=>⟨_,h.1⟩)))
   |(refine OE (by simp[Region.wanted,yielded]) 48 _ func48 ap aq _ _ rfl (jE #[U V k.op,U V k.num,Q k.text,X k.an k.nn k.cn,X k.ka k.kn k.kc]) rfl _ (Aa az) ?_;rintro aE aF ⟨aA,af⟩;obtain rfl:=AS aA;have c:=a.next af;obtain⟨j,m,n,o,p,-⟩:=Aq c.2.1;obtain⟨q,s,t,u,v,-⟩:=Aq c.2.2.1;obtain⟨A,f1,f2,B,C⟩:=Fl c.2.2.2;obtain⟨D,E,F,G,H,-⟩:=Aq c.2.2.2)
   |fail)
  all_goals
   first
    |have f:=Ab (c.fin ⟨3,0,⟨#[]⟩,T,0,0,T,0,0⟩)
     clear b L a M c af K;go_wp2
     exact bodyPost_ret (Ce results102 rfl rfl (Aa f).2) rfl (by rw[Aa g];exact⟨⟨⟨3,0,⟨#[]⟩,T,0,0,T,0,0⟩,J,rfl,by cases J<;>rfl,fun z N=>by cases J<;>cases N;exact prT jA⟩,(Aa f).1⟩)
    |have f:=Ab (a.fin ⟨3,0,⟨#[]⟩,T,0,0,T,0,0⟩)
     clear b L a M K;go_wp2
     exact bodyPost_ret (Ce results102 rfl rfl (Aa f).2) rfl (by rw[Aa g];exact⟨⟨⟨3,0,⟨#[]⟩,T,0,0,T,0,0⟩,jA,rfl,rfl,fun z N=>by cases N⟩,(Aa f).1⟩)
theorem AgB (op:Int)(g: 11<=op/\op<=26)(a:Tq w x k)(b:Tq w y l)(c:Bi x=R)(d:Bi y=R):Calls jL 102 #[U V op,jE #[U V k.op,U V k.num,Q k.text,X k.an k.nn k.cn,X k.ka k.kn k.kc],jE #[U V l.op,U V l.num,Q l.text,X l.an l.nn l.cn,X l.ka l.kn l.kc]] w (PrB x y k l (DP op x y) w):=by
 by_cases h1:op=12\/op=14
 ·rcases h1 with h|h
  ·exact AdD op 0 (.inl ⟨h,rfl⟩) a b c d
  ·exact AdD op 1 (.inr ⟨h,rfl⟩) a b c d
 ·by_cases f:op=23
  ·exact Afo op f a b c d
  ·exact AgA op (by omega) a b c d
end Go.Proofs.YtppafecmccdplaaGreat
