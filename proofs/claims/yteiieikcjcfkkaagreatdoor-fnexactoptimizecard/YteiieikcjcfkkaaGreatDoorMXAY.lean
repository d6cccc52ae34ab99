import Derived.Test.YteiieikcjcfkkaaGreatDoorMXAT
import Derived.Test.YteiieikcjcfkkaaGreatDoorMXBH
open Go.Proofs.Tryz
open Option renaming none->T,some->X
open Go.Value renaming int->U,slice->Y,string->Q,pointer->jK
open Go.IntKind renaming i64->V
open Bool renaming true->jA,false->jC
open Go.Proofs.Tryz renaming prog->j4
namespace Go.Proofs.YteiieikcjcfkkaaGreatDoor
set_option maxRecDepth 100000
set_option maxHeartbeats 6400000
open Go.RowKit
set_option linter.unusedVariables false
set_option linter.unusedSimpArgs false
variable {Es:List Ex}{N:List Nd}{L:List St}{a b:Nat}
theorem YF (x:Nd):AD x=(decide ((x.kids.length:Int)=CI x.op)&&JT x):=rfl
theorem Oc (L:List Nd):L.all AD=jA↔∀j,(h:j<L.length)->AD L[j]=jA:=by
 rw[z1];constructor
 ·intro h j a;exact h _ (zH a)
 ·intro h x hx;obtain⟨j,a,rfl⟩:=zy hx;exact h j a
theorem Fq (a:Option Addr)(n c:Nat)(L:List Nd)(w:World)(h:GY w a n c L)(ah:Ko w):
  Calls j4 87 #[Y a n c,.func (.func 52) #[] #[]] w fun e w'=>e= .returned (.bool (L.all AD))/\Ah w w':=by
 have au:=h.small;have P:=Ab h.len;go_enter func87,ntmps87
 go_wp2_with fail
 go_loopw [9] (fun i wr=>∃k:Nat,k<=n/\i=U V k/\Ah w wr/\∀j,(r:j<L.length)->j<k->AD L[j]=jA) (fun i _=>n-(intOf i).toNat)
 case atStart=>exact⟨0,by omega,rfl,BRN,fun j r h=>absurd h (by omega)⟩
 case round=>
  obtain⟨k,av,rfl,y,W⟩:=hrel;have D:=Ab W;clear W;by_cases aa:k<n
  ·have aw:(k:Int)<(n:Int):=by omega
   have E:k<L.length:=by rw[Aa P];exact aa
   have F:=h.sizes L[k] (zH E);obtain⟨b,ax,rfl,ay,an,nn,cn,f,d,g,ai,c1,c2,c3,c4,G,z⟩:=(h.below y NLN).cells k E;have ab:=ah.below y NLN;have s:=Ab (show AD L[k]=jC->L.all AD=jC from fun e=>by
    rw[<-Bool.not_eq_true,Oc];intro aj;rw[aj k E]at e;cases e)
   have A:=Ab (show AD L[k]=jA->∀j,(r:j<L.length)->j<k+1->AD L[j]=jA from fun e j r az=>by
    by_cases ak:j=k
    ·subst ak;exact e
    ·exact Aa D j r (by omega))
   have ac:=Ab aa;clear D;generalize L[k]=x at ai c1 c2 c3 c4 G z F s A;have H:=Ab (YF x);have ad:=Ab z.len;have p:=Ag.new wr #[U V x.op,U V x.num,Q x.text,Y an nn cn,Y f d g] 85;have t:=y.alloc y.size (Dw x.op x.num x.text an nn cn f d g);have ae:=Av wr (Dw x.op x.num x.text an nn cn f d g);have af:=G.below ae NLN;have u:=ab.below ae NLN;clear G ab z;by_cases q:(d:Int)=CI x.op
   ·have al:((d:Int)!=CI x.op)=jC:=by rw[q];simp
    cases hv:JT x
    ·have I:=Ab (Aa s (by rw[Aa H,hv,Bool.and_false]));have J:=Ab hv;clear hv q s A;go_wp2_with fail
     have m:Below (wr.alloc (Dw x.op x.num x.text an nn cn f d g)).heap.size (wr.alloc (Dw x.op x.num x.text an nn cn f d g)) (wr.alloc (Dw x.op x.num x.text an nn cn f d g)).drew:=BRN.drew;have M:=Jn p m;go_region_held3 (fun w'=>w'.cell? ⟨wr.heap.size,0,T⟩=X (U V x.op)/\w'.cell? ⟨wr.heap.size,1,T⟩=X (U V x.num)/\w'.cell? ⟨wr.heap.size,2,T⟩=X (Q x.text)/\w'.cell? ⟨wr.heap.size,3,T⟩=X (Y an nn cn)/\w'.cell? ⟨wr.heap.size,4,T⟩=X (Y f d g)) (first|assumption|go_keep)
      (first
       |(go_at_call 130;refine(Iu _ _ (u.below m NLN).lt (u.below m NLN).cells).mono ?_;rintro e ag ⟨rfl,B⟩;have o:=m.trans (B.mono NLN);have N:=Jn p o)
       |(go_at_call 52;refine(IW x an nn cn f d g _ (af.below o NLN) F).mono ?_;rintro e ao ⟨rfl,O⟩;rw[Aa J];have C:=o.trans (O.mono o.size);have ap:=Jn p C))
     go_wp2_with fail
     go_ret
     exact⟨Ad (Aa I).symm,t.trans (C.mono t.size)⟩
    ·have aq:=Ab (Aa A (by rw[Aa H,hv,Aa ad,zL q];rfl));have J:=Ab hv;clear hv q s A;go_wp2_with fail
     have m:Below (wr.alloc (Dw x.op x.num x.text an nn cn f d g)).heap.size (wr.alloc (Dw x.op x.num x.text an nn cn f d g)) (wr.alloc (Dw x.op x.num x.text an nn cn f d g)).drew:=BRN.drew;have M:=Jn p m;go_region_held3 (fun w'=>w'.cell? ⟨wr.heap.size,0,T⟩=X (U V x.op)/\w'.cell? ⟨wr.heap.size,1,T⟩=X (U V x.num)/\w'.cell? ⟨wr.heap.size,2,T⟩=X (Q x.text)/\w'.cell? ⟨wr.heap.size,3,T⟩=X (Y an nn cn)/\w'.cell? ⟨wr.heap.size,4,T⟩=X (Y f d g)) (first|assumption|go_keep)
      (first
       |(go_at_call 130;refine(Iu _ _ (u.below m NLN).lt (u.below m NLN).cells).mono ?_;rintro e ag ⟨rfl,B⟩;have o:=m.trans (B.mono NLN);have N:=Jn p o)
       |(go_at_call 52;refine(IW x an nn cn f d g _ (af.below o NLN) F).mono ?_;rintro e ao ⟨rfl,O⟩;rw[Aa J];have C:=o.trans (O.mono o.size);have ap:=Jn p C))
     go_wp2_with fail
     go_roundw
     case rel=>exact⟨k+1,Aa ac,by go_num,t.trans (C.mono t.size),Aa aq⟩
     case measure=>have:=Aa ac;simp[intOf];omega
   ·have al:((d:Int)!=CI x.op)=jA:=zc.2 q;have I:=Ab (Aa s (by rw[Aa H,Aa ad,zJ q];rfl));clear q s A;go_wp2_with fail
    have m:Below (wr.alloc (Dw x.op x.num x.text an nn cn f d g)).heap.size (wr.alloc (Dw x.op x.num x.text an nn cn f d g)) (wr.alloc (Dw x.op x.num x.text an nn cn f d g)).drew:=BRN.drew;have M:=Jn p m;refine wp_region_held_drew (S:=(fun w'=>w'.cell? ⟨wr.heap.size,0,T⟩=X (U V x.op)/\w'.cell? ⟨wr.heap.size,1,T⟩=X (U V x.num)/\w'.cell? ⟨wr.heap.size,2,T⟩=X (Q x.text)/\w'.cell? ⟨wr.heap.size,3,T⟩=X (Y an nn cn)/\w'.cell? ⟨wr.heap.size,4,T⟩=X (Y f d g))) rfl M (fun aA=>?_);refine wpAnyH_take (i:=0) (v:= jK (X ⟨wr.heap.size,4,T⟩)) rfl (by kernel_rfl) (by kernel_rfl) (by kernel_rfl) (fun _ _ _ h=>h) (Or.inl ⟨rfl,fun w' l=>by (try dsimp only at l);go_simp⟩) (by assumption) ?_
    simp only[Act.put,zn,zh,zk];refine wpAnyH_take (i:=1) (v:= Y f d g) rfl (by kernel_rfl) (by kernel_rfl) (by kernel_rfl) (fun _ _ _ h=>h) (Or.inl ⟨rfl,fun w' l=>by (try dsimp only at l);go_simp⟩) (by assumption) ?_
    simp only[Act.put,zn,zh,zk];refine wpAnyH_take (i:=2) (v:= U V d) rfl (by kernel_rfl) (by kernel_rfl) (by kernel_rfl) (fun _ _ _ h=>h) (Or.inl ⟨rfl,fun w' l=>by (try dsimp only at l);go_simp⟩) (by assumption) ?_
    simp only[Act.put,zn,zh,zk];refine wpAnyH_take (i:=3) (v:= jK (X ⟨wr.heap.size,0,T⟩)) rfl (by kernel_rfl) (by kernel_rfl) (by kernel_rfl) (fun _ _ _ h=>h) (Or.inl ⟨rfl,fun w' l=>by (try dsimp only at l);go_simp⟩) (by assumption) ?_
    simp only[Act.put,zn,zh,zk];refine wpAnyH_take (i:=4) (v:= U V x.op) rfl (by kernel_rfl) (by kernel_rfl) (by kernel_rfl) (fun _ _ _ h=>h) (Or.inl ⟨rfl,fun w' l=>by (try dsimp only at l);go_simp⟩) (by assumption) ?_
    simp only[Act.put,zn,zh,zk];refine wpAnyH_ready (rs:= [5]) (by kernel_rfl) (by simp) ?_;refine AllReadyH.cons rfl (fun K z=>?_) AllReadyH.nil;go_simp
    go_at_call 130
    refine(Iu _ _ (u.below m NLN).lt (u.below m NLN).cells).mono ?_;rintro e ag ⟨rfl,B⟩;have o:=m.trans (B.mono NLN);have N:=Jn p o;refine z.out _ _ N (fun aB=>?_);refine wpAnyH_take (i:=6) (v:= .bool jA) rfl (by kernel_rfl) (by kernel_rfl) (by kernel_rfl) (fun _ _ _ h=>h) (Or.inl ⟨rfl,fun w' l=>by (try dsimp only at l);go_simp⟩) (by assumption) ?_
    simp only[Act.put,zn,zh,zk];refine wpAnyH_take (i:=7) (v:= .bool jA) rfl (by kernel_rfl) (by kernel_rfl) (by kernel_rfl) (fun _ _ _ h=>h) (Or.inl ⟨rfl,fun w' l=>by (try dsimp only at l);go_simp⟩) (by assumption) ?_
    simp only[Act.put,zn,zh,zk];refine wpAnyH_take (i:=8) (v:=undef) rfl (by kernel_rfl) (by kernel_rfl) (by kernel_rfl) (fun _ _ _ h=>h) (Or.inr ⟨rfl,rfl⟩) (by assumption) ?_;simp only[Act.put,zn,zh,zk];refine wpAnyH_take (i:=9) (v:=undef) rfl (by kernel_rfl) (by kernel_rfl) (by kernel_rfl) (fun _ _ _ h=>h) (Or.inr ⟨rfl,rfl⟩) (by assumption) ?_;simp only[Act.put,zn,zh,zk];refine wpAnyH_take (i:=10) (v:=undef) rfl (by kernel_rfl) (by kernel_rfl) (by kernel_rfl) (fun _ _ _ h=>h) (Or.inr ⟨rfl,rfl⟩) (by assumption) ?_;simp only[Act.put,zn,zh,zk];refine wpAnyH_take (i:=11) (v:=undef) rfl (by kernel_rfl) (by kernel_rfl) (by kernel_rfl) (fun _ _ _ h=>h) (Or.inr ⟨rfl,rfl⟩) (by assumption) ?_;simp only[Act.put,zn,zh,zk];refine wpAnyH_take (i:=12) (v:= .bool jA) rfl (by kernel_rfl) (by kernel_rfl) (by kernel_rfl) (fun _ _ _ h=>h) (Or.inl ⟨rfl,fun w' l=>by (try dsimp only at l);go_simp⟩) (by assumption) ?_
    simp only[Act.put,zn,zh,zk];refine wpAnyH_done (by kernel_rfl) ?_ _;go_wp2_with fail
    go_ret
    exact⟨Ad (Aa I).symm,t.trans (o.mono t.size)⟩
  ·have e:k=n:=by omega
   subst e;have ar:=Ab (show L.all AD=jA from(Oc L).2 (fun j r=>Aa D j r (by have:=Aa P;omega)));go_wp2
   go_ret
   exact⟨Ad (Aa ar).symm,y⟩
set_option maxHeartbeats 3200000
def Bn (N:List Nd) (L:List St):Bool:=decide (N.length<=4000)&&(decide (1<=L.length/\L.length<=600)&&BX L)&&N.all AD&&Ei N L
theorem OR (a b:Option Addr)(n c m d:Nat)(N:List Nd)(L:List St)(w:World)(h1:GY w a n c N)(h2:Jl w b m d L)(ag:Ko w):
  Calls j4 51 #[.agg #[Y a n c,Y b m d],.func (.func 52) #[] #[]] w fun e w'=>e= .returned (.bool (Bn N L))/\Ah w w':=by
 have s1:=h1.small;have s2:=h2.small;have ah:=Ab h1.len;have ai:=Ab h2.len;have x:=Ab (show Bn N L=(decide (n<=4000)&&(decide (1<=m/\m<=600)&&BX L)&&N.all AD&&Ei N L) by rw[Bn,h1.len,h2.len]);have j:=Ag.new w #[Y a n c,Y b m d] 68;have g:=Av w (.cells #[Y a n c,Y b m d] 68);have l:=h1.below g NLN;have o:=h2.below g NLN;have y:=ag.below g NLN;go_enter func51,ntmps51
 by_cases H: 4000<n
 ·have aj:(4000 :Int)<(n:Int):=by omega
  have h:=Ab (show Bn N L=jC by rw[Aa x,zJ (by omega)];rfl);clear H;go_wp2_with fail
  go_ret
  exact⟨Ad (Aa h).symm,g⟩
 have aj: ¬ ((4000 :Int)<(n:Int)):=by omega
 have s:=Ab (show Bn N L=((decide (1<=m/\m<=600)&&BX L)&&N.all AD&&Ei N L) by rw[Aa x,zL (by omega)];rfl);clear H x;generalize I:(decide (1<=m/\m<=600)&&BX L)=ak at s;have p:=Ab I;clear I;cases ak
 ·have h:=Ab (show Bn N L=jC by rw[Aa s];rfl);go_wp2_with (go_at_call 86;refine(Ej _ _ _ _ _ o).mono ?_;rintro e z ⟨rfl,f⟩;rw[Aa p])
  go_ret
  exact⟨Ad (Aa h).symm,g.trans (f.mono g.size)⟩
 ·have t:=Ab (show Bn N L=(N.all AD&&Ei N L) by rw[Aa s,Z0]);clear s;generalize J:N.all AD=al at t;have A:=Ab J;clear J;cases al
  ·have h:=Ab (show Bn N L=jC by rw[Aa t];rfl);go_wp2_with (first
    |(go_at_call 86;refine(Ej _ _ _ _ _ o).mono ?_;rintro e z ⟨rfl,f⟩;rw[Aa p];obtain⟨M,O⟩:=CD (j.after f NLN))
    |(go_at_call 87;refine(Fq _ _ _ _ _ (l.below f NLN) (y.below f NLN)).mono ?_;rintro e P ⟨rfl,q⟩;rw[Aa A]))
   go_ret
   exact⟨Ad (Aa h).symm,g.trans ((f.trans (q.mono f.size)).mono g.size)⟩
  ·have W:=Ab (show Bn N L=Ei N L by rw[Aa t,Z0]);clear t;have B:=Ab (show Ei N L=match Cp (N.map Nd.kids) n [] 0 with|none=>jC|some S=>decide (Am S=L.flatMap Aj) by rw[Ei,Aa ah];try rfl)
   have aa:=Ab (fun S=>(VV (K:=N.map Nd.kids) (k:=n) (S:=S)));generalize ab:Cp (N.map Nd.kids) n [] 0=ao at B aa;have ac:=Ab ab;clear ab;cases ao with
   |none=>
    have h:=Ab (show Bn N L=jC by rw[Aa W,Aa B]);go_wp2_with (first
     |(go_at_call 86;refine(Ej _ _ _ _ _ o).mono ?_;rintro e z ⟨rfl,f⟩;rw[Aa p];obtain⟨M,O⟩:=CD (j.after f NLN))
     |(go_at_call 87;refine(Fq _ _ _ _ _ (l.below f NLN) (y.below f NLN)).mono ?_;rintro e P ⟨rfl,q⟩;rw[Aa A];have i:=f.trans (q.mono f.size);obtain⟨ap,aq⟩:=CD (j.after i NLN))
     |(go_at_call 88;refine(PX _ _ _ _ _ (l.below i NLN)).mono ?_;rw[Aa ac];rintro e ar ⟨he,C⟩;change e=_ at he;subst he))
    go_ret
    exact⟨Ad (Aa h).symm,g.trans ((i.trans (C.mono i.size)).mono g.size)⟩
   |some S=>
    obtain⟨r,D⟩:∃r,Hid (L.flatMap Aj=r):=⟨_,Ab rfl⟩
    obtain⟨E,ad⟩:∃E,Hid (Am S=E):=⟨_,Ab rfl⟩
    have h:=Ab (show Bn N L=decide (E=r) by rw[Aa W,Aa B,Aa D];show decide (Am S=r)=_;rw[Aa ad]);have ay:S.length<=n:=by
     rcases Aa aa S rfl with k|⟨_,k⟩
     ·exact k.1
     ·subst k;simp
    have az:m<=600:=(of_decide_eq_true (zF _ _ ▸ Aa p).1).2;have aA:r.length<=2*m:=by have:=MX L;rw[Aa ai,Aa D]at this;exact this
    go_wp2_with (first
     |(go_at_call 86;refine(Ej _ _ _ _ _ o).mono ?_;rintro e z ⟨rfl,f⟩;rw[Aa p];obtain⟨M,O⟩:=CD (j.after f NLN))
     |(go_at_call 87;refine(Fq _ _ _ _ _ (l.below f NLN) (y.below f NLN)).mono ?_;rintro e P ⟨rfl,q⟩;rw[Aa A];have i:=f.trans (q.mono f.size);obtain⟨ap,aq⟩:=CD (j.after i NLN))
     |(go_at_call 88;refine(PX _ _ _ _ _ (l.below i NLN)).mono ?_;rw[Aa ac];rintro e ar ⟨⟨v,he,F⟩,C⟩;subst he;rw[Aa ad]at F;obtain⟨aB,aC,rfl,_⟩:=Ae F;have u:=i.trans (C.mono i.size);obtain⟨aD,aE⟩:=CD (j.after u NLN);have au:=BS F (by omega))
     |(go_at_call 89;refine(Sh _ _ _ _ _ (o.below u NLN)).mono ?_;rintro e aF ⟨v,rfl,G,ae⟩;rw[Aa D]at G;obtain⟨aG,aH,rfl,_⟩:=Ae G;have av:=BS G (by omega);have aw:=au.below ae NLN;have af:=u.trans (ae.mono u.size))
     |(go_at_call 55;refine(PP _ _ _ _ _ _ _ _ _ aw av).mono ?_;rintro e aI ⟨rfl,ax⟩))
    go_ret
    exact⟨Ad (Aa h).symm,g.trans ((af.trans (ax.mono af.size)).mono g.size)⟩
def Aaf (Es:List Ex) (f:Nat) (e:Ex):Prop:=∀ts,CQ ((List.range' f e.cnt).map (ET Es ts))=(Al ts e).map (fun _=>A7 ts e)
def Vc (Es:List Ex) (c:Nat) (k:Int):Prop:=k= -1\/∃ (mm:Nat) (e:Ex),k=mm/\Es[mm]? =X e/\c+e.cnt=mm+1/\Aaf Es c e
theorem AcZ (ts:List Int):∀(e:Ex),∃l,A7 ts e=l++[(Al ts e).getD 0]
 |.int ..| .text ..| .bool ..| .set ..| .name ..| .attr ..| .lett .. =>⟨[],rfl⟩
 |.un _ _ _=>⟨_,rfl⟩
 |.bin _ _ _ _=>⟨_,rfl⟩
 |.ite _ _ _ _=>⟨_,rfl⟩
theorem Abm {ts tt:List Int}{e:Ex}{t:Int}(h:tt.length+e.cnt=a+1)(b:Al ts e=X t):(tt++A7 ts e)[a]? =X t:=by
 obtain⟨l,c⟩:=AcZ ts e;have h2:=Ct ts e;rw[c]at h2|-;rw[zC,yF]at h2;rw[<-zT,yL (by rw[zC];omega),zC,show a-(tt.length+l.length)=0 by omega,b];rfl
theorem AfK (a:Option Addr)(n c:Nat)(N:List Nd)(k:∀x∈N,AY x=jA)(w0:World)(l:GY w0 a n c N)(B:Nat)(hB:w0.heap.size<=B)(Es:List Ex)(m:Es.length=n)(o:∀j,(h:j<Es.length)->Cg N j Es[j])(p:n<=4000)
  (lb:Nat)(ns:List ByteArray)(ts tt:List Int)(q lv i:Value)(r:∀t∈ts,1<=t/\t<=4)(A:ts.length<=1000)(s:tt.length<=4000)(f:Nat)(e:Ex)(he:Es[f]? =X e)(h1:tt.length+e.cnt=f+1)(hs:Aaf Es tt.length e)(d:World)(u:Ah w0 d)(b:Lm B lb ns ts tt q lv i d)(v:B<=d.heap.size):
  Calls j4 46 #[Y a n c,U V tt.length,U V f,jK (X ⟨lb,0,T⟩),i] d (AhN B i tt ((Al ts e).map (fun _=>A7 ts e)) d):=by
 obtain⟨w,y,rfl,z⟩:=Ae b.lets;have C:f<Es.length:=(zd.1 he).1;have e1:(f:Int)=((tt.length+e.cnt:Nat):Int)-1:=by omega
 rw[<-hs ts,e1];refine Aae a n c N k w0 l B hB lb w ts.length y ts r Es m o tt.length e.cnt (by omega) (by omega) p i tt s d u v (b.row.cell 1) b.row.lt (BS b.lets (by omega)) (fun e=>Ac b.row b.types (by decide) e.symm) (fun x hx e=>?_) b.types;by_cases h0:ts.length=0
 ·have h2:lb<d.heap.size:=b.row.lt;rcases b.lets.2 with⟨hv,_⟩|⟨g,cap,D,hv,_⟩
  ·rw[hx]at hv;cases hv
  ·rw[hx]at hv;cases hv;exact b.apart g (by rw[hx];rfl) e.symm
 ·obtain⟨g,hg,_⟩:=z (by omega);rw[hg]at hx;cases hx;exact b.apart g (by rw[hg];rfl) e.symm
theorem VW {K:List (List Int)}{c:List (Nat×Nat)}(h:Au K a c b):∀t,a<=t->t<b->∃ks:List (Nat×Nat),K[t]? =X (Am ks)/\∀p∈ks,p.1<t:=by
 induction h with
 |nil a=>intro t h1 h2;omega
 |@cons a t b ks c d f hf g i=>
  intro q h1 h2;by_cases h3:q<t
  ·exact g q h1 h3
  by_cases h4:q=t
  ·subst h4;exact⟨ks,f,fun p hp=>(d.lt p hp).2⟩
  ·exact i q (by omega) h2
theorem Adz {e:Ex} :∀{Es:List Ex},e∈Es->e.cnt<=KM Es
 |x ::Es,h=>by
  have e5:KM (x ::Es)=x.cnt+KM Es:=by simp[KM]
  rw[e5];rcases zP.1 h with rfl|h
  ·omega
  ·have:=Adz h;omega
structure MU (N:List Nd) (L:List St):Prop where
 n:N.length<=4000
 m0: 1<=L.length
 m:L.length<=600
 fields:∀x∈N,AD x=jA
 kids:∀(i:Nat) (x:Nd),N[i]? =X x->∀k∈x.kids,0<=k/\k<(i:Int)
 roots:∀s∈L,(s.cond= -1\/(0<=s.cond/\s.cond<N.length))/\(s.grant= -1\/(0<=s.grant/\s.grant<N.length))
 stm:∀s∈L,(s.kind=1/\s.name.size<=32/\0<=s.cond/\s.grant= -1)\/(s.kind=2/\0<=s.cond)\/(s.kind=3/\s.cond= -1)
 cnt:∀(Es:List Ex),Es.length=N.length->(∀j,(h:j<Es.length)->Cg N j Es[j])->∀s∈L,∀k,(k=s.cond\/k=s.grant)->0<=k->∀e,Es[k.toNat]? =X e->e.cnt<=4000
theorem PY:∀{L:List St},BX L=jA->∀s∈L,DY s=jA
 |x ::L,h,s,hs=>by
  simp only[BX,zF]at h;rcases zP.1 hs with rfl|hs
  ·exact h.1.1
  ·exact PY h.2 s hs
theorem BJ (h:Bn N L=jA):MU N L:=by
 simp only[Bn,zF,zI]at h;obtain⟨⟨⟨h1,⟨h2,h3⟩,h4⟩,h5⟩,h6⟩:=h;obtain⟨S,r,t⟩:∃S,Cp (N.map Nd.kids) N.length [] 0=X S/\Am S=L.flatMap Aj:=by
  rw[Ei]at h6;cases hq:Cp (N.map Nd.kids) N.length [] 0 with
  |none=>rw[hq]at h6;cases h6
  |some S=>rw[hq]at h6;exact⟨S,rfl,of_decide_eq_true h6⟩
 obtain⟨c,_⟩:=DZ N.length (.nil 0) (fun p hp=>(by cases hp)) r;rw[zU]at c;have m:∀s∈L,∀k∈Aj s,∃p∈S,k=(p.1:Int):=fun s hs k a=>by
  have:k∈Am S:=by rw[t];exact List.mem_flatMap.2 ⟨s,hs,a⟩
  rw[Am]at this;obtain⟨p,hp,rfl⟩:=zg.1 this;exact⟨p,hp,rfl⟩
 have d:∀s∈L,∀k∈Aj s,0<=k/\k<N.length:=fun s hs k a=>by
  obtain⟨p,hp,rfl⟩:=m s hs k a;have:=(c.lt p hp).2;omega
 have ac:∀s∈L,s.kind≠3->s.cond∈Aj s:=fun s _ h=>by rw[Aj,if_pos h];simp
 have n:∀s∈L,s.grant≠-1->s.grant∈Aj s:=fun s _ h=>by rw[Aj,if_pos h];simp
 have u:=PY h4;have stm:∀s∈L,(s.kind=1/\s.name.size<=32/\0<=s.cond/\s.grant= -1)\/(s.kind=2/\0<=s.cond)\/(s.kind=3/\s.cond= -1):=fun s hs=>by
  have h:=u s hs;rw[DY]at h;by_cases f:s.kind=1
  ·rw[if_pos f]at h;simp only[zF,zI]at h;exact .inl ⟨f,VX h.1,(d s hs _ (ac s hs (by omega))).1,h.2⟩
  rw[if_neg f]at h;by_cases o:s.kind=2
  ·exact .inr (.inl ⟨o,(d s hs _ (ac s hs (by omega))).1⟩)
  rw[if_neg o]at h;by_cases b:s.kind=3
  ·rw[if_pos b]at h;simp only[zF,zI]at h;exact .inr (.inr ⟨b,h.2⟩)
  ·rw[if_neg b]at h;cases h
 refine⟨h1,h2,h3,fun x hx=>z1.1 h5 x hx,fun i x hx k a=>?_,fun s hs=>⟨?_,?_⟩,stm,fun Es v w s hs k a h0 e he=>?_⟩
 ·have hi:i<N.length:=(zd.1 hx).1;obtain⟨ks,e1,e2⟩:=VW c i (zD _) hi;rw[zZ,hx]at e1;have e3:x.kids=Am ks:=Option.some.inj e1;rw[e3,Am]at a;obtain⟨p,hp,rfl⟩:=zg.1 a;have:=e2 p hp;omega
 ·by_cases b:s.kind=3
  ·rcases stm s hs with h|h|h
   ·omega
   ·omega
   ·exact .inl h.2
  ·exact .inr (d s hs _ (ac s hs b))
 ·by_cases g:s.grant= -1
  ·exact .inl g
  ·exact .inr (d s hs _ (n s hs g))
 ·have y:k∈Aj s:=by
   rcases a with rfl|rfl
   ·apply ac s hs;intro b;rcases stm s hs with h|h|h<;>omega
   ·exact n s hs (by omega)
  obtain⟨p,hp,rfl⟩:=m s hs k y;have l:∀q∈S,q.1<Es.length:=fun q hq=>by rw[v];exact(c.lt q hq).2
  have z:=KO c (S.attach.map (fun q=>Es[q.1.1]'(l q.1 q.2))) (by simp) (fun j h1 h2=>by
   have:=w (S[j]).1 (l _ (zH h1));simpa using this)
  rw[zV]at he;have hm:e∈S.attach.map (fun q=>Es[q.1.1]'(l q.1 q.2)):=by
   refine zg.2 ⟨⟨p,hp⟩,List.mem_attach _ _,?_⟩;exact(zd.1 he).2
  have:=Adz hm;omega
theorem Up {i:Nat}{x:Nd}{an:Option Addr}{nn cn:Nat}(hx:N[i]? =X x)(hf:AD x=jA)(b:∀k∈x.kids,0<=k/\k<i)(c:Es.length=i)
  (d:∀j,(h:j<Es.length)->Cg N j Es[j])(A:∀e∈Es,e.typed):∃e,MkT Es i x an nn cn e/\Cg N i e/\e.typed:=by
 rw[AD,zF,zI]at hf;obtain⟨B,hf⟩:=hf;have u:∀n:Nat,CI x.op=n->x.kids.length=n:=fun n e=>by omega
 have q:(1<=x.op/\x.op<=7)->x.kids=[]:=fun h=>z9 (u 0 (by rw[CI,if_pos h];rfl));have r:∀{m:Nat} {e:Ex},Es[m]? =X e->e.typed:=fun h=>A _ (zp h);by_cases h1:x.op=1
 ·exact⟨_,.int h1,.int hx h1 (q (by omega)),trivial⟩
 by_cases h2:x.op=2
 ·exact⟨_,.text h2,.text hx h2 (q (by omega)),trivial⟩
 by_cases h3:x.op=3
 ·exact⟨_,.bool h3,.bool hx h3 (q (by omega)),trivial⟩
 by_cases h4:x.op=4
 ·exact⟨_,.set h4,.set hx h4 (q (by omega)) an nn cn,trivial⟩
 by_cases h5:x.op=5
 ·rw[JT,if_pos h5]at hf;cases hf
 by_cases h6:x.op=6
 ·rw[JT,if_neg h5,if_pos h6]at hf;simp only[zF,zI]at hf;exact⟨_,.attr h6,.attr hx h6 (q (by omega)),hf.1.1⟩
 by_cases h7:x.op=7
 ·exact⟨_,.lett h7,.lett hx h7 (q (by omega)),trivial⟩
 by_cases h8: 8<=x.op/\x.op<=10
 ·have s:=u 1 (by rw[CI,if_neg (by omega),if_pos h8];rfl)
  match a:x.kids,s with
  |[k],_=>
   obtain⟨m,e,rfl,hm,g1,g2⟩:=JV c d (b k (by rw[a];simp));exact⟨_,.un h8 a g1,.un hx h8 a hm g2,h8,r g1⟩
 by_cases h11: 11<=x.op/\x.op<=26
 ·have s:=u 2 (by rw[CI,if_neg (by omega),if_neg h8,if_pos h11];rfl)
  match a:x.kids,s with
  |[k,l],_=>
   obtain⟨m,e,rfl,hm,g1,g2⟩:=JV c d (b k (by rw[a];simp));obtain⟨n,f,rfl,w,t,y⟩:=JV c d (b l (by rw[a];simp));exact⟨_,.bin h11 a g1 t,.bin hx h11 a ⟨hm,w⟩ g2 y,h11,r g1,r t⟩
 by_cases v:x.op=27
 ·have s:=u 3 (by rw[CI,if_neg (by omega),if_neg h8,if_neg h11,if_pos v];rfl)
  match a:x.kids,s with
  |[k,l,o],_=>
   obtain⟨m,e,rfl,hm,g1,g2⟩:=JV c d (b k (by rw[a];simp));obtain⟨n,f,rfl,w,t,y⟩:=JV c d (b l (by rw[a];simp));obtain⟨p,g,rfl,hp,z,C⟩:=JV c d (b o (by rw[a];simp));exact⟨_,.ite v a g1 t z,.ite hx v a ⟨hm,w,hp⟩ g2 y C,r g1,r t,r z⟩
 ·rw[CI,if_neg (by omega),if_neg h8,if_neg h11,if_neg v]at B;omega
theorem VT {w0:World}(h:MU N L):Aar w0 N Ex.typed:=
 fun k x an nn cn Es hx a b hf hS=>Up hx (h.fields _ (zp hx)) (h.kids k _ hx) a b hf
theorem AhV (h:MU N L)(b:Es.length=N.length)(c:∀j,(h:j<Es.length)->Cg N j Es[j])(hf:∀e∈Es,e.typed):∀s∈L,okP Es s.cond/\okP Es s.grant:=fun s hs=>by
 obtain⟨d,r2⟩:=h.roots s hs;have get:∀k,(k=s.cond\/k=s.grant)->0<=k/\k<N.length->okP Es k:=fun k f a=>
  .inr ⟨k.toNat,Es[k.toNat]'(by omega),by omega,zG _,hf _ (zH _),h.cnt Es b c s hs k f a.1 _ (zG (by omega))⟩
 exact⟨d.elim .inl (fun a=>get _ (.inl rfl) a),r2.elim .inl (fun a=>get _ (.inr rfl) a)⟩
theorem Iw (Es:List Ex):∀(L:List St),(∀s∈L,Bj Es s.cond+Bj Es s.grant=((Aj s).map (Bj Es)).sum)->Dl Es L=((L.flatMap Aj).map (Bj Es)).sum
 |[],_=>rfl
 |s ::L,h=>by
  have a:=Iw Es L (fun x hx=>h x (zf _ hx));have h1:=h s (za ..);have e:Dl Es (s ::L)=Bj Es s.cond+Bj Es s.grant+Dl Es L:=by simp[Dl]
  rw[e,h1,a,zi,zR,List.sum_append]
theorem Age (h:Bn N L=jA)(f:Es.length=N.length)(i:∀j,(h:j<Es.length)->Cg N j Es[j]):Dl Es L<=4000:=by
 have c:=BJ h;have t:=c.n;simp only[Bn,zF,zI]at h;obtain⟨⟨⟨h1,⟨h2,h3⟩,h4⟩,h5⟩,h6⟩:=h;obtain⟨S,l,m⟩:∃S,Cp (N.map Nd.kids) N.length [] 0=X S/\Am S=L.flatMap Aj:=by
  rw[Ei]at h6;cases hq:Cp (N.map Nd.kids) N.length [] 0 with
  |none=>rw[hq]at h6;cases h6
  |some S=>rw[hq]at h6;exact⟨S,rfl,of_decide_eq_true h6⟩
 obtain⟨b,_⟩:=DZ N.length (.nil 0) (fun p hp=>(by cases hp)) l;rw[zU]at b;have e1:∀s∈L,Bj Es s.cond+Bj Es s.grant=((Aj s).map (Bj Es)).sum:=fun s hs=>by
  have o:Bj Es s.grant=((if s.grant≠-1 then [s.grant]else []).map (Bj Es)).sum:=by
   by_cases g:s.grant= -1
   ·rw[if_neg (fun k=>k g),g];rfl
   ·rw[if_pos g];simp
  rw[Aj,zR,List.sum_append,<-o]
  congr 1
  by_cases d:s.kind=3
  ·rw[if_neg (fun k=>k d)];rcases c.stm s hs with q|q|q
   ·omega
   ·omega
   ·rw[q.2];rfl
  ·rw[if_pos d];simp
 rw[Iw Es L e1,<-m];have a:∀q∈S,q.1<Es.length:=fun q hq=>by rw[f];exact(b.lt q hq).2
 have u:=KO b (S.attach.map (fun q=>Es[q.1.1]'(a q.1 q.2))) (by simp) (fun j h1 h2=>by
  have:=i (S[j]).1 (a _ (zH h1));simpa using this)
 have e2:(Am S).map (Bj Es)=(S.attach.map (fun q=>Es[q.1.1]'(a q.1 q.2))).map Ex.cnt:=by
  apply yD
  ·simp[Am]
  ·intro j h1 h2;have r:j<S.length:=by simpa[Am]using h1
   have hq:=a S[j] (zH r);simp only[Am,List.getElem_map,List.getElem_attach];exact Fx rfl (zG hq)
 rw[e2];have e3:((S.attach.map (fun q=>Es[q.1.1]'(a q.1 q.2))).map Ex.cnt).sum=KM (S.attach.map (fun q=>Es[q.1.1]'(a q.1 q.2))):=rfl;rw[e3];omega
end Go.Proofs.YteiieikcjcfkkaaGreatDoor
