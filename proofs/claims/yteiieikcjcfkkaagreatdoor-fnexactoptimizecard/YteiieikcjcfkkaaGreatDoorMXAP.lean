import Derived.Test.YteiieikcjcfkkaaGreatDoorMXAJ
open Go.Proofs.Tryz
open Option renaming none->T,some->X
open Go.Value renaming int->U,slice->Y,string->Q,agg->jG,tuple->jO
open Go.IntKind renaming i64->V,u64->jP
open Go renaming World->Z,Addr->jD,Calls->jE,bodyPost_ret->jN,results->jR
open And renaming intro->jS
open Go.Proofs.Tryz renaming prog->j4
namespace Go.Proofs.YteiieikcjcfkkaaGreatDoor
open Go.RowKit
set_option linter.unusedVariables false
set_option maxRecDepth 100000
set_option maxHeartbeats 6400000
variable {text text':ByteArray}{op num' l:Int}{ss tt:List ByteArray}{n c n2 c2 g o cap:Nat}{s a2:Option jD}{t:TypeId}{f:Z}
section
variable {a b : Int} {w : Z}
theorem Af7 (l:Di a)(m:Di b)(h0:b≠0):
  jE j4 151 #[U V 4,U V a,U V b] w fun e w'=>e= .returned (jO #[U V (AZ 4 a b).1,U V (AZ 4 a b).2])/\Ah w w':=by
 have hx:(a.natAbs:Int)<=9223372036854775808:=by have:=l.lo;have:=l.hi;omega
 have hy:(b.natAbs:Int)<=9223372036854775808:=by have:=m.lo;have:=m.hi;omega
 have e0:(b==0)=false:=zA.2 h0;have C:(0 :Int)<(b.natAbs:Int):=by omega
 have u:=Ab (Ada a b);have h3: 0<=(a.natAbs:Int) / (b.natAbs:Int):=Int.ediv_nonneg (by omega) (by omega);have h4:(a.natAbs:Int) / (b.natAbs:Int)<18446744073709551616:=by have:=Int.ediv_le_self (b.natAbs:Int) (show 0<=(a.natAbs:Int) by omega);omega
 have v:=Ab (Vm h3 h4);go_enter func151,ntmps151
 go_wp2_with fail
 refine(AV a w l).mono ?_;rintro e n ⟨rfl,o⟩;have i:=o.alloc o.size (.cells #[.bool (decide (a<0)),U jP 0,U jP (a.natAbs:Int)] 265);have p:=Ag.new n #[.bool (decide (a<0)),U jP 0,U jP (a.natAbs:Int)] 265;go_wp2_with fail
 refine(AV b _ m).mono ?_;rintro e j ⟨rfl,c⟩;have q:=(i.trans (c.mono i.size)).alloc (zB i.size c.size) (.cells #[.bool (decide (b<0)),U jP 0,U jP (b.natAbs:Int)] 265);have d:=(p.after c NLN).alloc (.cells #[.bool (decide (b<0)),U jP 0,U jP (b.natAbs:Int)] 265);have g:=Ag.new j #[.bool (decide (b<0)),U jP 0,U jP (b.natAbs:Int)] 265;have r:=c.size;simp only[World.size_alloc]at r;clear p i o c r;have s:=d.cell 0;have c1:=d.cell 1;have c2:=d.cell 2;simp at s c1 c2;generalize D:j.alloc (.cells #[.bool (decide (b<0)),U jP 0,U jP (b.natAbs:Int)] 265)=k at*;have t:=g.cell 0;have d1:=g.cell 1;have d2:=g.cell 2;simp at t d1 d2;go_wp2_with fail
 go_region_held3 (fun w'=>w'.cell? ⟨n.heap.size,0,T⟩=X (.bool (decide (a<0)))/\w'.cell? ⟨n.heap.size,2,T⟩=X (U jP (a.natAbs:Int))/\w'.cell? ⟨j.heap.size,0,T⟩=X (.bool (decide (b<0)))/\w'.cell? ⟨j.heap.size,2,T⟩=X (U jP (b.natAbs:Int))) (go_keep)
  ((go_at_call 176;rw[Aa v];refine(Fd _ _ _ _ ?_ ?_ ?_ ?_).mono ?_;omega;omega;exact h3;exact h4;rintro e E ⟨rfl,h⟩;have x:=(Ag.after (w:=k.drew) ⟨d.out⟩ h NLN).cell 0;have y:=(Ag.after (w:=k.drew) ⟨d.out⟩ h NLN).cell 2;have z:=(Ag.after (w:=k.drew) ⟨g.out⟩ h NLN).cell 0;have A:=(Ag.after (w:=k.drew) ⟨g.out⟩ h NLN).cell 2;simp at x y z A))
 all_goals
  rw[Aa u];generalize hf:fit (a.tdiv b)=f;have B:=Ab (show AZ 4 a b=f by rw[<-hf,AZ];simp[Vp,h0]);clear hf t d1 d2 s c1 c2;go_wp2
  go_ret2
  exact⟨GU (Aa B).symm,q.drew.trans (h.mono q.size)⟩
theorem Af8 (t:Di a)(l:Di b)(h0:b≠0):
  jE j4 151 #[U V 5,U V a,U V b] w fun e w'=>e= .returned (jO #[U V (AZ 5 a b).1,U V (AZ 5 a b).2])/\Ah w w':=by
 have hy:(b.natAbs:Int)<=9223372036854775808:=by have:=l.lo;have:=l.hi;omega
 have e0:(b==0)=false:=zA.2 h0;have u:(0 :Int)<(b.natAbs:Int):=by omega
 have v:=Ab (Adb a b);have h3: 0<=(a.natAbs:Int) % (b.natAbs:Int):=Int.emod_nonneg _ (by omega);have h4:(a.natAbs:Int) % (b.natAbs:Int)<18446744073709551616:=by have:=Int.emod_lt_of_pos (a.natAbs:Int) u;omega
 have x:=Ab (Int.tmod_eq_emod_of_nonneg (b:=(b.natAbs:Int)) (show 0<=(a.natAbs:Int) by omega));go_enter func151,ntmps151
 go_wp2_with fail
 refine(AV a w t).mono ?_;rintro e m ⟨rfl,n⟩;have i:=n.alloc n.size (.cells #[.bool (decide (a<0)),U jP 0,U jP (a.natAbs:Int)] 265);have o:=Ag.new m #[.bool (decide (a<0)),U jP 0,U jP (a.natAbs:Int)] 265;go_wp2_with fail
 refine(AV b _ l).mono ?_;rintro e j ⟨rfl,c⟩;have p:=(i.trans (c.mono i.size)).alloc (zB i.size c.size) (.cells #[.bool (decide (b<0)),U jP 0,U jP (b.natAbs:Int)] 265);have d:=(o.after c NLN).alloc (.cells #[.bool (decide (b<0)),U jP 0,U jP (b.natAbs:Int)] 265);have g:=Ag.new j #[.bool (decide (b<0)),U jP 0,U jP (b.natAbs:Int)] 265;have q:=c.size;simp only[World.size_alloc]at q;clear o i n c q;have r:=d.cell 0;have c1:=d.cell 1;have c2:=d.cell 2;simp at r c1 c2;generalize D:j.alloc (.cells #[.bool (decide (b<0)),U jP 0,U jP (b.natAbs:Int)] 265)=k at*;have s:=g.cell 0;have d1:=g.cell 1;have d2:=g.cell 2;simp at s d1 d2;go_wp2_with fail
 go_region_held3 (fun w'=>w'.cell? ⟨m.heap.size,0,T⟩=X (.bool (decide (a<0)))/\w'.cell? ⟨m.heap.size,2,T⟩=X (U jP (a.natAbs:Int))/\w'.cell? ⟨j.heap.size,0,T⟩=X (.bool (decide (b<0)))/\w'.cell? ⟨j.heap.size,2,T⟩=X (U jP (b.natAbs:Int))) (go_keep)
  ((go_at_call 176;rw[Aa x];refine(Fd _ _ _ _ ?_ ?_ ?_ ?_).mono ?_;omega;omega;exact h3;exact h4;rintro e E ⟨rfl,h⟩;have y:=(Ag.after (w:=k.drew) ⟨d.out⟩ h NLN).cell 0;have z:=(Ag.after (w:=k.drew) ⟨d.out⟩ h NLN).cell 2;have A:=(Ag.after (w:=k.drew) ⟨g.out⟩ h NLN).cell 0;have B:=(Ag.after (w:=k.drew) ⟨g.out⟩ h NLN).cell 2;simp at y z A B))
 all_goals
  rw[Aa v];generalize hf:fit (a.tmod b)=f;have C:=Ab (show AZ 5 a b=f by rw[<-hf,AZ];simp[Uj,h0]);clear hf s d1 d2 r c1 c2;go_wp2
  go_ret2
  exact⟨GU (Aa C).symm,p.drew.trans (h.mono p.size)⟩
theorem SS (op:Int)(c:Di a)(d:Di b):
  jE j4 151 #[U V op,U V a,U V b] w fun e w'=>e= .returned (jO #[U V (AZ op a b).1,U V (AZ op a b).2])/\Ah w w':=by
 by_cases h1:op=1
 ·subst h1;exact Af3 c d
 by_cases h2:op=2
 ·subst h2;exact Af4 c d
 by_cases h3:op=3
 ·subst h3;exact Af5 c d
 by_cases h4:op=4
 ·subst h4;by_cases h0:b=0
  ·exact Adc c d h0
  ·exact Af7 c d h0
 by_cases h5:op=5
 ·subst h5;by_cases h0:b=0
  ·exact Add c d h0
  ·exact Af8 c d h0
 exact Af6 c d op h1 h2 h3 h4 h5
end
theorem TW {w:Z}{b:Nat}{a c d f:Value}(R:Ag w b #[a,c,d,f] t):w.cell? ⟨b,0,T⟩=X a/\w.cell? ⟨b,1,T⟩=X c/\w.cell? ⟨b,2,T⟩=X d/\w.cell? ⟨b,3,T⟩=X f:=⟨R.cell 0,R.cell 1,R.cell 2,R.cell 3⟩
def MVx (w:Z) (num:Int) (text:ByteArray) (a:Option jD) (n c:Nat) (v:Vv):Prop:=
 (match v with
  |.bool b=>num=(if b then 1 else 0)/\text=⟨#[]⟩
  |.int k=>(num=k/\Di k)/\text=⟨#[]⟩
  |.text s=>num=0/\text=s
  |.set _=>num=0/\text=⟨#[]⟩)/\Ap w a n c v.names/\v.names.length<=1048576/\ZS w a c
theorem MVx.below {w w':Z}{B:Nat}{num:Int}{text:ByteArray}{a:Option jD}{n c:Nat}{v:Vv}(h:MVx w num text a n c v)(b:Below B w w')(hB:w.heap.size<=B):MVx w' num text a n c v:=⟨h.1,h.2.1.below b hB,h.2.2.1,h.2.2.2.below b hB⟩
open Classical in
theorem MVx.same {w:Z}   {a:Option jD} {n' c':Nat} {v u:Vv} (h:MVx w op text a n c v) (h':MVx w num' text' a2 n' c' u) (ht:v.ty=u.ty):Dj v u=eqP op num' text text' v.names u.names:=by
 rw[Dj,eqP,decide_eq_decide];rcases v with b|_|_|_<;>rcases u with d|_|_|_<;>first|(simp[Vv.ty]at ht;done)|skip
 all_goals
  first|obtain⟨⟨⟨rfl,_⟩,rfl⟩,_⟩:=h|obtain⟨⟨rfl,rfl⟩,_⟩:=h
  first|obtain⟨⟨⟨rfl,_⟩,rfl⟩,_⟩:=h'|obtain⟨⟨rfl,rfl⟩,_⟩:=h'
 ·cases b<;>cases d<;>simp[Vv.names]
 all_goals simp[Vv.names]
theorem st4 {w f:Z}{s:Nat}{g h i k:Value}(R:Ag f s #[g,h,i,k] t)(B:Below s w f)(a b c d:Value):(f.cell? ⟨s,0,T⟩=X g/\f.cell? ⟨s,1,T⟩=X h/\f.cell? ⟨s,2,T⟩=X i/\f.cell? ⟨s,3,T⟩=X k)/\((∀j,f.frozen? ⟨s,j,T⟩=false)/\(∀j,(f.setCell ⟨s,0,T⟩ a).frozen? ⟨s,j,T⟩=false)/\(∀j,((f.setCell ⟨s,0,T⟩ a).setCell ⟨s,1,T⟩ b).frozen? ⟨s,j,T⟩=false)/\∀j,(((f.setCell ⟨s,0,T⟩ a).setCell ⟨s,1,T⟩ b).setCell ⟨s,2,T⟩ c).frozen? ⟨s,j,T⟩=false)/\Ag ((((f.setCell ⟨s,0,T⟩ a).setCell ⟨s,1,T⟩ b).setCell ⟨s,2,T⟩ c).setCell ⟨s,3,T⟩ d) s #[a,b,c,d] t/\Below s w ((((f.setCell ⟨s,0,T⟩ a).setCell ⟨s,1,T⟩ b).setCell ⟨s,2,T⟩ c).setCell ⟨s,3,T⟩ d):=by
 have l:=R.set 0 a;have m:=l.set 1 b;have n:=m.set 2 c;exact⟨TW R,⟨fun j=>R.frozen j,fun j=>l.frozen j,fun j=>m.frozen j,fun j=>n.frozen j⟩,n.set 3 d,(((B.setCell (p:=⟨s,0,T⟩) NLN a).setCell (p:=⟨s,1,T⟩) NLN b).setCell (p:=⟨s,2,T⟩) NLN c).setCell (p:=⟨s,3,T⟩) NLN d⟩
theorem Abf {w:Z}{b a:Int}(h:Di b):(match DF (b,a)with
  |.ok v=>a=0/\MVs w b ⟨#[]⟩ T 0 0 v
  |.err e=>a=e/\e≠0):=by
 rw[DF];by_cases h0:a=0
 ·rw[if_pos h0];exact⟨h0,⟨rfl,h⟩,rfl,rfl,rfl,rfl⟩
 ·rw[if_neg h0];exact⟨rfl,h0⟩
structure C8 (w:Z) (g o:Nat) (m:Int) (s:ByteArray) (a:Option jD) (n c:Nat) (m':Int) (s':ByteArray) (a':Option jD) (n' c':Nat):Prop where
 e0:w.cell? ⟨g,o,T⟩=X (U V 0)
 e1:w.cell? ⟨g,o+1,T⟩=X (U V m)
 e2:w.cell? ⟨g,o+2,T⟩=X (Q s)
 e3:w.cell? ⟨g,o+3,T⟩=X (Y a n c)
 e4:w.cell? ⟨g,o+4,T⟩=X (U V 0)
 e5:w.cell? ⟨g,o+5,T⟩=X (U V m')
 e6:w.cell? ⟨g,o+6,T⟩=X (Q s')
 e7:w.cell? ⟨g,o+7,T⟩=X (Y a' n' c')
 hg:g<w.heap.size
theorem ZF {k:Int}(f: 11<=op/\op<=15)(hi:Di k)(r:Di l){t:Option jD}{u x y z:Nat}{w:Z}(h:C8 w g o k ⟨#[]⟩ s u x l ⟨#[]⟩ t y z):
  jE j4 122 #[U V op,Y (X ⟨g,o,T⟩) 2 cap] w (VI (Ch op (.int k) (.int l)) w):=by
 obtain⟨e0,e1,e2,e3,e4,e5,e6,e7,hg⟩:=h;have d:=Ab (fun (c:Z)=>SS (w:=c) (op-10) hi r);have h2:=Ab (JR (op-10) k l);have i:=Ab (MS (a:=k) (b:=l) f);generalize AZ (op-10) k l=p at d h2 i;obtain⟨j,m⟩:=p;rcases(show op=11\/op=12\/op=13\/op=14\/op=15 by omega)with rfl|rfl|rfl|rfl|rfl
 all_goals
  simp only[Int.reduceSub]at d;clear f;go_enter func122,ntmps122
  go_wp2_with fail
  refine VQ (P:=fun c=>jE _ _ _ c _) fun c n A _ _=>?_;refine(Aa d c).mono ?_;rintro H I ⟨rfl,q⟩;obtain⟨⟨J,K,x2,x3⟩,⟨L,M,N,O⟩,B,C⟩:=st4 (A.after q NLN) (n.trans (q.mono n.size)) (U V m) (U V j) (Q ⟨#[]⟩) (Y T 0 0);obtain⟨D,E,F,G⟩:=TW B;dsimp only;go_wp2_with fail
  refine jN (v:= jG #[U V m,U V j,Q ⟨#[]⟩,Y T 0 0]) (by simp[jR,results122,go_sem,D,E,F,G]) rfl ⟨⟨_,_,_,_,_,_,rfl,?_⟩,C⟩
  rw[Aa i];exact Abf (Aa h2)
theorem AjK {s B n:Nat}{x:Option jD}{g:Nat}{K:List ByteArray}{cs:Array Value}(O:f.ownsRow B 9 1 (Y x n g) n (K.map Q))(R:Ag f s cs 139)(i:∀j,j<n->(Aw K j).size<=maxLen)(a b c d:Value):Ap ((((f.setCell ⟨s,0,T⟩ a).setCell ⟨s,1,T⟩ b).setCell ⟨s,2,T⟩ c).setCell ⟨s,3,T⟩ d) x n g K/\ZS ((((f.setCell ⟨s,0,T⟩ a).setCell ⟨s,1,T⟩ b).setCell ⟨s,2,T⟩ c).setCell ⟨s,3,T⟩ d) x g:=by
 have hq:=Ac R O (by decide);exact⟨Ap.of_owns (AW (AW (AW (AW O _ _ fun q h e=>hq (by rw[h,e])) _ _ fun q h e=>hq (by rw[h,e])) _ _ fun q h e=>hq (by rw[h,e])) _ _ fun q h e=>hq (by rw[h,e])) i,((((ZS.of_owns O).setCell _ _ _).setCell _ _ _).setCell _ _ _).setCell _ _ _⟩
theorem UW {a:Option jD}{w:Z}(h:C8 w g o 0 ⟨#[]⟩ a n c 0 ⟨#[]⟩ a2 n2 c2)(hS:Ap w a n c ss)(b:Ap w a2 n2 c2 tt)(d:a=T->c=0)(f:a2=T->c2=0):
  jE j4 122 #[U V 16,Y (X ⟨g,o,T⟩) 2 cap] w (VI (Ch 16 (.set ss) (.set tt)) w):=by
 obtain⟨e0,e1,e2,e3,e4,e5,e6,e7,hg⟩:=h;have t:=Ab (jS (jS hS b) (jS d f));clear hS b d f;go_enter func122,ntmps122
 go_wp2_with fail
 refine VQ (P:=fun m=>jE _ _ _ m _) fun m i u _ _=>?_;obtain⟨⟨hS,b⟩,d,f⟩:=Aa t;refine(VH a n c ss a2 n2 c2 tt _ (hS.below i NLN) (b.below i NLN) d f).mono ?_;rintro E F ⟨x,j,K,e,rfl,p,q,k⟩;have l:=u.after q NLN;obtain⟨⟨G,H,x2,x3⟩,⟨I,J,L,M⟩,y,z⟩:=st4 l (i.trans (q.mono i.size)) (U V e) (U V 0) (Q ⟨#[]⟩) (Y x K.length j);obtain⟨A,B,C,D⟩:=TW y;have r:=Ab (AjK p l (k.sizes (Fe hS) (Fe b)) (U V e) (U V 0) (Q ⟨#[]⟩) (Y x K.length j));have s:=Ab k;clear hS b d f k p l;dsimp only;go_wp2_with fail
 refine jN (v:= jG #[U V e,U V 0,Q ⟨#[]⟩,Y x K.length j]) (by simp[jR,results122,go_sem,A,B,C,D]) rfl ⟨⟨_,_,_,_,_,_,rfl,?_⟩,z⟩
 rw[Jh,MR (Aa s),EV];by_cases h0:e=0
 ·rw[if_pos h0];exact⟨h0,rfl,rfl,(Aa r).1,by have:=(Aa s).len;show K.length<=1048576;omega,(Aa r).2⟩
 ·rw[if_neg h0];exact⟨rfl,h0⟩
theorem ZG (t:op=17\/op=18){a:Option jD}{w:Z}(h:C8 w g o 0 ⟨#[]⟩ a n c 0 ⟨#[]⟩ a2 n2 c2)(hS:Ap w a n c ss)(b:Ap w a2 n2 c2 tt)(l1:ss.length<=1048576):
  jE j4 122 #[U V op,Y (X ⟨g,o,T⟩) 2 cap] w (VI (Ch op (.set ss) (.set tt)) w):=by
 obtain⟨e0,e1,e2,e3,e4,e5,e6,e7,hg⟩:=h;have u:=Ab (jS hS b);have f:=jS (PE ss tt (Fe hS)) (zB (VB ss tt) l1);have i:=jS (N6 ss tt (Fe hS)) (zB (SV ss tt) l1);clear hS b;rcases t with rfl|rfl
 case' inl=>
  rw[PB];generalize j:BR ss tt=K at f;have k:=Ab f
 case' inr=>
  rw[N3];generalize j:Bc ss tt=K at i;have k:=Ab i
 all_goals
  have y:=Ab j;clear j f i;go_enter func122,ntmps122
  go_wp2_with fail
  refine VQ (P:=fun q=>jE _ _ _ q _) fun q d z _ _=>?_;obtain⟨hS,b⟩:=Aa u
  first|with_reducible refine(AbQ a n c ss a2 n2 c2 tt _ (hS.below d NLN) (b.below d NLN)).mono ?_|with_reducible refine(YQ a n c ss a2 n2 c2 tt _ (hS.below d NLN) (b.below d NLN)).mono ?_
  rintro G H ⟨x,l,rfl,m,r⟩;rw[Aa y]at m|-;have p:=z.after r NLN;obtain⟨⟨I,J,x2,x3⟩,⟨L,M,N,O⟩,A,B⟩:=st4 p (d.trans (r.mono d.size)) (U V 0) (U V 0) (Q ⟨#[]⟩) (Y x K.length l);obtain⟨C,D,E,F⟩:=TW A;have s:=Ab (AjK m p (Aa k).1 (U V 0) (U V 0) (Q ⟨#[]⟩) (Y x K.length l));clear hS b m p;dsimp only;go_wp2_with fail
  exact jN (v:= jG #[U V 0,U V 0,Q ⟨#[]⟩,Y x K.length l]) (by simp[jR,results122,go_sem,C,D,E,F]) rfl ⟨⟨_,_,_,_,_,_,rfl,rfl,rfl,rfl,(Aa s).1,(Aa k).2,(Aa s).2⟩,B⟩
theorem UX {i:Int}{j:ByteArray}{a:Option jD}{w:Z}{b:Bool}(h:C8 w g o num' text a n c i j a2 n2 c2)(hS:Ap w a n c ss)(d:Ap w a2 n2 c2 tt)(r:op=19/\eqP num' i text j ss tt=b\/op=20/\(!eqP num' i text j ss tt)=b\/op=21/\decide (num'<i)=b\/op=22/\decide (num'<=i)=b\/op=23/\Kb tt text=b\/op=24/\DO ss tt=b):
  jE j4 122 #[U V op,Y (X ⟨g,o,T⟩) 2 cap] w (VI (.ok (.bool b)) w):=by
 obtain⟨e0,e1,e2,e3,e4,e5,e6,e7,hg⟩:=h;have s:=Ab (jS hS d);clear hS d;rcases r with⟨rfl,h⟩|⟨rfl,h⟩|⟨rfl,h⟩|⟨rfl,h⟩|⟨rfl,h⟩|⟨rfl,h⟩
 all_goals
  have m:=Ab h;clear h;go_enter func122,ntmps122
  go_wp2_with fail
  refine VQ (P:=fun k=>jE _ _ _ k _) fun k f t _ _=>?_
  first
   |rw[Aa m]
    have l:=Ji k
   |obtain⟨hS,d⟩:=Aa s
    first|with_reducible refine(EL 0 num' text a n c ss 0 i j a2 n2 c2 tt _ (hS.below f NLN) (d.below f NLN)).mono ?_|with_reducible refine(XI a n c ss a2 n2 c2 tt _ (hS.below f NLN) (d.below f NLN)).mono ?_|with_reducible refine((NF a2 n2 c2 tt text _ (d.below f NLN)).mono (R':=fun e w'=>e= .returned (.bool (Kb tt text))/\Ah k w') fun e w' h=>⟨h.1,h.2 ▸ BRN⟩).mono ?_
    rintro u F ⟨rfl,l⟩;clear hS d;dsimp only;go_wp2_with fail
    rw[Aa m]
  refine(VJ b _).mono ?_;rintro u G ⟨⟨cd,nm,H,I,J,K,rfl,rfl,p,rfl,rfl,rfl,rfl⟩,x⟩;have y:=Ab p;clear p;have q:=l.trans (x.mono l.size);obtain⟨⟨L,M,x2,x3⟩,⟨N,O,S,W⟩,z,A⟩:=st4 (t.after q NLN) (f.trans (q.mono f.size)) (U V 0) (U V nm) (Q ⟨#[]⟩) (Y T 0 0);obtain⟨B,C,D,E⟩:=TW z;dsimp only;go_wp2_with fail
  exact jN (v:= jG #[U V 0,U V nm,Q ⟨#[]⟩,Y T 0 0]) (by simp[jR,results122,go_sem,B,C,D,E]) rfl ⟨⟨_,_,_,_,_,_,rfl,rfl,Aa y,rfl,rfl,rfl,rfl⟩,A⟩
open Classical in
theorem Afm (tt:List ByteArray) (s:ByteArray):Kb tt s=decide (s∈tt):=by
 rw[zO,zI];exact Rm tt s
theorem WU (op:Int)(v:Vv)(t:Int)(B:nz (Ba op [v.ty])=X t)(num:Int)(text:ByteArray)(a:Option jD)(n c:Nat)(g o cap:Nat)(w:Z)(hv:MVx w num text a n c v)(e0:w.cell? ⟨g,o,T⟩=X (U V 0))(e1:w.cell? ⟨g,o+1,T⟩=X (U V num))(e2:w.cell? ⟨g,o+2,T⟩=X (Q text))(e3:w.cell? ⟨g,o+3,T⟩=X (Y a n c))(hg:g<w.heap.size):
  jE j4 122 #[U V op,Y (X ⟨g,o,T⟩) 1 cap] w (VI (GV op v) w):=by
 have d:∀x y z,Ah w (((w.alloc x).alloc y).alloc z):=fun x y z=>((Av w _).alloc (by simp) _).alloc (by simp;omega) _;rcases DV B with⟨rfl,f,_⟩|⟨rfl,f,_⟩|⟨rfl,f,_⟩
 ·obtain⟨k,rfl⟩:=Vv.int_of f;obtain⟨⟨⟨rfl,hi⟩,rfl⟩,_⟩:=hv;have j:=Ab (fun (h:Z)=>SS (w:=h) 2 (a:=0) ⟨by decide,by decide⟩ hi);have h2:=Ab (JR 2 0 num);have l:=Ab (show GV 8 (.int num)=DF (AZ 2 0 num)from rfl);generalize AZ 2 0 num=p at j h2 l;obtain⟨m,q⟩:=p;clear d;go_enter func122,ntmps122
  go_wp2_with fail
  refine VQ (P:=fun h=>jE _ _ _ h _) fun h r C _ _=>?_;refine(Aa j h).mono ?_;rintro J K ⟨rfl,s⟩;obtain⟨⟨L,M,x2,x3⟩,⟨N,O,S,W⟩,D,E⟩:=st4 (C.after s NLN) (r.trans (s.mono r.size)) (U V q) (U V m) (Q ⟨#[]⟩) (Y T 0 0);obtain⟨F,G,H,I⟩:=TW D;dsimp only;go_wp2_with fail
  refine jN (v:= jG #[U V q,U V m,Q ⟨#[]⟩,Y T 0 0]) (by simp[jR,results122,go_sem,F,G,H,I]) rfl ⟨⟨_,_,_,_,_,_,rfl,?_⟩,E⟩
  rw[Aa l];exact Abf (Aa h2)
 ·obtain⟨b,rfl⟩:=Vv.bool_of f;obtain⟨⟨rfl,rfl⟩,_⟩:=hv;have i:=Ab d;clear d;cases b
  all_goals
   simp only[if_true,Bool.false_eq_true,if_false]at e1;go_enter func122,ntmps122
   go_wp2_with fail
   exact jN (v:= jG #[U V 0,U V _,Q ⟨#[]⟩,Y T 0 0]) (by simp[jR,results122,go_sem]) rfl ⟨⟨_,_,_,_,_,_,rfl,rfl,rfl,rfl,rfl,rfl,rfl⟩,Aa i _ _ _⟩
 ·obtain⟨k,rfl⟩:=Vv.set_of f;obtain⟨⟨rfl,rfl⟩,hS,_,_⟩:=hv;have i:=Ab d;have u:n=k.length:=by first|exact hS.len|exact hS.len.symm
  have A:=Ab u;have hi:Di (n:Int):=⟨by omega,by have:=hS.cap;have:=hS.small;unfold maxLen at this;omega⟩
  clear d hS u;go_enter func122,ntmps122
  go_wp2_with fail
  exact jN (v:= jG #[U V 0,U V n,Q ⟨#[]⟩,Y T 0 0]) (by simp[jR,results122,go_sem]) rfl ⟨⟨_,_,_,_,_,_,rfl,rfl,⟨congrArg _ (Aa A),Aa A ▸ hi⟩,rfl,rfl,rfl,rfl⟩,Aa i _ _ _⟩
theorem WV (op:Int)(v u:Vv)(t:Int)(z:nz (Ba op [v.ty,u.ty])=X t)(hc:op≠25/\op≠26)(num:Int)(text:ByteArray)(a:Option jD)(n c:Nat)(r:Int)(s:ByteArray)(a2:Option jD)(n2 c2:Nat)(g o cap:Nat)(w:Z)(hv:MVx w num text a n c v)(m:MVx w r s a2 n2 c2 u)(e0:w.cell? ⟨g,o,T⟩=X (U V 0))(e1:w.cell? ⟨g,o+1,T⟩=X (U V num))(e2:w.cell? ⟨g,o+2,T⟩=X (Q text))(e3:w.cell? ⟨g,o+3,T⟩=X (Y a n c))(e4:w.cell? ⟨g,o+4,T⟩=X (U V 0))(e5:w.cell? ⟨g,o+5,T⟩=X (U V r))(e6:w.cell? ⟨g,o+6,T⟩=X (Q s))(e7:w.cell? ⟨g,o+7,T⟩=X (Y a2 n2 c2))(hg:g<w.heap.size):
  jE j4 122 #[U V op,Y (X ⟨g,o,T⟩) 2 cap] w (VI (Ch op v u) w):=by
 have q:=hv.2;have A:=m.2;have p:C8 w g o num text a n c r s a2 n2 c2:=⟨e0,e1,e2,e3,e4,e5,e6,e7,hg⟩
 have j:=fun {op:Int} {b:Bool}=>UX (op:=op) (cap:=cap) (b:=b) p q.1 A.1;rcases CU z with⟨i,d,f,_⟩|⟨i,d,f,_⟩|⟨i,d,_⟩|⟨i,d,f,_⟩|⟨rfl,d,f,_⟩|⟨rfl,d,f,_⟩|⟨i,d,f,_⟩
 ·obtain⟨k,rfl⟩:=Vv.int_of d;obtain⟨l,rfl⟩:=Vv.int_of f;obtain⟨⟨⟨rfl,hi⟩,rfl⟩,_⟩:=hv;obtain⟨⟨⟨rfl,x⟩,rfl⟩,_⟩:=m;exact ZF i hi x p
 ·obtain⟨k,rfl⟩:=Vv.set_of d;obtain⟨l,rfl⟩:=Vv.set_of f;obtain⟨⟨rfl,rfl⟩,hS,l1,B⟩:=hv;obtain⟨⟨rfl,rfl⟩,y,D,C⟩:=m;rcases(show op=16\/op=17\/op=18 by omega)with rfl|h
  ·exact UW p hS y B.1 C.1
  ·exact ZG h p hS y l1
 ·have hs:=hv.same m d;rcases i with rfl|rfl
  ·rw[Vu,hs];exact j (.inl ⟨rfl,rfl⟩)
  ·rw[Vw,hs];exact j (.inr (.inl ⟨rfl,rfl⟩))
 ·obtain⟨k,rfl⟩:=Vv.int_of d;obtain⟨l,rfl⟩:=Vv.int_of f;obtain⟨⟨⟨rfl,hi⟩,rfl⟩,_⟩:=hv;obtain⟨⟨⟨rfl,x⟩,rfl⟩,_⟩:=m;rcases i with rfl|rfl
  ·exact j (.inr (.inr (.inl ⟨rfl,rfl⟩)))
  ·exact j (.inr (.inr (.inr (.inl ⟨rfl,rfl⟩))))
 ·obtain⟨k,rfl⟩:=Vv.text_of d;obtain⟨l,rfl⟩:=Vv.set_of f;obtain⟨⟨rfl,rfl⟩,_⟩:=hv;exact j (.inr (.inr (.inr (.inr (.inl ⟨rfl,Afm _ _⟩)))))
 ·obtain⟨k,rfl⟩:=Vv.set_of d;obtain⟨l,rfl⟩:=Vv.set_of f;exact j (.inr (.inr (.inr (.inr (.inr ⟨rfl,rfl⟩)))))
 ·omega
end Go.Proofs.YteiieikcjcfkkaaGreatDoor
