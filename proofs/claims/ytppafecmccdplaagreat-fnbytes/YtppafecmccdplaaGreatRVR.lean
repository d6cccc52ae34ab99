import Derived.Test.YtppafecmccdplaaGreatMXAT
import Derived.Test.YtppafecmccdplaaGreatMXAU
open Go.Proofs.Tryz
open Option renaming none->T,some->Y
open Go.Value renaming int->U,slice->X,string->Q,agg->jE
open Go.IntKind renaming i64->V
open Go renaming World->Z,Value->jB,Addr->jD
open Go.Proofs.Tryz renaming prog->jL
namespace Go.Proofs.YtppafecmccdplaaGreat
set_option maxRecDepth 100000
set_option maxHeartbeats 6400000
open Go.RowKit
set_option linter.unusedVariables false
variable {text text':ByteArray}{op num' l:Int}{ss tt:List ByteArray}{n c k c2 g o cap:Nat}{a a2:Option jD}{w:Z}
def MVx (w:Z) (num:Int) (text:ByteArray) (a:Option jD) (n c:Nat) (v:Vv):Prop:=
 (match v with
  |.bool b=>num=(if b then 1 else 0)/\text=⟨#[]⟩
  |.int k=>(num=k/\FJ k)/\text=⟨#[]⟩
  |.text s=>num=0/\text=s
  |.set _=>num=0/\text=⟨#[]⟩)/\AJ w a n c v.names/\v.names.length<=1048576/\ZS w a c
theorem MVx.below {w w':Z}{B:Nat}{num:Int}{text:ByteArray}{a:Option jD}{n c:Nat}{v:Vv}(h:MVx w num text a n c v)(b:Below B w w')(d:w.heap.size<=B):MVx w' num text a n c v:=⟨h.1,h.2.1.below b d,h.2.2.1,h.2.2.2.below b d⟩
open Classical in
theorem MVx.same     {n' c':Nat} {v u:Vv} (h:MVx w op text a n c v) (h':MVx w num' text' a2 n' c' u) (ht:v.ty=u.ty):Tg v u=Vp op num' text text' v.names u.names:=by
 rw[Tg,Vp,decide_eq_decide];rcases v with b|_|_|_<;>rcases u with d|_|_|_<;>first|(simp[Vv.ty]at ht;done)|skip
 all_goals
  first|obtain⟨⟨⟨rfl,_⟩,rfl⟩,_⟩:=h|obtain⟨⟨rfl,rfl⟩,_⟩:=h
  first|obtain⟨⟨⟨rfl,_⟩,rfl⟩,_⟩:=h'|obtain⟨⟨rfl,rfl⟩,_⟩:=h'
 ·cases b<;>cases d<;>simp[Vv.names]
 all_goals simp[Vv.names]
theorem st4 {f:Z}{s:Nat}{g h i k:jB}{t:TypeId}(R:Ah f s #[g,h,i,k] t)(B:Below s w f)(a b c d:jB):(f.cell? ⟨s,0,T⟩=Y g/\f.cell? ⟨s,1,T⟩=Y h/\f.cell? ⟨s,2,T⟩=Y i/\f.cell? ⟨s,3,T⟩=Y k)/\((∀j,f.frozen? ⟨s,j,T⟩=false)/\(∀j,(f.setCell ⟨s,0,T⟩ a).frozen? ⟨s,j,T⟩=false)/\(∀j,((f.setCell ⟨s,0,T⟩ a).setCell ⟨s,1,T⟩ b).frozen? ⟨s,j,T⟩=false)/\∀j,(((f.setCell ⟨s,0,T⟩ a).setCell ⟨s,1,T⟩ b).setCell ⟨s,2,T⟩ c).frozen? ⟨s,j,T⟩=false)/\Ah ((((f.setCell ⟨s,0,T⟩ a).setCell ⟨s,1,T⟩ b).setCell ⟨s,2,T⟩ c).setCell ⟨s,3,T⟩ d) s #[a,b,c,d] t/\Below s w ((((f.setCell ⟨s,0,T⟩ a).setCell ⟨s,1,T⟩ b).setCell ⟨s,2,T⟩ c).setCell ⟨s,3,T⟩ d):=by
 have l:=R.set 0 a;have m:=l.set 1 b;have n:=m.set 2 c;exact⟨AC R,⟨fun j=>R.frozen j,fun j=>l.frozen j,fun j=>m.frozen j,fun j=>n.frozen j⟩,n.set 3 d,(((B.setCell (p:=⟨s,0,T⟩) NLN a).setCell (p:=⟨s,1,T⟩) NLN b).setCell (p:=⟨s,2,T⟩) NLN c).setCell (p:=⟨s,3,T⟩) NLN d⟩
theorem Aac {b a:Int}(h:FJ b):(match Ge (b,a)with
  |.ok v=>a=0/\MVs w b ⟨#[]⟩ T 0 0 v
  |.err e=>a=e/\e≠0):=by
 rw[Ge];by_cases h0:a=0
 ·rw[if_pos h0];exact⟨h0,⟨rfl,h⟩,rfl,rfl,rfl,rfl⟩
 ·rw[if_neg h0];exact⟨rfl,h0⟩
structure C8 (w:Z) (g o:Nat) (m:Int) (s:ByteArray) (a:Option jD) (n c:Nat) (m':Int) (s':ByteArray) (a':Option jD) (n' c':Nat):Prop where
 e0:w.cell? ⟨g,o,T⟩=Y (U V 0)
 e1:w.cell? ⟨g,o+1,T⟩=Y (U V m)
 e2:w.cell? ⟨g,o+2,T⟩=Y (Q s)
 e3:w.cell? ⟨g,o+3,T⟩=Y (X a n c)
 e4:w.cell? ⟨g,o+4,T⟩=Y (U V 0)
 e5:w.cell? ⟨g,o+5,T⟩=Y (U V m')
 e6:w.cell? ⟨g,o+6,T⟩=Y (Q s')
 e7:w.cell? ⟨g,o+7,T⟩=Y (X a' n' c')
 hg:g<w.heap.size
theorem YM {k:Int}(f: 11<=op/\op<=15)(hi:FJ k)(t:FJ l){u x:Option jD}{y z A B:Nat}(h:C8 w g o k ⟨#[]⟩ u y z l ⟨#[]⟩ x A B):
  Calls jL 116 #[U V op,X (Y ⟨g,o,T⟩) 2 cap] w (VE (Eu op (.int k) (.int l)) w):=by
 obtain⟨e0,e1,e2,e3,e4,e5,e6,e7,hg⟩:=h;have d:=Ab (fun (c:Z)=>Tf (w:=c) (op-10) hi t);have i:=Ab (Tm (op-10) k l);have j:=Ab (Th (a:=k) (b:=l) f);generalize Bz (op-10) k l=p at d i j;obtain⟨m,n⟩:=p;rcases(show op=11\/op=12\/op=13\/op=14\/op=15 by omega)with rfl|rfl|rfl|rfl|rfl
 all_goals
  simp only[Int.reduceSub]at d;clear f;go_enter func116,ntmps116
  go_wp2_with fail
  refine PW (P:=fun c=>Calls _ _ _ c _) fun c q C _ _=>?_;refine(Aa d c).mono ?_;rintro r I ⟨rfl,s⟩;obtain⟨⟨J,K,L,M⟩,⟨N,f1,f2,O⟩,Q,D⟩:=st4 (C.after s NLN) (q.trans (s.mono q.size)) (U V n) (U V m) (.string ⟨#[]⟩) (X T 0 0);obtain⟨E,F,G,H⟩:=AC Q;dsimp only;go_wp2_with fail
  refine bodyPost_ret (v:= jE #[U V n,U V m,.string ⟨#[]⟩,X T 0 0]) (by simp[results,results116,go_sem,E,F,G,H]) rfl ⟨⟨_,_,_,_,_,_,rfl,?_⟩,D⟩
  rw[Aa j];exact Aac (Aa i)
theorem AhE {f:Z}{s B n:Nat}{x:Option jD}{cx:Nat}{K:List ByteArray}{i:Array jB}(O:f.ownsRow B 9 1 (X x n cx) n (K.map Value.string))(R:Ah f s i 149)(k:∀j,j<n->(Ck K j).size<=maxLen)(a b c d:jB):AJ ((((f.setCell ⟨s,0,T⟩ a).setCell ⟨s,1,T⟩ b).setCell ⟨s,2,T⟩ c).setCell ⟨s,3,T⟩ d) x n cx K/\ZS ((((f.setCell ⟨s,0,T⟩ a).setCell ⟨s,1,T⟩ b).setCell ⟨s,2,T⟩ c).setCell ⟨s,3,T⟩ d) x cx:=by
 have g:=Ac R O (by decide);exact⟨AJ.of_owns (Ai (Ai (Ai (Ai O _ _ fun q h e=>g (by rw[h,e])) _ _ fun q h e=>g (by rw[h,e])) _ _ fun q h e=>g (by rw[h,e])) _ _ fun q h e=>g (by rw[h,e])) k,((((ZS.of_owns O).setCell _ _ _).setCell _ _ _).setCell _ _ _).setCell _ _ _⟩
theorem UT (h:C8 w g o 0 ⟨#[]⟩ a n c 0 ⟨#[]⟩ a2 k c2)(b:AJ w a n c ss)(d:AJ w a2 k c2 tt)(f:a=T->c=0)(i:a2=T->c2=0):
  Calls jL 116 #[U V 16,X (Y ⟨g,o,T⟩) 2 cap] w (VE (Eu 16 (.set ss) (.set tt)) w):=by
 obtain⟨e0,e1,e2,e3,e4,e5,e6,e7,hg⟩:=h;have y:=Ab (And.intro (And.intro b d) (And.intro f i));clear b d f i;go_enter func116,ntmps116
 go_wp2_with fail
 refine PW (P:=fun p=>Calls _ _ _ p _) fun p j z _ _=>?_;obtain⟨⟨b,d⟩,f,i⟩:=Aa y;refine(VC a n c ss a2 k c2 tt _ (b.below j NLN) (d.below j NLN) f i).mono ?_;rintro r F ⟨x,cx,K,e,rfl,q,s,l⟩;have m:=z.after s NLN;obtain⟨⟨G,H,I,J⟩,⟨L,f1,f2,M⟩,Q,A⟩:=st4 m (j.trans (s.mono j.size)) (U V e) (U V 0) (.string ⟨#[]⟩) (X x K.length cx);obtain⟨B,C,D,E⟩:=AC Q;have t:=Ab (AhE q m (l.sizes (Mp b) (Mp d)) (U V e) (U V 0) (.string ⟨#[]⟩) (X x K.length cx));have u:=Ab l;clear b d f i l q m;dsimp only;go_wp2_with fail
 refine bodyPost_ret (v:= jE #[U V e,U V 0,.string ⟨#[]⟩,X x K.length cx]) (by simp[results,results116,go_sem,B,C,D,E]) rfl ⟨⟨_,_,_,_,_,_,rfl,?_⟩,A⟩
 rw[VA,AaB (Aa u),Gn];by_cases h0:e=0
 ·rw[if_pos h0];exact⟨h0,rfl,rfl,(Aa t).1,by have:=(Aa u).len;show K.length<=1048576;omega,(Aa t).2⟩
 ·rw[if_neg h0];exact⟨rfl,h0⟩
theorem YN (y:op=17\/op=18){i:Nat}(h:C8 w g o 0 ⟨#[]⟩ a n c 0 ⟨#[]⟩ a2 i c2)(b:AJ w a n c ss)(d:AJ w a2 i c2 tt)(l1:ss.length<=1048576):
  Calls jL 116 #[U V op,X (Y ⟨g,o,T⟩) 2 cap] w (VE (Eu op (.set ss) (.set tt)) w):=by
 obtain⟨e0,e1,e2,e3,e4,e5,e6,e7,hg⟩:=h;have z:=Ab (And.intro b d);have j:=And.intro (Yz ss tt (Mp b)) (zC (Ade ss tt) l1);have k:=And.intro (Ww ss tt (Mp b)) (zC (Aa4 ss tt) l1);clear b d;rcases y with rfl|rfl
 case' inl=>
  rw[Ya];generalize l:DB ss tt=K at j;have m:=Ab j
 case' inr=>
  rw[VB];generalize l:Cb ss tt=K at k;have m:=Ab k
 all_goals
  have A:=Ab l;clear l j k;go_enter func116,ntmps116
  go_wp2_with fail
  refine PW (P:=fun s=>Calls _ _ _ s _) fun s f B _ _=>?_;obtain⟨b,d⟩:=Aa z
  first|with_reducible refine(Aa3 a n c ss a2 i c2 tt _ (b.below f NLN) (d.below f NLN)).mono ?_|with_reducible refine(YA a n c ss a2 i c2 tt _ (b.below f NLN) (d.below f NLN)).mono ?_
  rintro r H ⟨x,cx,rfl,p,t⟩;rw[Aa A]at p|-;have q:=B.after t NLN;obtain⟨⟨I,J,L,M⟩,⟨N,f1,f2,O⟩,Q,C⟩:=st4 q (f.trans (t.mono f.size)) (U V 0) (U V 0) (.string ⟨#[]⟩) (X x K.length cx);obtain⟨D,E,F,G⟩:=AC Q;have u:=Ab (AhE p q (Aa m).1 (U V 0) (U V 0) (.string ⟨#[]⟩) (X x K.length cx));clear b d p q;dsimp only;go_wp2
  exact bodyPost_ret (v:= jE #[U V 0,U V 0,.string ⟨#[]⟩,X x K.length cx]) (by simp[results,results116,go_sem,D,E,F,G]) rfl ⟨⟨_,_,_,_,_,_,rfl,rfl,rfl,rfl,(Aa u).1,(Aa m).2,(Aa u).2⟩,C⟩
theorem UU {i:Int}{l:ByteArray}{b:Bool}(h:C8 w g o num' text a n c i l a2 k c2)(j:AJ w a n c ss)(d:AJ w a2 k c2 tt)(u:op=19/\Vp num' i text l ss tt=b\/op=20/\(!Vp num' i text l ss tt)=b\/op=21/\decide (num'<i)=b\/op=22/\decide (num'<=i)=b\/op=23/\Oe tt text=b\/op=24/\Kt ss tt=b):
  Calls jL 116 #[U V op,X (Y ⟨g,o,T⟩) 2 cap] w (VE (.ok (.bool b)) w):=by
 obtain⟨e0,e1,e2,e3,e4,e5,e6,e7,hg⟩:=h;have x:=Ab (And.intro j d);clear j d;rcases u with⟨rfl,h⟩|⟨rfl,h⟩|⟨rfl,h⟩|⟨rfl,h⟩|⟨rfl,h⟩|⟨rfl,h⟩
 all_goals
  have q:=Ab h;clear h;go_enter func116,ntmps116
  go_wp2_with fail
  refine PW (P:=fun m=>Calls _ _ _ m _) fun m f y _ _=>?_
  first
   |rw[Aa q]
    have p:=Brw m
   |obtain⟨j,d⟩:=Aa x
    first|with_reducible refine(EJ 0 num' text a n c ss 0 i l a2 k c2 tt _ (j.below f NLN) (d.below f NLN)).mono ?_|with_reducible refine(Xg a n c ss a2 k c2 tt _ (j.below f NLN) (d.below f NLN)).mono ?_|with_reducible refine((Od a2 k c2 tt text _ (d.below f NLN)).mono (R':=fun e w'=>e= .returned (.bool (Oe tt text))/\An m w') fun e w' h=>⟨h.1,h.2 ▸ BRN⟩).mono ?_
    rintro r G ⟨rfl,p⟩;clear j d;dsimp only;go_wp2_with fail
    rw[Aa q]
  refine(VF b _).mono ?_;rintro r H ⟨⟨cd,nm,I,J,K,L,rfl,rfl,s,rfl,rfl,rfl,rfl⟩,z⟩;have A:=Ab s;clear s;have t:=p.trans (z.mono p.size);obtain⟨⟨M,N,O,S⟩,⟨W,f1,f2,aa⟩,Q,B⟩:=st4 (y.after t NLN) (f.trans (t.mono f.size)) (U V 0) (U V nm) (.string ⟨#[]⟩) (X T 0 0);obtain⟨C,D,E,F⟩:=AC Q;dsimp only;go_wp2
  exact bodyPost_ret (v:= jE #[U V 0,U V nm,.string ⟨#[]⟩,X T 0 0]) (by simp[results,results116,go_sem,C,D,E,F]) rfl ⟨⟨_,_,_,_,_,_,rfl,rfl,Aa A,rfl,rfl,rfl,rfl⟩,B⟩
open Classical in
theorem AdR (tt:List ByteArray) (s:ByteArray):Oe tt s=decide (s∈tt):=by
 rw[zY,zG];exact Sa tt s
theorem WY (op:Int)(v:Vv)(t:Int)(D:nz (Ca op [v.ty])=Y t)(num:Int)(text:ByteArray)(a:Option jD)(n c:Nat)(g o cap:Nat)(w:Z)(hv:MVx w num text a n c v)(e0:w.cell? ⟨g,o,T⟩=Y (U V 0))(e1:w.cell? ⟨g,o+1,T⟩=Y (U V num))(e2:w.cell? ⟨g,o+2,T⟩=Y (.string text))(e3:w.cell? ⟨g,o+3,T⟩=Y (X a n c))(hg:g<w.heap.size):
  Calls jL 116 #[U V op,X (Y ⟨g,o,T⟩) 1 cap] w (VE (KV op v) w):=by
 have d:∀x y z,An w (((w.alloc x).alloc y).alloc z):=fun x y z=>((AN w _).alloc (by simp) _).alloc (by simp;omega) _;rcases Ft D with⟨rfl,hk,_⟩|⟨rfl,hk,_⟩|⟨rfl,hk,_⟩
 ·obtain⟨k,rfl⟩:=Vv.int_of hk;obtain⟨⟨⟨rfl,hi⟩,rfl⟩,_⟩:=hv;have j:=Ab (fun (f:Z)=>Tf (w:=f) 2 (a:=0) ⟨by decide,by decide⟩ hi);have l:=Ab (Tm 2 0 num);have m:=Ab (show KV 8 (.int num)=Ge (Bz 2 0 num)from rfl);generalize Bz 2 0 num=p at j l m;obtain⟨q,s⟩:=p;clear d;go_enter func116,ntmps116
  go_wp2_with fail
  refine PW (P:=fun f=>Calls _ _ _ f _) fun f u E _ _=>?_;refine(Aa j f).mono ?_;rintro r K ⟨rfl,A⟩;obtain⟨⟨L,M,N,O⟩,⟨S,f1,f2,W⟩,Q,F⟩:=st4 (E.after A NLN) (u.trans (A.mono u.size)) (U V s) (U V q) (.string ⟨#[]⟩) (X T 0 0);obtain⟨G,H,I,J⟩:=AC Q;dsimp only;go_wp2_with fail
  refine bodyPost_ret (v:= jE #[U V s,U V q,.string ⟨#[]⟩,X T 0 0]) (by simp[results,results116,go_sem,G,H,I,J]) rfl ⟨⟨_,_,_,_,_,_,rfl,?_⟩,F⟩
  rw[Aa m];exact Aac (Aa l)
 ·obtain⟨b,rfl⟩:=Vv.bool_of hk;obtain⟨⟨rfl,rfl⟩,_⟩:=hv;have i:=Ab d;clear d;cases b
  all_goals
   simp only[if_true,Bool.false_eq_true,if_false]at e1;go_enter func116,ntmps116
   go_wp2
   exact bodyPost_ret (v:= jE #[U V 0,U V _,.string ⟨#[]⟩,X T 0 0]) (by simp[results,results116,go_sem]) rfl ⟨⟨_,_,_,_,_,_,rfl,rfl,rfl,rfl,rfl,rfl,rfl⟩,Aa i _ _ _⟩
 ·obtain⟨k,rfl⟩:=Vv.set_of hk;obtain⟨⟨rfl,rfl⟩,h,_,_⟩:=hv;have i:=Ab d;have B:n=k.length:=by first|exact h.len|exact h.len.symm
  have C:=Ab B;have hi:FJ (n:Int):=⟨by omega,by have:=h.cap;have:=h.small;unfold maxLen at this;omega⟩
  clear d h B;go_enter func116,ntmps116
  go_wp2
  exact bodyPost_ret (v:= jE #[U V 0,U V n,.string ⟨#[]⟩,X T 0 0]) (by simp[results,results116,go_sem]) rfl ⟨⟨_,_,_,_,_,_,rfl,rfl,⟨congrArg _ (Aa C),Aa C ▸ hi⟩,rfl,rfl,rfl,rfl⟩,Aa i _ _ _⟩
theorem WZ (op:Int)(v u:Vv)(t:Int)(z:nz (Ca op [v.ty,u.ty])=Y t)(hc:op≠25/\op≠26)(num:Int)(text:ByteArray)(a:Option jD)(n c:Nat)(m:Int)(p:ByteArray)(a2:Option jD)(r c2:Nat)(g o cap:Nat)(w:Z)(hv:MVx w num text a n c v)(hu:MVx w m p a2 r c2 u)(e0:w.cell? ⟨g,o,T⟩=Y (U V 0))(e1:w.cell? ⟨g,o+1,T⟩=Y (U V num))(e2:w.cell? ⟨g,o+2,T⟩=Y (Q text))(e3:w.cell? ⟨g,o+3,T⟩=Y (X a n c))(e4:w.cell? ⟨g,o+4,T⟩=Y (U V 0))(e5:w.cell? ⟨g,o+5,T⟩=Y (U V m))(e6:w.cell? ⟨g,o+6,T⟩=Y (Q p))(e7:w.cell? ⟨g,o+7,T⟩=Y (X a2 r c2))(hg:g<w.heap.size):
  Calls jL 116 #[U V op,X (Y ⟨g,o,T⟩) 2 cap] w (VE (Eu op v u) w):=by
 have q:=hv.2;have A:=hu.2;have j:C8 w g o num text a n c m p a2 r c2:=⟨e0,e1,e2,e3,e4,e5,e6,e7,hg⟩
 have i:=fun {op:Int} {b:Bool}=>UU (op:=op) (cap:=cap) (b:=b) j q.1 A.1;rcases EP z with⟨f,hk,d,_⟩|⟨f,hk,d,_⟩|⟨f,hk,_⟩|⟨f,hk,d,_⟩|⟨rfl,hk,d,_⟩|⟨rfl,hk,d,_⟩|⟨f,hk,d,_⟩
 ·obtain⟨k,rfl⟩:=Vv.int_of hk;obtain⟨l,rfl⟩:=Vv.int_of d;obtain⟨⟨⟨rfl,hi⟩,rfl⟩,_⟩:=hv;obtain⟨⟨⟨rfl,s⟩,rfl⟩,_⟩:=hu;exact YM f hi s j
 ·obtain⟨k,rfl⟩:=Vv.set_of hk;obtain⟨l,rfl⟩:=Vv.set_of d;obtain⟨⟨rfl,rfl⟩,x,l1,B⟩:=hv;obtain⟨⟨rfl,rfl⟩,y,D,C⟩:=hu;rcases(show op=16\/op=17\/op=18 by omega)with rfl|h
  ·exact UT j x y B.1 C.1
  ·exact YN h j x y l1
 ·have hs:=hv.same hu hk;rcases f with rfl|rfl
  ·rw[Aco,hs];exact i (.inl ⟨rfl,rfl⟩)
  ·rw[Acp,hs];exact i (.inr (.inl ⟨rfl,rfl⟩))
 ·obtain⟨k,rfl⟩:=Vv.int_of hk;obtain⟨l,rfl⟩:=Vv.int_of d;obtain⟨⟨⟨rfl,hi⟩,rfl⟩,_⟩:=hv;obtain⟨⟨⟨rfl,s⟩,rfl⟩,_⟩:=hu;rcases f with rfl|rfl
  ·exact i (.inr (.inr (.inl ⟨rfl,rfl⟩)))
  ·exact i (.inr (.inr (.inr (.inl ⟨rfl,rfl⟩))))
 ·obtain⟨k,rfl⟩:=Vv.text_of hk;obtain⟨l,rfl⟩:=Vv.set_of d;obtain⟨⟨rfl,rfl⟩,_⟩:=hv;exact i (.inr (.inr (.inr (.inr (.inl ⟨rfl,AdR _ _⟩)))))
 ·obtain⟨k,rfl⟩:=Vv.set_of hk;obtain⟨l,rfl⟩:=Vv.set_of d;exact i (.inr (.inr (.inr (.inr (.inr ⟨rfl,rfl⟩)))))
 ·omega
end Go.Proofs.YtppafecmccdplaaGreat
