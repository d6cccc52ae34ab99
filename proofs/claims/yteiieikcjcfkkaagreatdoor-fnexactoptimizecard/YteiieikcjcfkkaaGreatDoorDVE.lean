import Derived.Test.YteiieikcjcfkkaaGreatDoorMXAD
open Go.Proofs.Tryz
open Go.Value renaming int->U,slice->Y,string->Q,iface->jB,pointer->jK,nilIface->jL,tuple->jO
open Go renaming World->Z,Addr->jD,Calls->jE,bodyPost_ret->jN,results->jR
open Go.Proofs.Tryz renaming prog->j4
namespace Go.Proofs.YteiieikcjcfkkaaGreatDoor
set_option maxRecDepth 100000
set_option maxHeartbeats 3200000
open Go.RowKit
set_option linter.unusedVariables false
variable {n c:Nat}{a:Option jD}{w:Z}
variable {aS aO aZ aW : jD} {G : Nat -> Prop}
theorem Adm (op a b:Int)(w:Z)(hs:CZ w aS aO aZ aW)(l:Di a)(m:Di b)(n:op=11\/op=12\/op=13\/op=14\/op=15\/op=21\/op=22):
  jE j4 195 #[U .i64 op,U .i64 a,U .i64 b] w (Sd G aS aO aZ aW (Ch op (.int a) (.int b)) w):=by
 rcases(show(11<=op/\op<=15)\/op=21\/op=22 by omega)with h|rfl|rfl
 rotate_left
 iterate 2
  go_enter func195,ntmps195
  go_wp2_with fail
  exact jN (v:= jO #[jB 251 (.bool _),jL]) (by simp[jR,results195,go_sem]) rfl ⟨⟨_,rfl,rfl⟩,BRN⟩
 have d:=Ab (Ki (op-10) a b w hs l m);have h1:=N5 (op-10) a b;have h2:=JR (op-10) a b;have f:=Ab (MS (a:=a) (b:=b) h);generalize AZ (op-10) a b=p at d h1 h2 f;obtain⟨i,c⟩:=p;dsimp only at h1 h2;have o:Hid (c=0/\Sb aS aO aZ aW c=jL\/c≠0/\∃e,Sb aS aO aZ aW c=jB 297 (jK (some e))):=Ab (by by_cases h0:c=0;exact .inl ⟨h0,by rw[h0];rfl⟩;exact .inr ⟨h0,GW (by omega)⟩);have j:=Ab (And.intro h1 h2);clear h1 h2 n;rcases(show op=11\/op=12\/op=13\/op=14\/op=15 by omega)with rfl|rfl|rfl|rfl|rfl
 all_goals
  simp only[Int.reduceSub]at d;clear h;go_enter func195,ntmps195
  go_wp2_with fail
  refine(Aa d).mono ?_;rintro r s ⟨rfl,k⟩;dsimp only[Eg];rcases Aa o with⟨h0,he⟩|⟨h0,e,he⟩
  all_goals
   rw[he];have g:=Ab h0;have q:=Ab he;clear h0 he;go_wp2_with fail
  ·refine jN (v:= jO #[jB 249 (U .i64 i),jL]) (by simp[jR,results195,go_sem]) rfl ?_
   rw[Aa f,DF,if_pos (Aa g)];exact⟨⟨_,rfl,rfl,(Aa j).2⟩,k⟩
  ·refine jN (v:= jO #[jB 249 (U .i64 i),jB 297 (jK (some e))]) (by simp[jR,results195,go_sem]) rfl ?_
   rw[Aa f,DF,if_neg (Aa g)];have h0:=Aa g;have h1:=(Aa j).1;exact⟨⟨_,by rw[Aa q],by dsimp only;omega,by dsimp only;omega⟩,k⟩
theorem Fe {ss:List ByteArray}(h:Ap w a n c ss):∀j,j<ss.length->(Aw ss j).size<=maxLen:=fun j b=>h.sizes j (by rw[h.len];exact b)
theorem Vz {d:Z}{e:TypeId}{size n k c:Nat}{x:Option jD}{f:List Value}(h:d.ownsRow w.heap.size e size (Y x k c) n f)(g:∀b,w.heap.size<=b->G b):∀a,x=some a->0<k->G a.block:=fun a e _=>g _ (h.lt a.block (by rw[e];rfl)).1
theorem Adn (op:Int)(a:Option jD)(n c:Nat)(ss:List ByteArray)(b:Option jD)(m d:Nat)(tt:List ByteArray)(w:Z)(hs:CZ w aS aO aZ aW)(h1:Ap w a n c ss)(h2:Ap w b m d tt)(l1:ss.length<=1048576)(r:∀b,w.heap.size<=b->G b)(A:op=16\/op=17\/op=18\/op=24):
  jE j4 194 #[U .i64 op,Y a n c,Y b m d] w (Sd G aS aO aZ aW (Ch op (.set ss) (.set tt)) w):=by
 rcases A with rfl|rfl|rfl|rfl
 case inl=>
  have g:=Ab (Aby a n c ss b m d tt w hs h1 h2);go_enter func194,ntmps194
  go_wp2_with fail
  refine(Aa g).mono ?_;rintro s t ⟨x,j,K,e,rfl,f,h,k⟩;have l:=Ab k;have hS:=Ap.of_owns f (k.sizes (Fe h1) (Fe h2));have o:=Ab (Vz f r);have hc:=k.code;clear k f;by_cases h0:e=0
  ·subst h0;dsimp only[Sb,if_true];go_wp2_with fail
   refine jN (v:= jO #[jB 252 (Y x K.length j),jL]) (by simp[jR,results194,go_sem]) rfl ?_
   rw[Jh,MR (Aa l)];exact⟨⟨_,rfl,_,_,_,rfl,hS,by have:=(Aa l).len;show K.length<=1048576;omega,Aa o⟩,h⟩
  ·obtain⟨q,hq⟩:=GW (aS:=aS) (aO:=aO) (aZ:=aZ) (aW:=aW) (c:=e) (by omega);have u:=Ab h0;have B:=Ab hc;clear h0 hc;rw[hq];dsimp only;go_wp2_with fail
   refine jN (v:= jO #[jB 252 (Y x K.length j),jB 297 (jK (some q))]) (by simp[jR,results194,go_sem]) rfl ?_
   rw[Jh,MR (Aa l),EV,if_neg (Aa u)];have:=Aa B;have:=Aa u;exact⟨⟨_,by rw[hq],by dsimp only at*;omega,by dsimp only at*;omega⟩,h⟩
 case inr.inr.inr=>
  have g:=Ab (VA a n c ss b m d tt w h1 h2);go_enter func194,ntmps194
  go_wp2_with fail
  refine(Aa g).mono ?_;rintro s t ⟨rfl,h⟩;generalize y:DO ss tt=q;have C:=Ab y;clear y;dsimp only;go_wp2_with fail
  refine jN (v:= jO #[jB 251 (.bool q),jL]) (by simp[jR,results194,go_sem]) rfl ?_
  rw[Ul,Aa C];exact⟨⟨_,rfl,rfl⟩,h⟩
 case' inr.inl=>
  rw[PB];have g:=Ab (Abz a n c ss b m d tt w h1 h2);have i:=And.intro (PE ss tt (Fe h1)) (zB (VB ss tt) l1);generalize p:BR ss tt=K at i
 case' inr.inr.inl=>
  rw[N3];have g:=Ab (YB a n c ss b m d tt w h1 h2);have i:=And.intro (N6 ss tt (Fe h1)) (zB (SV ss tt) l1);generalize p:Bc ss tt=K at i
 all_goals
  have z:=Ab i;have D:=Ab p;clear p i;go_enter func194,ntmps194
  go_wp2_with fail
  refine(Aa g).mono ?_;rintro s t ⟨x,j,rfl,f,h⟩;rw[Aa D]at f|-;have hS:=Ap.of_owns f (Aa z).1;have o:=Ab (Vz f r);clear f;dsimp only;go_wp2_with fail
  exact jN (v:= jO #[jB 252 (Y x K.length j),jL]) (by simp[jR,results194,go_sem]) rfl ⟨⟨_,rfl,_,_,_,rfl,hS,(Aa z).2,Aa o⟩,h⟩
theorem Aao (b:Bool):∀w,(method 422 251 (.bool b) "loop.example/s01308/impl.same").run j4 w= .ok (236,(.bool b)) w:=fun _=>by kernel_rfl
theorem Ado (n:Int):∀w,(method 422 249 (U .i64 n) "loop.example/s01308/impl.same").run j4 w= .ok (234,(U .i64 n)) w:=fun _=>by kernel_rfl
theorem Aap (s:ByteArray):∀w,(method 422 250 (Q s) "loop.example/s01308/impl.same").run j4 w= .ok (235,(Q s)) w:=fun _=>by kernel_rfl
theorem Adp (a:Option jD)(n c:Nat):∀w,(method 422 252 (Y a n c) "loop.example/s01308/impl.same").run j4 w= .ok (237,(Y a n c)) w:=fun _=>by kernel_rfl
def VD (v u:Vv) (w:Z) (r:Ending) (w':Z):Prop:=r= .returned (.bool (Dj v u))/\Ah w w'
open Classical in
theorem VE (a b:Bool):Dj (.bool a) (.bool b)=(a==b):=by
 rw[Dj];by_cases h:a=b
 ·subst h;simp
 ·rw[zJ (fun e=>h (by cases e;rfl))];exact(zA.2 h).symm
open Classical in
theorem PF (a b:Int):Dj (.int a) (.int b)=(a==b):=by
 rw[Dj];by_cases h:a=b
 ·subst h;simp
 ·rw[zJ (fun e=>h (by cases e;rfl))];exact(zA.2 h).symm
open Classical in
theorem VF (a b:ByteArray):Dj (.text a) (.text b)=(a.toList==b.toList):=by
 rw[Dj];by_cases h:a=b
 ·subst h;simp
 ·rw[zJ (fun e=>h (by cases e;rfl))]
  symm
  rw[zv];exact fun k=>h ((Un a b).1 k)
open Classical in
theorem PG (a b:List ByteArray):Dj (.set a) (.set b)=decide (a=b):=by
 rw[Dj];by_cases h:a=b
 ·subst h;simp
 ·rw[zJ (fun e=>h (by cases e;rfl)),zJ h]
theorem SW (a b:Bool)(w:Z):jE j4 236 #[.bool a,jB 251 (.bool b)] w (VD (.bool a) (.bool b) w):=by
 have c:=Aam;go_enter func236,ntmps236
 go_wp2_with fail
 go_ret
 exact⟨by rw[VE];rfl,BRN⟩
theorem SY (a b:Int)(w:Z):jE j4 234 #[U .i64 a,jB 249 (U .i64 b)] w (VD (.int a) (.int b) w):=by
 have d:=Adj;have c:=Ab (PF a b);generalize (a==b)=q at c;go_enter func234,ntmps234
 go_wp2_with fail
 go_ret
 exact⟨by rw[PF];rfl,BRN⟩
theorem SZ (a b:ByteArray)(w:Z):jE j4 235 #[Q a,jB 250 (Q b)] w (VD (.text a) (.text b) w):=by
 have c:=Aan;go_enter func235,ntmps235
 go_wp2_with fail
 go_ret
 exact⟨by rw[VF];rfl,BRN⟩
theorem S4 (a:Option jD)(n c:Nat)(ss:List ByteArray)(b:Option jD)(m d:Nat)(tt:List ByteArray)(w:Z)(h1:Ap w a n c ss)(h2:Ap w b m d tt):jE j4 237 #[Y a n c,jB 252 (Y b m d)] w (VD (.set ss) (.set tt) w):=by
 have i:=Adl;have g:=Ab (Yz a b n c m d ss tt w h1 h2);have f:=Ab (PG ss tt);generalize Dj (.set ss) (.set tt)=q at f;rw[<-Aa f]at g;go_enter func237,ntmps237
 go_wp2_with fail
 refine(Aa g).mono ?_;rintro j k ⟨rfl,h⟩;dsimp only;go_wp2_with fail
 go_ret
 exact⟨by rw[PG,<-Aa f];rfl,h⟩
end Go.Proofs.YteiieikcjcfkkaaGreatDoor
