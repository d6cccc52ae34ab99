import Derived.Test.YteiieikcjcfkkaaGreatDoorDVE
open Go.Proofs.Tryz
open Go.Value renaming int->U,string->Q,iface->jB,tuple->jO
open Go renaming bodyPost_ret->jN,results->jR
open Go.Proofs.Tryz renaming prog->j4
namespace Go.Proofs.YteiieikcjcfkkaaGreatDoor
set_option maxRecDepth 100000
set_option maxHeartbeats 6400000
open Go.RowKit
set_option linter.unusedVariables false
variable {a:Ending}{o:Ev}{w w':World}
variable {aS aO aZ aW : Addr} {G : Nat -> Prop}
theorem Sd.form (h:Sd G aS aO aZ aW o w a w'):∃x e,a= .returned (jO #[x,e])/\Sd G aS aO aZ aW o w (.returned (jO #[x,e])) w':=by
 obtain⟨h1,h2⟩:=h;cases o with
 |ok v=>obtain⟨x,rfl,h3⟩:=h1;exact⟨_,_,rfl,⟨_,rfl,h3⟩,h2⟩
 |err c=>obtain⟨x,rfl,h3⟩:=h1;exact⟨_,_,rfl,⟨_,rfl,h3⟩,h2⟩
theorem Sd.undrew (h:Sd G aS aO aZ aW o w.drew a w'):Sd G aS aO aZ aW o w a w':=⟨h.1,BRN.drew.trans h.2⟩
theorem Agc (op:Int)(x y:Value)(v u:Vv)(t:Int)(w:World)(hs:CZ w aS aO aZ aW)(hx:VIs G w x v)(hy:VIs G w y u)(H:nz (Ba op [v.ty,u.ty])=some t)(hc:op≠25/\op≠26)(M:∀b,w.heap.size<=b->G b):
  Calls j4 189 #[U .i64 op,x,y] w (Sd G aS aO aZ aW (Ch op v u) w):=by
 have N:=Adi;have O:=Adk;have P:=Af9;have I:((11<=op/\op<=15\/op=21\/op=22)/\v.ty=2/\u.ty=2)\/((op=16\/op=17\/op=18\/op=24)/\v.ty=4/\u.ty=4)\/((op=19\/op=20)/\v.ty=u.ty)\/(op=23/\v.ty=3/\u.ty=4):=by
  rcases CU H with h|h|h|h|h|h|h<;>omega
 clear H hc;have d:=(Ji w).drew;rcases I with⟨i,hv,f⟩|⟨i,hv,f⟩|⟨i,hv⟩|⟨rfl,hv,f⟩
 ·obtain⟨a,rfl⟩:=Vv.int_of hv;obtain⟨b,rfl⟩:=Vv.int_of f;obtain⟨rfl,J⟩:x=jB 249 (U .i64 a)/\Di a:=hx;obtain⟨rfl,K⟩:y=jB 249 (U .i64 b)/\Di b:=hy;have c:=Ab (Adm (G:=G) op a b w.drew (hs.below d NLN) J K (by omega));have g:∀k:Int,(k=16\/k=17\/k=18\/k=19\/k=20\/k=23\/k=24)->(op==k)=false:=fun k I=>zA.2 (by omega);have S:=g 19 (by omega);have W:=g 20 (by omega);have aa:=g 23 (by omega);have ab:=g 16 (by omega);have ac:=g 17 (by omega);have ad:=g 18 (by omega);have ae:=g 24 (by omega);clear i g hv f d;go_enter func189,ntmps189
  go_wp2_with fail
  go_region_held3 (fun _=>True) (trivial) ((go_at_call 195;refine(Aa c).mono ?_;intro A B j;obtain⟨C,e1,rfl,l⟩:=j.form;have D:=Ab l;clear l j))
  all_goals
   go_wp2_with fail
   exact jN (v:= jO #[C,e1]) (by simp[jR,results189,go_sem]) rfl (Aa D).undrew
 ·obtain⟨a,rfl⟩:=Vv.set_of hv;obtain⟨b,rfl⟩:=Vv.set_of f;obtain⟨r,s,z,rfl,hS⟩:=hx;obtain⟨m,n,o,rfl,p⟩:=hy;have c:=Ab (Adn op r s z a m n o b w.drew (hs.below d NLN) (hS.1.below d NLN) (p.1.below d NLN) hS.2.1 M i);rcases i with rfl|rfl|rfl|rfl
  all_goals
   clear hv f d;go_enter func189,ntmps189
   go_wp2_with fail
   go_region_held3 (fun _=>True) (trivial) ((go_at_call 194;refine(Aa c).mono ?_;intro A B j;obtain⟨C,e1,rfl,l⟩:=j.form;have D:=Ab l;clear l j))
   all_goals
    go_wp2_with fail
    exact jN (v:= jO #[C,e1]) (by simp[jR,results189,go_sem]) rfl (Aa D).undrew
 ·cases v
  case' bool a=>
   obtain rfl:x=jB 251 (.bool a):=hx;obtain⟨b,rfl⟩:=Vv.bool_of (v:=u) hv.symm;obtain rfl:y=jB 251 (.bool b):=hy;have E:=Aao a;have c:=Ab (SW a b w)
  case' int a=>
   obtain⟨rfl,J⟩:x=jB 249 (U .i64 a)/\Di a:=hx;obtain⟨b,rfl⟩:=Vv.int_of (v:=u) hv.symm;obtain⟨rfl,K⟩:y=jB 249 (U .i64 b)/\Di b:=hy;have E:=Ado a;have c:=Ab (SY a b w)
  case' text a=>
   obtain rfl:x=jB 250 (Q a):=hx;obtain⟨b,rfl⟩:=Vv.text_of (v:=u) hv.symm;obtain rfl:y=jB 250 (Q b):=hy;have E:=Aap a;have c:=Ab (SZ a b w)
  case' set a=>
   obtain⟨r,s,z,rfl,hS⟩:=hx;obtain⟨b,rfl⟩:=Vv.set_of (v:=u) hv.symm;obtain⟨m,n,o,rfl,p⟩:=hy;have E:=Adp r s z;have c:=Ab (S4 r s z a m n o b w hS.1 p.1)
  all_goals
   unfold VD at c;clear hv d;rcases i with rfl|rfl
  all_goals
   first|rw[Vu]|rw[Vw]
   generalize Dj _ _=q at c|-;go_enter func189,ntmps189
   go_wp2_with fail
   refine(Aa c).mono ?_;rintro A B ⟨rfl,F⟩;dsimp only;go_wp2_with fail
   exact jN (v:= jO #[jB 251 (.bool _),.nilIface]) (by simp[jR,results189,go_sem]) rfl ⟨⟨_,rfl,rfl⟩,F⟩
 ·obtain⟨a,rfl⟩:=Vv.text_of hv;obtain⟨b,rfl⟩:=Vv.set_of f;obtain rfl:x=jB 250 (Q a):=hx;obtain⟨m,n,o,rfl,p⟩:=hy;have c:=Ab (Se m n o b a w.drew (p.1.below d NLN));have L:=Ab (Adg a b);generalize @decide (a∈b) (Classical.propDecidable _)=q at c L;clear hv f d;go_enter func189,ntmps189
  go_wp2_with fail
  go_region_held3 (fun _=>True) (trivial) ((go_at_call 193;refine(Aa c).mono ?_;rintro A B ⟨rfl,F⟩))
  all_goals
   go_wp2_with fail
   refine jN (v:= jO #[jB 251 (.bool q),.nilIface]) (by simp[jR,results189,go_sem]) rfl ?_
   rw[Aa L];exact⟨⟨_,rfl,rfl⟩,BRN.drew.trans F⟩
end Go.Proofs.YteiieikcjcfkkaaGreatDoor
