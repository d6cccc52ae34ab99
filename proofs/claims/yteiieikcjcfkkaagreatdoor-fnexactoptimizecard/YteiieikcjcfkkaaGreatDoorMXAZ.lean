import Derived.Test.YteiieikcjcfkkaaGreatDoorMXAL
import Derived.Test.YteiieikcjcfkkaaGreatDoorMXAM
import Derived.LaidMore
import Derived.Stop.Joined
import Derived.Stop.LaidErr
open Go.Proofs.Tryz
open Option renaming none->T,some->X
open Go.Value renaming int->U,iface->jB,agg->jG,pointer->jK,nilIface->jL
open Go.IntKind renaming i64->V
open Go renaming World->Z,Value->R,Calls->jE,TypeId->jJ
open Go.Ending renaming returned->jH
open Option.some renaming inj->jb
open Go.MemPlace renaming row->jw
open Nat renaming reduceEqDiff->jy
open Go.World renaming var?_cell->j2
open Go.Proofs.Tryz renaming prog->j4
namespace Go.Proofs.YteiieikcjcfkkaaGreatDoor
set_option linter.unusedVariables false
set_option maxRecDepth 100000
variable {a:Ending->Z->Prop}{F:FuncId}{S:jJ}{v:R}{w:Z}
section
open Go.RowKit
theorem AhH {T:jJ}(h:type_of% (tas T v)->jE j4 F #[jB T v] w a):jE j4 F #[jB T v] w a:=h (tas T v)
theorem AhI {T:jJ}{x:R}(h:type_of% (tas T v)->jE j4 F #[jB T v,x] w a):jE j4 F #[jB T v,x] w a:=h (tas T v)
theorem Dp (e:Ex)(b:Bool)(w:Z):jE j4 68 #[e.val,.bool b] w (AJ (isB b e) w):=by
 have B:=fun o=>Av w o;cases e
 all_goals
  refine AhI fun ts=>?_;simp only[MT,jy,reduceIte]at ts;obtain⟨a,c,d,f,g,h,i,j,k,l⟩:=ts;go_enter func68,ntmps68
  go_wp2_with fail
  go_ret
  exact⟨rfl,B _⟩
theorem Cn (e:Ex)(n:Int)(w:Z):jE j4 146 #[e.val,U V n] w (AJ (No n e) w):=by
 have B:=fun o=>Av w o;cases e
 all_goals
  refine AhI fun ts=>?_;simp only[MT,jy,reduceIte]at ts;obtain⟨a,b,c,d,f,g,h,i,j,k⟩:=ts;go_enter func146,ntmps146
  go_wp2_with fail
  go_ret
  exact⟨rfl,B _⟩
theorem IY (e:Ex)(w:Z):jE j4 137 #[e.val] w (fun a w'=>a=jH (.bool e.con)/\w'=w):=by
 cases e
 all_goals
  refine AhH fun ts=>?_;simp only[MT,jy,reduceIte]at ts;obtain⟨b,c,d,f,g,h,i,j,k,l⟩:=ts;go_enter func137,ntmps137
  go_wp2_with fail
  go_ret
  exact⟨rfl,rfl⟩
theorem Bz (e:Ex)(w:Z):jE j4 137 #[e.val] w (AJ e.con w):=
 (IY e w).mono fun a w' h=>⟨h.1,by rw[h.2];exact BRN⟩
theorem Sz (h1:S≠225)(h2:S≠173)(v y:R)(w:Z):jE j4 145 #[jB S v,y] w (AJ false w):=by
 have a:=A8 (S:=S) (T:=225) underlying225 zeroValue225 h1 106;have a1:=A8 (S:=S) (T:=173) underlying173 zeroValue173 h2 106;clear h1 h2;go_enter func145,ntmps145
 go_wp2_with fail
 go_ret
 exact⟨rfl,BRN⟩
theorem Lf (hS:S≠225)(i n:Int)(v:R)(w:Z):jE j4 145 #[jB 225 (jG #[U V i,U V n]),jB S v] w (AJ false w):=by
 have c:=De (T:=225) underlying225 106;have a1:=A8 (S:=S) (T:=225) underlying225 zeroValue225 hS 106;have a:=Av w (.cells #[U V i,U V n] 225);have b:=a.alloc a.size (.cells #[U V 0,U V 0] 225);clear hS;go_enter func145,ntmps145
 go_wp2_with fail
 go_ret
 exact⟨rfl,b⟩
theorem Ml (i n j m:Int)(w:Z):jE j4 145 #[jB 225 (jG #[U V i,U V n]),jB 225 (jG #[U V j,U V m])] w (AJ (decide (m=n)) w):=by
 have c:=De (T:=225) underlying225 106;have a:=Av w (.cells #[U V i,U V n] 225);have b:=a.alloc a.size (.cells #[U V j,U V m] 225);go_enter func145,ntmps145
 go_wp2_with fail
 go_ret
 exact⟨rfl,b⟩
theorem Mn (hS:S≠173)(i n:Int)(v:R)(w:Z):jE j4 145 #[jB 173 (jG #[U V i,U V n]),jB S v] w (AJ false w):=by
 have c:=A8 (S:=173) (T:=225) underlying225 zeroValue225 (by decide) 106;have d:=De (T:=173) underlying173 106;have a1:=A8 (S:=S) (T:=173) underlying173 zeroValue173 hS 106;have a:=Av w (.cells #[U V i,U V n] 173);have b:=a.alloc a.size (.cells #[U V 0,U V 0] 173);clear hS;go_enter func145,ntmps145
 go_wp2_with fail
 go_ret
 exact⟨rfl,b⟩
theorem NB (i n j m:Int)(w:Z):jE j4 145 #[jB 173 (jG #[U V i,U V n]),jB 173 (jG #[U V j,U V m])] w (AJ (decide (m=n)) w):=by
 have c:=A8 (S:=173) (T:=225) underlying225 zeroValue225 (by decide) 106;have d:=De (T:=173) underlying173 106;have a:=Av w (.cells #[U V i,U V n] 173);have b:=a.alloc a.size (.cells #[U V j,U V m] 173);go_enter func145,ntmps145
 go_wp2_with fail
 go_ret
 exact⟨rfl,b⟩
theorem FN (x y:Ex)(w:Z):jE j4 145 #[x.val,y.val] w (AJ (sameL x y) w):=by
 cases x with
 |attr i n=>cases y with
  |attr j m=>exact Ml i n j m w
  |_=>exact Lf (by decide) _ _ _ _
 |lett i n=>cases y with
  |lett j m=>exact NB i n j m w
  |_=>exact Mn (by decide) _ _ _ _
 |_=>exact Sz (by decide) (by decide) _ _ _
def Ex.ln:Ex->Prop
 |.set _ _ n _ ss=>n=ss.length
 |_=>True
theorem BH (e:Ex)(h:e.ln)(w:Z):jE j4 144 #[e.val] w (AJ (GP e) w):=by
 have B:=fun o=>Av w o;cases e
 case' set i a n c ss=>
  cases h;show jE _ _ #[jB 218 (jG #[U V i,.slice a ss.length c])] w (AJ (decide (ss.length=0)) w);generalize ss.length=n;by_cases b:n=0
  case' pos=>subst b
  case' neg=>
   have e0:((n:Int)==0)=false:=zA.2 (by omega);rw[zJ b]
 all_goals
  refine AhH fun ts=>?_;simp only[MT,jy,reduceIte]at ts;obtain⟨d,f,g,j,k,l,m,p,q,r⟩:=ts;go_enter func144,ntmps144
  go_wp2_with fail
  go_ret
  exact⟨rfl,B _⟩
set_option maxHeartbeats 1600000
def Cy (v:R) (w:Z) (r:Ending) (w':Z):Prop:=r=jH v/\Ah w w'
abbrev QC (F:FuncId) (a:Array R) (b:Bool):Prop:=Hid (∀w,jE j4 F a w (AJ b w))
def oV:Option Ex->R
 |none=> jL
 |some e=>e.val
theorem Ack (c d:R)(f g b_L:Bool)(k:QC 144 #[c] f)(l:QC 144 #[d] g)(m:QC 145 #[c,d] b_L)(h:R)(n:Hid (h=if f then d else if g||b_L then c else jL))(w:Z):
  jE j4 99 #[c,d] w (Cy h w):=by
 have a:=Ji w;go_enter func99,ntmps99
 go_wp2_with fail
 repeat' first
  |((with_reducible refine(Aa k _).mono ?_);rintro i j ⟨rfl,b⟩;replace a:=a.trans (b.mono a.size);cases f<;>(dsimp only;go_wp2_with fail))
  |((with_reducible refine(Aa l _).mono ?_);rintro i j ⟨rfl,b⟩;replace a:=a.trans (b.mono a.size);cases g<;>(dsimp only;go_wp2_with fail))
  |((with_reducible refine(Aa m _).mono ?_);rintro i j ⟨rfl,b⟩;replace a:=a.trans (b.mono a.size);cases b_L<;>(dsimp only;go_wp2_with fail))
  |(go_ret;exact⟨congrArg jH (Aa n).symm,a⟩)
theorem AeF (c d:R)(h i j k b_L:Bool)(m:QC 144 #[c] h)(n:QC 63 #[d] i)(o:QC 144 #[d] j)(p:QC 63 #[c] k)(q:QC 145 #[c,d] b_L)(l:R)(r:Hid (l=if h&&i then c else if j&&k then d else if b_L then c else jL))(w:Z):
  jE j4 100 #[c,d] w (Cy l w):=by
 have a:=Ji w;go_enter func100,ntmps100
 go_wp2_with fail
 repeat' first
  |((with_reducible refine(Aa m _).mono ?_);rintro f g ⟨rfl,b⟩;replace a:=a.trans (b.mono a.size);cases h<;>(dsimp only;go_wp2_with fail))
  |((with_reducible refine(Aa n _).mono ?_);rintro f g ⟨rfl,b⟩;replace a:=a.trans (b.mono a.size);cases i<;>(dsimp only;go_wp2_with fail))
  |((with_reducible refine(Aa o _).mono ?_);rintro f g ⟨rfl,b⟩;replace a:=a.trans (b.mono a.size);cases j<;>(dsimp only;go_wp2_with fail))
  |((with_reducible refine(Aa p _).mono ?_);rintro f g ⟨rfl,b⟩;replace a:=a.trans (b.mono a.size);cases k<;>(dsimp only;go_wp2_with fail))
  |((with_reducible refine(Aa q _).mono ?_);rintro f g ⟨rfl,b⟩;replace a:=a.trans (b.mono a.size);cases b_L<;>(dsimp only;go_wp2_with fail))
  |(go_ret;exact⟨congrArg jH (Aa r).symm,a⟩)
theorem Acl (c:jJ)(d f:R)(i j k b_L:Bool)(o:QC 144 #[f] i)(q:QC 144 #[(jB c d)] j)(r:QC 63 #[f] k)(s:QC 145 #[(jB c d),f] b_L)(p:Int)(g:Hid (b_L=true->∀w,(method 422 c d "loop.example/s01308/impl.place").run j4 w= .ok (230,U V p) w))(m:R)(t:Hid (m=if i||(j&&k)then (jB c d)else if b_L then jB 218 (jG #[U V p,.slice T 0 0])else jL))(w:Z):
  jE j4 101 #[(jB c d),f] w (Cy m w):=by
 have a:=Ji w;go_enter func101,ntmps101
 go_wp2_with fail
 repeat' first
  |((with_reducible refine(Aa o _).mono ?_);rintro h l ⟨rfl,b⟩;replace a:=a.trans (b.mono a.size);cases i<;>(dsimp only;(try have hp:=Aa g (by first|rfl|trivial));go_wp2_with fail))
  |((with_reducible refine(Aa q _).mono ?_);rintro h l ⟨rfl,b⟩;replace a:=a.trans (b.mono a.size);cases j<;>(dsimp only;(try have hp:=Aa g (by first|rfl|trivial));go_wp2_with fail))
  |((with_reducible refine(Aa r _).mono ?_);rintro h l ⟨rfl,b⟩;replace a:=a.trans (b.mono a.size);cases k<;>(dsimp only;(try have hp:=Aa g (by first|rfl|trivial));go_wp2_with fail))
  |((with_reducible refine(Aa s _).mono ?_);rintro h l ⟨rfl,b⟩;replace a:=a.trans (b.mono a.size);cases b_L<;>(dsimp only;(try have hp:=Aa g (by first|rfl|trivial));go_wp2_with fail))
  |((with_reducible refine(Ga p _).mono ?_);rintro h u ⟨rfl,n⟩;rw[n];clear n;dsimp only;go_wp2_with fail)
  |(go_ret;exact⟨congrArg jH (Aa t).symm,a⟩)
theorem Ag2 (b c:R)(d f:Bool)(i:QC 146 #[b,U V 0] d)(j:QC 146 #[c,U V 0] f)(h:R)(k:Hid (h=if d then c else if f then b else jL))(w:Z):
  jE j4 102 #[b,c] w (Cy h w):=by
 have a:=Ji w;go_enter func102,ntmps102
 go_wp2_with fail
 repeat' first
  |((with_reducible refine(Aa i _).mono ?_);rintro l m ⟨rfl,g⟩;replace a:=a.trans (g.mono a.size);cases d<;>(dsimp only;go_wp2_with fail))
  |((with_reducible refine(Aa j _).mono ?_);rintro l m ⟨rfl,g⟩;replace a:=a.trans (g.mono a.size);cases f<;>(dsimp only;go_wp2_with fail))
  |(go_ret;exact⟨congrArg jH (Aa k).symm,a⟩)
theorem AeG (c d:R)(b:Bool)(g:QC 146 #[d,U V 0] b)(f:R)(h:Hid (f=if b then c else jL))(w:Z):
  jE j4 103 #[c,d] w (Cy f w):=by
 have a:=Ji w;go_enter func103,ntmps103
 go_wp2_with fail
 repeat' first
  |((with_reducible refine(Aa g _).mono ?_);rintro j k ⟨rfl,i⟩;replace a:=a.trans (i.mono a.size);cases b<;>(dsimp only;go_wp2_with fail))
  |(go_ret;exact⟨congrArg jH (Aa h).symm,a⟩)
theorem Ag3 (c d:R)(b:Bool)(g:QC 146 #[d,U V 1] b)(f:R)(h:Hid (f=if b then c else jL))(w:Z):
  jE j4 105 #[c,d] w (Cy f w):=by
 have a:=Ji w;go_enter func105,ntmps105
 go_wp2_with fail
 repeat' first
  |((with_reducible refine(Aa g _).mono ?_);rintro j k ⟨rfl,i⟩;replace a:=a.trans (i.mono a.size);cases b<;>(dsimp only;go_wp2_with fail))
  |(go_ret;exact⟨congrArg jH (Aa h).symm,a⟩)
theorem AeH (c d:R)(h i j k l m:Bool)(o:QC 146 #[c,U V 1] h)(p:QC 146 #[d,U V 1] i)(q:QC 146 #[c,U V 0] j)(r:QC 63 #[d] k)(s:QC 146 #[d,U V 0] l)(t:QC 63 #[c] m)(n:R)(u:Hid (n=if h then d else if i then c else if j&&k then c else if l&&m then d else jL))(w:Z):
  jE j4 104 #[c,d] w (Cy n w):=by
 have a:=Ji w;go_enter func104,ntmps104
 go_wp2_with fail
 repeat' first
  |((with_reducible refine(Aa o _).mono ?_);rintro f g ⟨rfl,b⟩;replace a:=a.trans (b.mono a.size);cases h<;>(dsimp only;go_wp2_with fail))
  |((with_reducible refine(Aa p _).mono ?_);rintro f g ⟨rfl,b⟩;replace a:=a.trans (b.mono a.size);cases i<;>(dsimp only;go_wp2_with fail))
  |((with_reducible refine(Aa q _).mono ?_);rintro f g ⟨rfl,b⟩;replace a:=a.trans (b.mono a.size);cases j<;>(dsimp only;go_wp2_with fail))
  |((with_reducible refine(Aa r _).mono ?_);rintro f g ⟨rfl,b⟩;replace a:=a.trans (b.mono a.size);cases k<;>(dsimp only;go_wp2_with fail))
  |((with_reducible refine(Aa s _).mono ?_);rintro f g ⟨rfl,b⟩;replace a:=a.trans (b.mono a.size);cases l<;>(dsimp only;go_wp2_with fail))
  |((with_reducible refine(Aa t _).mono ?_);rintro f g ⟨rfl,b⟩;replace a:=a.trans (b.mono a.size);cases m<;>(dsimp only;go_wp2_with fail))
  |(go_ret;exact⟨congrArg jH (Aa u).symm,a⟩)
theorem Za (c:jJ)(d h:R)(b f:Bool)(m:QC 144 #[(jB c d)] b)(n:QC 63 #[h] f)(p:Int)(i:Hid (b=true->∀w,(method 422 c d "loop.example/s01308/impl.place").run j4 w= .ok (230,U V p) w))(j:R)(o:Hid (j=if b&&f then jB 177 (jG #[U V p,.bool true])else jL))(w:Z):
  jE j4 107 #[(jB c d),h] w (Cy j w):=by
 have a:=Ji w;go_enter func107,ntmps107
 go_wp2_with fail
 repeat' first
  |((with_reducible refine(Aa m _).mono ?_);rintro k q ⟨rfl,g⟩;replace a:=a.trans (g.mono a.size);cases b<;>(dsimp only;(try have hp:=Aa i (by first|rfl|trivial));go_wp2_with fail))
  |((with_reducible refine(Aa n _).mono ?_);rintro k q ⟨rfl,g⟩;replace a:=a.trans (g.mono a.size);cases f<;>(dsimp only;(try have hp:=Aa i (by first|rfl|trivial));go_wp2_with fail))
  |((with_reducible refine(Ga p _).mono ?_);rintro k r ⟨rfl,l⟩;rw[l];clear l;dsimp only;go_wp2_with fail)
  |(go_ret;exact⟨congrArg jH (Aa o).symm,a⟩)
theorem Ait (g:R)(ty:jJ)(c:R)(b d:Bool)(l:QC 144 #[(jB ty c)] b)(m:QC 63 #[g] d)(p:Int)(h:Hid (b=true->∀w,(method 422 ty c "loop.example/s01308/impl.place").run j4 w= .ok (230,U V p) w))(i:R)(n:Hid (i=if b&&d then jB 177 (jG #[U V p,.bool false])else jL))(w:Z):
  jE j4 108 #[g,(jB ty c)] w (Cy i w):=by
 have a:=Ji w;go_enter func108,ntmps108
 go_wp2_with fail
 repeat' first
  |((with_reducible refine(Aa l _).mono ?_);rintro j o ⟨rfl,f⟩;replace a:=a.trans (f.mono a.size);cases b<;>(dsimp only;(try have hp:=Aa h (by first|rfl|trivial));go_wp2_with fail))
  |((with_reducible refine(Aa m _).mono ?_);rintro j o ⟨rfl,f⟩;replace a:=a.trans (f.mono a.size);cases d<;>(dsimp only;(try have hp:=Aa h (by first|rfl|trivial));go_wp2_with fail))
  |((with_reducible refine(Ga p _).mono ?_);rintro j q ⟨rfl,k⟩;rw[k];clear k;dsimp only;go_wp2_with fail)
  |(go_ret;exact⟨congrArg jH (Aa n).symm,a⟩)
theorem AeI (h i:R)(b:Bool)(f:Nat)(l m b_Tny n o:Bool)(q:QC 68 #[h,.bool b] l)(r:QC 68 #[h,.bool (!b)] m)(s:QC 68 #[i,.bool b] b_Tny)(t:QC 68 #[i,.bool (!b)] n)(u:QC 63 #[h] o)(p:R)(v:Hid (p=if l then i else if m||b_Tny then h else if n&&o then i else jL))(w:Z)(x:jJ)(g:Ag w f #[.bool b] x):
  jE j4 142 #[h,i,jK (X ⟨f,0,T⟩)] w (Cy p w):=by
 have a:=Ji w;have j:w.cell? ⟨f,0,T⟩=X (.bool b):=g.cell 0;go_enter func142,ntmps142
 go_wp2_with fail
 repeat' first
  |((with_reducible refine(Aa q _).mono ?_);rintro k c ⟨rfl,d⟩;replace a:=a.trans (d.mono a.size);replace j:c.cell? ⟨f,0,T⟩=X (.bool b):=(g.after a NLN).cell 0;cases l<;>(dsimp only;go_wp2_with fail))
  |((with_reducible refine(Aa r _).mono ?_);rintro k c ⟨rfl,d⟩;replace a:=a.trans (d.mono a.size);replace j:c.cell? ⟨f,0,T⟩=X (.bool b):=(g.after a NLN).cell 0;cases m<;>(dsimp only;go_wp2_with fail))
  |((with_reducible refine(Aa s _).mono ?_);rintro k c ⟨rfl,d⟩;replace a:=a.trans (d.mono a.size);replace j:c.cell? ⟨f,0,T⟩=X (.bool b):=(g.after a NLN).cell 0;cases b_Tny<;>(dsimp only;go_wp2_with fail))
  |((with_reducible refine(Aa t _).mono ?_);rintro k c ⟨rfl,d⟩;replace a:=a.trans (d.mono a.size);replace j:c.cell? ⟨f,0,T⟩=X (.bool b):=(g.after a NLN).cell 0;cases n<;>(dsimp only;go_wp2_with fail))
  |((with_reducible refine(Aa u _).mono ?_);rintro k c ⟨rfl,d⟩;replace a:=a.trans (d.mono a.size);replace j:c.cell? ⟨f,0,T⟩=X (.bool b):=(g.after a NLN).cell 0;cases o<;>(dsimp only;go_wp2_with fail))
  |(go_ret;exact⟨congrArg jH (Aa v).symm,a⟩)
end
section
open Go.ChangeShapes Go.WideShapes Go.ChangeAt Go.RowKit
theorem AhT: j4.globalNamed "loop.example/s01308/impl.errShape" =X 3:=by kernel_rfl
theorem Ajd: j4.globalNamed "loop.example/s01308/impl.errOverflow" =X 7:=by kernel_rfl
theorem Aje: j4.globalNamed "loop.example/s01308/impl.errZero" =X 8:=by kernel_rfl
theorem Ajf: j4.globalNamed "loop.example/s01308/impl.errWidth" =X 9:=by kernel_rfl
theorem AhU:(j4.globals[3]?).map (·.type)=X 98:=by kernel_rfl
theorem Ajg:(j4.globals[7]?).map (·.type)=X 98:=by kernel_rfl
theorem Ajh:(j4.globals[8]?).map (·.type)=X 98:=by kernel_rfl
theorem Aji:(j4.globals[9]?).map (·.type)=X 98:=by kernel_rfl
theorem VN:∀u,j4.typeName? 3 u=X "*errors.errorString" ->u= 297:=
 typeName_ptr_named (nm:= "errors.errorString") (by kernel_rfl) (by kernel_rfl) (by decide)
theorem LG: j4.cellsOf 319 =1:=by kernel_rfl
theorem PI: j4.cellsOf 9 =1:=by kernel_rfl
theorem Us {b:Z}{l:List (String×DataW Unit)}(h0:laidMet j4 (("loop.example/s01308/impl.errOverflow",Rows.laid_loop_example_s01308_impl_errOverflow) ::("loop.example/s01308/impl.errZero",Rows.laid_loop_example_s01308_impl_errZero) ::("loop.example/s01308/impl.errWidth",Rows.laid_loop_example_s01308_impl_errWidth) ::("loop.example/s01308/impl.errShape",Rows.laid_loop_example_s01308_impl_errShape) ::l) b):∃aS aO aZ aW,CZ b aS aO aZ aW/\
  b.var? j4 "loop.example/s01308/impl.errShape" =X #[jB 297 (jK (X aS))]/\b.var? j4 "loop.example/s01308/impl.errOverflow" =X #[jB 297 (jK (X aO))]/\
  b.var? j4 "loop.example/s01308/impl.errZero" =X #[jB 297 (jK (X aZ))]/\b.var? j4 "loop.example/s01308/impl.errWidth" =X #[jB 297 (jK (X aW))]:=by
 obtain⟨N,⟨g0,O,m,P,S,W,c,n,d,o,⟨g1,aa,p,ab,ac,ad,f,q,g,r,⟨g2,ae,s,af,ag,ah,h,t,i,w,⟨g3,ai,x,aj,ak,al,j,y,k,z,ao,e3⟩,e2⟩,e1⟩,e0⟩,A,a⟩:=h0;obtain rfl:=jb (Ajd.symm.trans c);obtain rfl:=jb (Aje.symm.trans f);obtain rfl:=jb (Ajf.symm.trans h);obtain rfl:=jb (AhT.symm.trans j);obtain rfl:=jb (Ajg.symm.trans n);obtain rfl:=jb (Ajh.symm.trans q);obtain rfl:=jb (Aji.symm.trans t);obtain rfl:=jb (AhU.symm.trans y);subst e3;subst e2;subst e1;subst e0;obtain⟨B⟩:=m;obtain⟨l1⟩:=p;obtain⟨C⟩:=s;obtain⟨D⟩:=x;have E:∀u v,B=[jB u v]->Value.okWide j4 b .any 0 u v:=fun u v e=>by
  subst e;exact(a 7 0 (by simp[jw])).2 u v (by simpa using j2 c d 0)
 have F:∀u v,l1=[jB u v]->Value.okWide j4 b .any 0 u v:=fun u v e=>by
  subst e;exact(a 8 0 (by simp[jw])).2 u v (by simpa using j2 f g 0)
 have G:∀u v,C=[jB u v]->Value.okWide j4 b .any 0 u v:=fun u v e=>by
  subst e;exact(a 9 0 (by simp[jw])).2 u v (by simpa using j2 h i 0)
 have H:∀u v,D=[jB u v]->Value.okWide j4 b .any 0 u v:=fun u v e=>by
  subst e;exact(a 3 0 (by simp[jw])).2 u v (by simpa using j2 j k 0)
 obtain⟨aO,ap,rfl,aq,_,_,rfl⟩:=errorString_of_trod underlying98 VN underlying297 underlying319 rfl rfl underlying9 LG PI o E;obtain⟨aZ,s1,rfl,ar,_,_,rfl⟩:=errorString_of_trod underlying98 VN underlying297 underlying319 rfl rfl underlying9 LG PI r F;obtain⟨aW,s2,rfl,au,_,_,rfl⟩:=errorString_of_trod underlying98 VN underlying297 underlying319 rfl rfl underlying9 LG PI w G;obtain⟨aS,av,rfl,aw,_,_,rfl⟩:=errorString_of_trod underlying98 VN underlying297 underlying319 rfl rfl underlying9 LG PI z H;have rO:=(a aO.block aO.off (by simp[jw])).1;have rZ:=(a aZ.block aZ.off (by simp[jw])).1;have rW:=(a aW.block aW.off (by simp[jw])).1;have rS:=(a aS.block aS.off (by simp[jw])).1;have I:=(a 3 0 (by simp[jw])).1;have b1:=(a 7 0 (by simp[jw])).1;have b2:=(a 8 0 (by simp[jw])).1;have b3:=(a 9 0 (by simp[jw])).1;refine⟨aS,aO,aZ,aW,⟨by simpa using j2 j k 0,by simpa using j2 c d 0,by simpa using j2 f g 0,by simpa using j2 h i 0,?_,rS,rO,rZ,rW,?_,?_,?_,?_,?_,?_⟩,k,d,g,i⟩
 ·obtain⟨_,_,J⟩:=I;obtain⟨_,_,K⟩:=b1;obtain⟨_,_,L⟩:=b2;obtain⟨_,_,M⟩:=b3;have:=(z4.1 J).1;have:=(z4.1 K).1;have:=(z4.1 L).1;have:=(z4.1 M).1;omega
 all_goals (rintro rfl;simp[jw]at A)
end
end Go.Proofs.YteiieikcjcfkkaaGreatDoor
