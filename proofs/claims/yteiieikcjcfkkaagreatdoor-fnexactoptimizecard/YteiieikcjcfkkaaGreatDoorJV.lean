import Derived.Test.YteiieikcjcfkkaaGreatDoorJO
import Derived.Test.YteiieikcjcfkkaaGreatDoorMXAI
open Go.Proofs.Tryz
open Option renaming none->T,some->X
open Go.Value renaming int->U,slice->Y,iface->jB,agg->jG,pointer->jK,nilIface->jL,tuple->jO
open Go.IntKind renaming i64->V
open Go renaming World->Z,Value->R,Addr->jD,Calls->jE,TypeId->jJ,bodyPost_ret->jN,results->jR
open Nat renaming reduceEqDiff->jy
open Go.Proofs.Tryz renaming prog->j4
namespace Go.Proofs.YteiieikcjcfkkaaGreatDoor
set_option maxRecDepth 100000
set_option maxHeartbeats 1600000
open Go.RowKit
set_option linter.unusedVariables false
variable {aT:jD}
def abv (ts:List Int) (e:Ex) (ks:List Int):Option Int:=match e with
 |.int .. =>X 2
 |.text .. =>X 3
 |.bool .. =>X 1
 |.set .. =>X 4
 |.name .. =>T
 |.attr _ n=>X (Bw n)
 |.lett _ n=>if 0<=n then ts[n.toNat]? else T
 |.un _ op _=>nz (Ba op ks)
 |.bin _ op _ _=>nz (Ba op ks)
 |.ite .. =>nz (Ba 27 ks)
def Gs (o:Option Int) (r:Ending):Prop:=(∃t,o=X t/\r= .returned (jO #[U V t,jL]))\/(o=T/\∃z t u,r= .returned (jO #[U V z,jB t u]))
theorem Gs.of_ot {o:Option Int}{a:Ending}(h:AdB o aT a):Gs o a:=by
 cases o with
 |none=>exact .inr ⟨rfl,_,_,_,h⟩
 |some t=>exact .inl ⟨t,rfl,h⟩
structure RL (w:Z) (aN aA:jD):Prop where
 n: 5 <w.heap.size
 nc:w.cell? ⟨5,0,T⟩=X (jB 297 (jK (X aN)))
 a: 2 <w.heap.size
 ac:w.cell? ⟨2,0,T⟩=X (jB 297 (jK (X aA)))
theorem RL.below {w w':Z}{c d:jD}{B:Nat}(h:RL w c d)(b:Below B w w')(hB:w.heap.size<=B):RL w' c d:=
 ⟨zE h.n b.size,(b.cell (p:=⟨5,0,T⟩) (zE h.n hB)).trans h.nc,zE h.a b.size,(b.cell (p:=⟨2,0,T⟩) (zE h.a hB)).trans h.ac⟩
theorem Si (g:Nat)(num:Int)(h:Option jD)(a i:Nat)(ts:List Int)(d l:jD)(w:Z)(m:RL w d l)(hc:w.cell? ⟨g,1,T⟩=X (Y h a i))(f:AK w h a i ts):
  jE j4 184 #[jK (X ⟨g,0,T⟩),U V num] w fun n w'=>Gs (if 0<=num then ts[num.toNat]? else T) n/\Ah w w':=by
 have nc:=m.nc;by_cases h0:num<0
 ·have c:=Ab (show(if 0<=num then ts[num.toNat]? else T)=T from if_neg (by omega));rw[Aa c];go_enter func184,ntmps184
  go_wp2_with fail
  go_region
  all_goals
   go_wp2_with fail
   exact jN (v:= jO #[U V 0,jB 297 (jK (X d))]) (by simp[jR,results184,go_sem]) rfl ⟨.inr ⟨rfl,_,_,_,rfl⟩,BRN.drew⟩
 ·obtain⟨k,rfl⟩:∃k:Nat,num=k:=⟨num.toNat,by omega⟩
  by_cases h1:k<a
  ·have j:k<ts.length:=by rw[f.len];exact h1
   have c:=Ab (show(if (0 :Int)<=(k:Int)then ts[(k:Int).toNat]? else T)=X ts[k] by rw[if_pos (by omega),zV,zG j]);obtain⟨b,q,rfl,r,o⟩:=f.cells k j;have p:(k:Int)<(a:Int):=by omega
   rw[Aa c];generalize ts[k]=t at o;go_enter func184,ntmps184
   go_wp2_with fail
   exact jN (v:= jO #[U V t,jL]) (by simp[jR,results184,go_sem]) rfl ⟨.inl ⟨t,rfl,rfl⟩,BRN⟩
  ·have c:=Ab (show(if (0 :Int)<=(k:Int)then ts[(k:Int).toNat]? else T)=T by rw[if_pos (by omega),zV,yA (by rw[f.len];omega)]);rw[Aa c];have p: ¬ ((k:Int)<(a:Int)):=by omega
   go_enter func184,ntmps184
   go_wp2_with fail
   go_region
   all_goals
    go_wp2_with fail
    exact jN (v:= jO #[U V 0,jB 297 (jK (X d))]) (by simp[jR,results184,go_sem]) rfl ⟨.inr ⟨rfl,_,_,_,rfl⟩,BRN.drew⟩
theorem Iy (f:Nat)(T:jJ)(i:Int)(x:R)(d:Int)(h:(T= 220/\d=2/\∃n,x=U V n)\/(T= 222/\d=3/\∃s,x= .string s)\/(T= 177/\d=1/\∃b,x= .bool b)\/T= 218/\d=4/\∃a n c,x=Y a n c)(ka:Option jD)(kn kc:Nat)(w:Z):
  jE j4 167 #[jK (X ⟨f,0,none⟩),jB T (jG #[U V i,x]),Y ka kn kc] w fun g w'=>Gs (X d) g/\Ah w w':=by
 have j:=fun o=>Av w o;have ts:=tas T (jG #[U V i,x]);rcases h with⟨rfl,rfl,n,rfl⟩|⟨rfl,rfl,n,rfl⟩|⟨rfl,rfl,n,rfl⟩|⟨rfl,rfl,a,n,c,rfl⟩
 all_goals
  simp only[MT,jy,reduceIte]at ts;obtain⟨k,l,m,p,q,r,t,u,y,z⟩:=ts;go_enter func167,ntmps167
  go_wp2_with fail
  exact jN (v:= jO #[U V _,jL]) (by simp[jR,results167,go_sem]) rfl ⟨.inl ⟨_,rfl,rfl⟩,j _⟩
theorem YN (c:Nat)(i n:Int)(ka:Option jD)(kn kc:Nat)(aT:jD)(w:Z)(b:N9 w aT)(f: 0<=n/\n<6):
  jE j4 167 #[jK (X ⟨c,0,T⟩),jB 225 (jG #[U V i,U V n]),Y ka kn kc] w fun g w'=>Gs (X (Bw n)) g/\Ah w w':=by
 have ts:=tas 225 (jG #[U V i,U V n]);simp only[MT,jy,reduceIte]at ts;obtain⟨h,j,k,l,m,o,p,q,r,s⟩:=ts;have d:=Av w (.cells #[U V i,U V n] 225);have t:=b.a;have c1:w.cell? ⟨0,1,T⟩=X (U V (Bw 0)):=b.ac 1;have c3:w.cell? ⟨0,3,T⟩=X (U V (Bw 1)):=b.ac 3;have c5:w.cell? ⟨0,5,T⟩=X (U V (Bw 2)):=b.ac 5;have c7:w.cell? ⟨0,7,T⟩=X (U V (Bw 3)):=b.ac 7;have u:w.cell? ⟨0,9,T⟩=X (U V (Bw 4)):=b.ac 9;have c:w.cell? ⟨0,11,T⟩=X (U V (Bw 5)):=b.ac 11;rcases(show n=0\/n=1\/n=2\/n=3\/n=4\/n=5 by omega)with rfl|rfl|rfl|rfl|rfl|rfl
 all_goals
  clear b f;go_enter func167,ntmps167
  go_wp2_with fail
  exact jN (v:= jO #[U V (Bw _),jL]) (by simp[jR,results167,go_sem]) rfl ⟨.inl ⟨_,rfl,rfl⟩,by first|exact d|exact d.drew⟩
theorem YO (a:Nat)(i n:Int)(c:Option jD)(d f:Nat)(ts:List Int)(ka:Option jD)(kn kc:Nat)(g h:jD)(w:Z)(j:RL w g h)(hc:w.cell? ⟨a,1,T⟩=X (Y c d f))(k:a<w.heap.size)(l:AK w c d f ts):
  jE j4 167 #[jK (X ⟨a,0,T⟩),jB 173 (jG #[U V i,U V n]),Y ka kn kc] w fun m w'=>Gs (if 0<=n then ts[n.toNat]? else T) m/\Ah w w':=by
 have ts:=tas 173 (jG #[U V i,U V n]);simp only[MT,jy,reduceIte]at ts;obtain⟨x,y,A,B,C,D,E,F,G,H⟩:=ts;have b:=Av w (.cells #[U V i,U V n] 173);have o:=Ab (Si a n c d f ts g h _ (j.below b NLN) ((b.cell (p:=⟨a,1,T⟩) k).trans hc) (l.below b NLN));generalize (if 0<=n then ts[n.toNat]? else T)=I at o;clear j hc k l;go_enter func167,ntmps167
 go_wp2_with fail
 refine(Aa o).mono ?_;rintro m J ⟨r,s⟩;have q:=b.trans (s.mono b.size);rcases r with⟨t,rfl,rfl⟩|⟨rfl,z,t,u,rfl⟩
 ·dsimp only;go_wp2_with fail
  exact jN (v:= jO #[U V t,jL]) (by simp[jR,results167,go_sem]) rfl ⟨.inl ⟨t,rfl,rfl⟩,q⟩
 ·dsimp only;go_wp2_with fail
  exact jN (v:= jO #[U V z,jB t u]) (by simp[jR,results167,go_sem]) rfl ⟨.inr ⟨rfl,_,_,_,rfl⟩,q⟩
theorem AdH (z:Nat)(i op:Int)(t:jJ)(u:R)(ka:Option jD)(kn kc:Nat)(a:Int)(aT:jD)(w:Z)(m:N9 w aT)(g:AK w ka kn kc [a])(A: 8<=op/\op<=10)(B: 1<=a/\a<=4):
  jE j4 167 #[jK (X ⟨z,0,T⟩),jB 166 (jG #[U V i,U V op,jB t u]),Y ka kn kc] w fun h w'=>Gs (nz (Ba op [a])) h/\Ah w w':=by
 have ts:=tas 166 (jG #[U V i,U V op,jB t u]);simp only[MT,jy,reduceIte]at ts;obtain⟨J,K,L,M,N,O,S,W,aa,ab⟩:=ts;obtain⟨b,ok,rfl,n,j⟩:=g.cells 0 (by simp);obtain rfl:kn=1:=g.len.symm;simp only[zt,zX]at j;have k:=Ab (fun C D=>Gq op a 0 aT C D);rw[AhX A a B]at k;generalize nz (Ba op [a])=o at k|-;clear g;go_enter func167,ntmps167
 go_wp2_with fail
 refine EC (P:=Code.wp _ _ _ _) fun c d l=>?_;have q:=(d.cell (p:=⟨b,ok,T⟩) n).trans j;have r:c.cell? ⟨w.heap.size,1,T⟩=X (U V op):=l.cell 1;have E:=l.lt;have F:b<c.heap.size:=zE n d.size;have f:Ah c c.drew:=BRN.drew;have keep:∀w',Ah c w'->w'.cell? ⟨b,ok,T⟩=X (U V a)/\w'.cell? ⟨w.heap.size,1,T⟩=X (U V op):=fun w' s=>⟨(s.cell (p:=⟨b,ok,T⟩) F).trans q,(s.cell (p:=⟨w.heap.size,1,T⟩) E).trans r⟩
 have G:=Ab keep;have ac:=keep _ f;have H:=(m.below d NLN).below f NLN;clear m l keep j q r;go_region_held3 (fun w'=>w'.cell? ⟨b,ok,T⟩=X (U V a)/\w'.cell? ⟨w.heap.size,1,T⟩=X (U V op)) (first|assumption|go_keep)
  (first|(go_at_call 185;refine(Aa k _ H).mono ?_;rintro h ad ⟨x,I⟩;change h=_ at x;subst x;have y:=f.trans (I.mono f.size);have ae:=Aa G _ y))
 go_wp2_with fail
 exact jN (v:= jO #[U V (o.getD 0),Agf o.isSome aT]) (by simp[jR,results167,go_sem]) rfl ⟨Gs.of_ot (aT:=aT) rfl,d.trans (y.mono d.size)⟩
theorem AbJ (F:Nat)(i op:Int)(t:jJ)(u:R)(q:jJ)(r:R)(ka:Option jD)(kn kc:Nat)(a b:Int)(aT:jD)(w:Z)(s:N9 w aT)(h:AK w ka kn kc [a,b])(G: 11<=op/\op<=26)(H: 1<=a/\a<=4)(d: 1<=b/\b<=4):
  jE j4 167 #[jK (X ⟨F,0,T⟩),jB 168 (jG #[U V i,U V op,jB t u,jB q r]),Y ka kn kc] w fun k w'=>Gs (nz (Ba op [a,b])) k/\Ah w w':=by
 have ts:=tas 168 (jG #[U V i,U V op,jB t u,jB q r]);simp only[MT,jy,reduceIte]at ts;obtain⟨O,S,W,aa,ab,ac,ad,ae,af,ag⟩:=ts;obtain⟨c,ok,rfl,l,m⟩:=h.cells 0 (by simp);have x:w.cell? ⟨c,ok+1,T⟩=X (U V b):=by
  obtain⟨b2,o2,e2,_,c2⟩:=h.cells 1 (by simp);obtain⟨rfl,rfl⟩:c=b2/\ok=o2:=by simpa using e2
  simpa using c2
 obtain rfl:kn=2:=h.len.symm;simp only[zt,zX]at m;have n:=Ab (fun I J=>Gq op a b aT I J);rw[Agh G a b H d]at n;generalize nz (Ba op [a,b])=y at n|-;clear d;clear h;go_enter func167,ntmps167
 go_wp2_with fail
 refine EC (P:=Code.wp _ _ _ _) fun g f o=>?_;have z:=(f.cell (p:=⟨c,ok,T⟩) l).trans m;have A:=(f.cell (p:=⟨c,ok+1,T⟩) l).trans x;have B:g.cell? ⟨w.heap.size,1,T⟩=X (U V op):=o.cell 1;have K:=o.lt;have C:c<g.heap.size:=zE l f.size;have j:Ah g g.drew:=BRN.drew;have keep:∀w',Ah g w'->w'.cell? ⟨c,ok,T⟩=X (U V a)/\w'.cell? ⟨c,ok+1,T⟩=X (U V b)/\w'.cell? ⟨w.heap.size,1,T⟩=X (U V op):=fun w' d=>⟨(d.cell (p:=⟨c,ok,T⟩) C).trans z,(d.cell (p:=⟨c,ok+1,T⟩) C).trans A,(d.cell (p:=⟨w.heap.size,1,T⟩) K).trans B⟩
 have L:=Ab keep;have ah:=keep _ j;have M:=(s.below f NLN).below j NLN;clear s o keep m z x A B;go_region_held3 (fun w'=>w'.cell? ⟨c,ok,T⟩=X (U V a)/\w'.cell? ⟨c,ok+1,T⟩=X (U V b)/\w'.cell? ⟨w.heap.size,1,T⟩=X (U V op)) (first|assumption|go_keep)
  (first|(go_at_call 185;refine(Aa n _ M).mono ?_;rintro k ai ⟨D,N⟩;change k=_ at D;subst D;have E:=j.trans (N.mono j.size);have aj:=Aa L _ E))
 go_wp2_with fail
 exact jN (v:= jO #[U V (y.getD 0),Agf y.isSome aT]) (by simp[jR,results167,go_sem]) rfl ⟨Gs.of_ot (aT:=aT) rfl,f.trans (E.mono f.size)⟩
theorem AbK (I:Nat)(i:Int)(t:jJ)(u:R)(q:jJ)(r:R)(s:jJ)(x:R)(ka:Option jD)(kn kc:Nat)(a b d:Int)(aT:jD)(w:Z)(y:N9 w aT)(h:AK w ka kn kc [a,b,d])(g: 1<=b/\b<=4):
  jE j4 167 #[jK (X ⟨I,0,T⟩),jB 213 (jG #[U V i,jB t u,jB q r,jB s x]),Y ka kn kc] w fun m w'=>Gs (nz (Ba 27 [a,b,d])) m/\Ah w w':=by
 have ts:=tas 213 (jG #[U V i,jB t u,jB q r,jB s x]);simp only[MT,jy,reduceIte]at ts;obtain⟨S,W,aa,ab,ac,ad,ae,af,ag,ah⟩:=ts;obtain⟨c,ok,rfl,j,n⟩:=h.cells 0 (by simp);have z:w.cell? ⟨c,ok+1,T⟩=X (U V b):=by
  obtain⟨b2,o2,e2,_,c2⟩:=h.cells 1 (by simp);obtain⟨rfl,rfl⟩:c=b2/\ok=o2:=by simpa using e2
  simpa using c2
 have A:w.cell? ⟨c,ok+2,T⟩=X (U V d):=by
  obtain⟨b2,o2,e2,_,c2⟩:=h.cells 2 (by simp);obtain⟨rfl,rfl⟩:c=b2/\ok=o2:=by simpa using e2
  simpa using c2
 obtain rfl:kn=3:=h.len.symm;simp only[zt,zX]at n;have B:=Ab (fun J K=>P4 a b d aT J K g);generalize nz (Ba 27 [a,b,d])=C at B|-;clear g;clear h;go_enter func167,ntmps167
 go_wp2_with fail
 refine EC (P:=Code.wp _ _ _ _) fun k f L=>?_;have D:=(f.cell (p:=⟨c,ok,T⟩) j).trans n;have E:=(f.cell (p:=⟨c,ok+1,T⟩) j).trans z;have F:=(f.cell (p:=⟨c,ok+2,T⟩) j).trans A;have o:c<k.heap.size:=zE j f.size;have l:Ah k k.drew:=BRN.drew;have keep:∀w',Ah k w'->w'.cell? ⟨c,ok,T⟩=X (U V a)/\w'.cell? ⟨c,ok+1,T⟩=X (U V b)/\w'.cell? ⟨c,ok+2,T⟩=X (U V d):=fun w' g=>⟨(g.cell (p:=⟨c,ok,T⟩) o).trans D,(g.cell (p:=⟨c,ok+1,T⟩) o).trans E,(g.cell (p:=⟨c,ok+2,T⟩) o).trans F⟩
 have M:=Ab keep;have ai:=keep _ l;have N:=(y.below f NLN).below l NLN;clear y L keep n D z E A F;go_region_held3 (fun w'=>w'.cell? ⟨c,ok,T⟩=X (U V a)/\w'.cell? ⟨c,ok+1,T⟩=X (U V b)/\w'.cell? ⟨c,ok+2,T⟩=X (U V d)) (first|assumption|go_keep)
  (first|(go_at_call 186;refine(Aa B _ N).mono ?_;rintro m aj ⟨G,O⟩;change m=_ at G;subst G;have H:=l.trans (O.mono l.size);have ak:=Aa M _ H))
 go_wp2_with fail
 exact jN (v:= jO #[U V (C.getD 0),Agf C.isSome aT]) (by simp[jR,results167,go_sem]) rfl ⟨Gs.of_ot (aT:=aT) rfl,f.trans (H.mono f.size)⟩
end Go.Proofs.YteiieikcjcfkkaaGreatDoor
