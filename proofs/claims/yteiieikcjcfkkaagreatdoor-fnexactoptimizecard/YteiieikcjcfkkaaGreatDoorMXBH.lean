import Derived.Test.YteiieikcjcfkkaaGreatDoorMXAQ
open Go.Proofs.Tryz
open Option renaming none->T,some->X
open Go.Value renaming int->U,string->Q,iface->jB,agg->jG,pointer->jK,nilIface->jL
open Go.IntKind renaming i64->V
open Go renaming World->Z,Value->R,Addr->jD,Calls->jE,TypeId->jJ
open Go.Oper renaming upon_enter->jq
open Go.Proofs.Tryz renaming prog->j4
namespace Go.Proofs.YteiieikcjcfkkaaGreatDoor
open Go.RowKit
set_option linter.unusedVariables false
variable {Es:List Ex}{B:Nat}{s:St}
def Od (v:R):Prop:=v=jL\/∃t u,v=jB t u
def Bj (Es:List Ex) (k:Int):Nat:=if k= -1 then 0 else match Es[k.toNat]? with
 |some e=>e.cnt
 |none=>0
def Dl (Es:List Ex) (L:List St):Nat:=(L.map fun s=>Bj Es s.cond+Bj Es s.grant).sum
theorem Kd.row {a b:Nat}{lv c d f:Value}{w w':Z}(h:Kd B a b lv c w d f w'){g:Nat}{cs:Array Value}{t:jJ}(R:Ag w g cs t)(h1:g≠a)(h2:g≠b)(h3:lv.ownBlock≠X g)(h4:c.ownBlock≠X g):Ag w' g cs t/\d.ownBlock≠X g/\f.ownBlock≠X g:=by
 refine⟨⟨(h.keep g R.lt h1 h2 (fun e=>h3 e.symm) (fun e=>h4 e.symm)).trans R.out⟩,fun e=>?_,fun e=>?_⟩
 ·rcases h.newl g e with e2|e2
  ·exact h3 e2
  ·have:=R.lt;omega
 ·rcases h.newt g e with e2|e2
  ·exact h4 e2
  ·have:=R.lt;omega
theorem Fx {k:Int}{m:Nat}{e:Ex}(h:k=(m:Nat))(he:Es[m]? =X e):Bj Es k=e.cnt:=by
 rw[Bj,if_neg (by omega),h,zV,he]
theorem Tc (Es:List Ex)(L:List St)(k:Nat)(h:k<L.length):Dl Es (L.take k)+(Bj Es L[k].cond+Bj Es L[k].grant)<=Dl Es L:=by
 have e:L=L.take k++(L[k] ::L.drop (k+1)):=by rw[List.getElem_cons_drop,yN]
 have e2:=congrArg (Dl Es) e;simp only[Dl,zR,List.map_cons,List.sum_append,List.sum_cons]at e2|-;omega
set_option maxRecDepth 100000
set_option maxHeartbeats 6400000
def Jo (B cb mb:Nat) (lv tv:R) (o:Option (List ByteArray×List Int×List Int)) (w:Z) (r:Ending) (w':Z):Prop:=
 (∃ns ts tt lv' tv',o=X (ns,ts,tt)/\r= .returned jL/\Cm B cb mb ns ts tt lv' tv' w'/\Kd B cb mb lv tv w lv' tv' w')\/(o=T/\(∃t u,r= .returned (jB t u))/\Below B w w')
theorem PW (B a b:Nat)(ns:List ByteArray)(ts tt:List Int)(lv c:R)(j:Nat)(g:Int)(nm:ByteArray)(d:R)(hg:Od d)(w:Z)(h:Cm B a b ns ts tt lv c w):
  jE j4 91 #[jK (X ⟨a,0,T⟩),jG #[U V j,U V g,Q nm,jL,d]] w (Jo B a b lv c (X (ns,ts,tt)) w):=by
 have i:B<=w.heap.size:=by have:=h.C.low;have:=h.C.row.lt;omega
 have f:=Ab fun o:Obj=>Av w o;rcases hg with rfl|⟨k,l,rfl⟩
 all_goals
  go_enter func91,ntmps91
  go_wp2_with fail
  go_ret
  exact .inl ⟨_,_,_,_,_,rfl,rfl,h.below (Aa f _),Kd.of_all (Aa f _) i⟩
theorem YH (B a b:Nat)(ns:List ByteArray)(ts tt:List Int)(lv c:R)(j:Nat)(g:Int)(nm:ByteArray)(d:R)(hg:Od d)(w:Z)(h:Cm B a b ns ts tt lv c w):
  jE j4 92 #[jK (X ⟨a,0,T⟩),jG #[U V j,U V g,Q nm,d,jL]] w (Jo B a b lv c (X (ns,ts,tt)) w):=by
 have i:B<=w.heap.size:=by have:=h.C.low;have:=h.C.row.lt;omega
 have f:=Ab fun o:Obj=>Av w o;rcases hg with rfl|⟨k,l,rfl⟩
 all_goals
  go_enter func92,ntmps92
  go_wp2_with fail
  go_ret
  exact .inl ⟨_,_,_,_,_,rfl,rfl,h.below (Aa f _),Kd.of_all (Aa f _) i⟩
open Classical in
theorem Sf (B cb mb:Nat) (ns:List ByteArray) (ts tt:List Int) (lv tv:R) (w0:Z) (aT aN aA:jD) (hV:N9 w0 aT) (hE:RL w0 aN aA) (hB:w0.heap.size<=B) (j:Nat) (nm:ByteArray) (T:jJ) (v:R) (i:Int) (hp:PlX T v i) (gv:R) (hg:Od gv) (ot:Option Int) (ys:List Int) (V:Hid (TyV B cb ts (.map (X mb)) lv w0 (jB T v) ot ys)) (w:Z) (hw:Below B w0 w) (h:Cm B cb mb ns ts tt lv tv w) (hz:tt.length+ys.length<=4000) (hl:ts.length<=1000):
  jE j4 91 #[jK (X ⟨cb,0,none⟩),jG #[U .i64 j,U .i64 1,Q nm,jB T v,gv]] w (Jo B cb mb lv tv (match ot with|some t=>if nm∈ns then none else X (ns++[nm],ts++[t],tt++ys)|none=>none) w):=by
 have hBw:B<=w.heap.size:=by have:=h.C.low;have:=h.C.row.lt;omega
 have B0:=Ab fun o:Obj=>Av w o;have gcb:w.heap.size≠cb:=by have:=h.C.row.lt;omega
 have gtv:tv.ownBlock≠X w.heap.size:=fun e=>by have:=(h.C.types.lt _ e).2;omega
 have Hw:=Ab hw;clear hw;obtain⟨F,x,fn,hp,hen,Hp⟩:=hp;have HE:=Ab (Bm hen.1 hen.2.1 hen.2.2);have HP:=Ab Hp;clear Hp hen;rcases hg with rfl|⟨tg,ug,rfl⟩
 all_goals
  go_enter func91,ntmps91
  go_wp2_with fail
  refine(Aa V tt tv _ ((Aa Hw).trans ((Aa B0 _).mono hBw)) (h.below (Aa B0 _)).C hz).mono ?_;rintro r w2 (⟨t,tv',rfl,rfl,C2,K2⟩|⟨rfl,⟨z,t,u,rfl⟩,hb2⟩)
  case' inr=>
   dsimp only;go_wp2_with fail
   go_ret
   exact .inr ⟨rfl,⟨_,_,rfl⟩,((Aa B0 _).mono hBw).trans hb2⟩
  have H2:=(h.below (Aa B0 _)).of_kt C2 K2;have D2:=((Aa B0 _).mono hBw).trans K2.low;have R2:=K2.row (Ag.new w _ _) gcb gtv;obtain⟨r0,r1,r2,r3,r4⟩:=AP R2;have KK:Kd B cb mb lv tv w lv tv' w2:=(Kd.of_all (Aa B0 _) hBw).trans (Kd.of_kt K2);dsimp only;go_wp2_with fail
  refine(VZ B cb mb ns ts _ lv tv' nm t aN aA w2 (hE.below ((Aa Hw).trans D2) hB) H2 hl).mono ?_;rintro r w3 (⟨hn,rfl,lv',H3,K3⟩|⟨hn,⟨te,ue,rfl⟩,hb3⟩)
  all_goals
   have HN:=Ab hn;clear hn
  case' inl=>
   dsimp only;go_wp2_with fail
   go_ret
   exact .inl ⟨_,_,_,_,_,(by first|rfl|exact if_neg (Aa HN)),rfl,H3,KK.trans K3⟩
  have D3:=D2.trans (hb3.mono (zB hBw D2.size));obtain⟨s0,s1,s2,s3,s4⟩:=AP (R2.after hb3 NLN);dsimp only;go_wp2_with fail
  rw[Aa HE,jq];refine(Aa HP _).mono ?_;rintro r wp ⟨rfl,hbp⟩;dsimp only;go_wp2_with fail
  refine(Fz i _ _ _).mono ?_;rintro r wf ⟨⟨t',u',rfl⟩,hbf⟩;dsimp only;go_wp2_with fail
  go_ret
  exact .inr ⟨(by first|rfl|exact if_pos (Aa HN)),⟨_,_,rfl⟩,(D3.trans (hbp.mono (zB hBw D3.size))).trans (hbf.mono (zB (zB hBw D3.size) hbp.size))⟩
theorem PV (B a f:Nat)(ns:List ByteArray)(ts tt:List Int)(lv d:R)(w0:Z)(aT E G:jD)(H:N9 w0 aT)(af:RL w0 E G)(hB:w0.heap.size<=B)(j:Nat)(n:Int)(ag:(n==1)=false)(nm:ByteArray)(T:jJ)(v:R)(i:Int)(hp:PlX T v i)(p:R)(hg:Od p)(q:Option Int)(ys:List Int)(I:Hid (TyV B a ts (.map (X f)) lv w0 (jB T v) q ys))(w:Z)(r:Below B w0 w)(h:Cm B a f ns ts tt lv d w)(J:tt.length+ys.length<=4000):
  jE j4 91 #[jK (X ⟨a,0,none⟩),jG #[U V j,U V n,Q nm,jB T v,p]] w (Jo B a f lv d (match q with|some t=>if t=1 then X (ns,ts,tt++ys)else none|none=>none) w):=by
 have b:B<=w.heap.size:=by have:=h.C.low;have:=h.C.row.lt;omega
 have c:=Ab fun o:Obj=>Av w o;have K:w.heap.size≠a:=by have:=h.C.row.lt;omega
 have L:d.ownBlock≠X w.heap.size:=fun e=>by have:=(h.C.types.lt _ e).2;omega
 have s:=Ab r;clear r;obtain⟨F,x,fn,hp,g,y⟩:=hp;have M:=Ab (Bm g.1 g.2.1 g.2.2);have N:=Ab y;clear y g;rcases hg with rfl|⟨ah,ai,rfl⟩
 all_goals
  go_enter func91,ntmps91
  go_wp2_with fail
  refine(Aa I tt d _ ((Aa s).trans ((Aa c _).mono b)) (h.below (Aa c _)).C J).mono ?_;rintro A O (⟨t,P,rfl,rfl,S,k⟩|⟨rfl,⟨z,t,u,rfl⟩,W⟩)
  case' inr=>
   dsimp only;go_wp2_with fail
   go_ret
   exact .inr ⟨rfl,⟨_,_,rfl⟩,((Aa c _).mono b).trans W⟩
  have aa:=(h.below (Aa c _)).of_kt S k;have l:=((Aa c _).mono b).trans k.low;have ab:=k.row (Ag.new w _ _) K L;obtain⟨aj,ak,r2,r3,al⟩:=AP ab;have ac:Kd B a f lv d w lv P O:=(Kd.of_all (Aa c _) b).trans (Kd.of_kt k);dsimp only;by_cases m:t=1
  case' pos=>
   subst m;go_wp2_with fail
   go_ret
   exact .inl ⟨_,_,_,_,_,(by first|rfl|exact if_pos rfl),rfl,aa,ac⟩
  have nt:(t !=1)=true:=zc.2 m;have ad:=Ab m;clear m;have ec:=(H.below ((Aa s).trans l) hB).ec;go_wp2_with fail
  rw[Aa M,jq];refine(Aa N _).mono ?_;rintro A ao ⟨rfl,D⟩;dsimp only;go_wp2_with fail
  refine(Fz i _ _ _).mono ?_;rintro A ap ⟨⟨aq,ar,rfl⟩,ae⟩;dsimp only;go_wp2_with fail
  go_ret
  exact .inr ⟨(by first|rfl|exact if_neg (Aa ad)),⟨_,_,rfl⟩,(l.trans (D.mono (zB b l.size))).trans (ae.mono (zB (zB b l.size) D.size))⟩
theorem Adx (B a f:Nat)(ns:List ByteArray)(ts tt:List Int)(lv c:R)(w0:Z)(aT M N:jD)(O:N9 w0 aT)(ao:RL w0 M N)(hB:w0.heap.size<=B)(j:Nat)(P:Int)(nm:ByteArray)(T:jJ)(v:R)(i:Int)(hp:PlX T v i)(A:R)(hg:Od A)(D:Option Int)(ys:List Int)(S:Hid (TyV B a ts (.map (X f)) lv w0 (jB T v) D ys))(w:Z)(E:Below B w0 w)(h:Cm B a f ns ts tt lv c w)(W:tt.length+ys.length<=4000):
  jE j4 92 #[jK (X ⟨a,0,none⟩),jG #[U V j,U V P,Q nm,A,jB T v]] w (Jo B a f lv c (match D with|some t=>if t=4 then X (ns,ts,tt++ys)else none|none=>none) w):=by
 have d:B<=w.heap.size:=by have:=h.C.low;have:=h.C.row.lt;omega
 have b:=Ab fun o:Obj=>Av w o;have aa:w.heap.size≠a:=by have:=h.C.row.lt;omega
 have ab:c.ownBlock≠X w.heap.size:=fun e=>by have:=(h.C.types.lt _ e).2;omega
 have G:=Ab E;clear E;obtain⟨F,x,fn,hp,g,H⟩:=hp;have ac:=Ab (Bm g.1 g.2.1 g.2.2);have ad:=Ab H;clear H g;rcases hg with rfl|⟨ap,aq,rfl⟩
 all_goals
  go_enter func92,ntmps92
  go_wp2_with fail
  refine(Aa S tt c _ ((Aa G).trans ((Aa b _).mono d)) (h.below (Aa b _)).C W).mono ?_;rintro I k (⟨t,ae,rfl,rfl,af,l⟩|⟨rfl,⟨z,t,u,rfl⟩,ag⟩)
  case' inr=>
   dsimp only;go_wp2_with fail
   go_ret
   exact .inr ⟨rfl,⟨_,_,rfl⟩,((Aa b _).mono d).trans ag⟩
  have ah:=(h.below (Aa b _)).of_kt af l;have n:=((Aa b _).mono d).trans l.low;have J:=l.row (Ag.new w _ _) aa ab;obtain⟨ar,au,r2,r3,av⟩:=AP J;have ai:Kd B a f lv c w lv ae k:=(Kd.of_all (Aa b _) d).trans (Kd.of_kt l);dsimp only;by_cases m:t=4
  case' pos=>
   subst m;go_wp2_with fail
   go_ret
   exact .inl ⟨_,_,_,_,_,(by first|rfl|exact if_pos rfl),rfl,ah,ai⟩
  have nt:(t !=4)=true:=zc.2 m;have aj:=Ab m;clear m;have q:=O.below ((Aa G).trans n) hB;have r:Ah k k.drew:=BRN.drew;have s:=Ab (show ∀w',Ah k w'->w'.cell? ⟨w.heap.size,4,none⟩=X (jB T v)/\w'.cell? ⟨1,0,none⟩=X (jB 297 (jK (X aT)))from fun w' K=>⟨(J.after K NLN).cell 4,(K.cell (p:=⟨1,0,none⟩) q.e).trans q.ec⟩);have aw:=Aa s _ r;clear q;go_wp2_with fail
  go_region_held3 (fun w'=>w'.cell? ⟨w.heap.size,4,none⟩=X (jB T v)/\w'.cell? ⟨1,0,none⟩=X (jB 297 (jK (X aT)))) (first|assumption|go_keep)
   (first
    |(go_at_call 136;refine(Fz i _ _ _).mono ?_;rintro I ax ⟨⟨ay,az,rfl⟩,ak⟩;have L:=y.trans (ak.mono y.size);have aA:=Aa s _ L)
    |(rw[Aa ac,jq];refine(Aa ad _).mono ?_;rintro I aB ⟨rfl,al⟩;have y:=r.trans (al.mono r.size);have aC:=Aa s _ y))
  go_wp2_with fail
  go_ret
  exact .inr ⟨(by first|rfl|exact if_neg (Aa aj)),⟨_,_,rfl⟩,n.trans (L.mono (zB d n.size))⟩
abbrev Gn:=List ByteArray×List Int×List Int
open Classical in
noncomputable def RP (kd:Int) (nm:ByteArray) (st:Gn) (ot:Option Int) (ys:List Int):Option Gn:=
 if kd=1 then (match ot with|some t=>if nm∈st.1 then T else X (st.1++[nm],st.2.1++[t],st.2.2++ys)|none=>T)
 else (match ot with|some t=>if t=1 then X (st.1,st.2.1,st.2.2++ys)else T|none=>T)
def ckG (st:Gn) (ot:Option Int) (ys:List Int):Option Gn:=match ot with|some t=>if t=4 then X (st.1,st.2.1,st.2.2++ys)else T|none=>T
noncomputable def AQ (Es:List Ex) (st:Gn) (s:St):Option Gn:=if s.cond= -1 then X st else match Es[s.cond.toNat]? with
 |some e=>RP s.kind s.name st (Al st.2.1 e) (A7 st.2.1 e)
 |none=>T
def AU (Es:List Ex) (st:Gn) (s:St):Option Gn:=if s.grant= -1 then X st else match Es[s.grant.toNat]? with
 |some e=>ckG st (Al st.2.1 e) (A7 st.2.1 e)
 |none=>T
def okP (Es:List Ex) (k:Int):Prop:=k= -1\/∃ (m:Nat) (e:Ex),k=m/\Es[m]? =X e/\e.typed/\e.cnt<=4000
theorem JU (Es:List Ex)(k:Int):Od (DJ Es k):=by
 rw[DJ];split
 ·exact .inl rfl
 ·split
  ·exact .inr (Ex.form _)
  ·exact .inl rfl
theorem PU (B a b:Nat)(st:Gn)(lv d:R)(w0:Z)(aT f g:jD)(m:N9 w0 aT)(n:RL w0 f g)(hB:w0.heap.size<=B)(r:∀t∈st.2.1,1<=t/\t<=4)(s:st.2.1.length<=1000)(j:Nat)(i:Int)(nm:ByteArray)(k:R)(hg:Od k)(e:Ex)(he:e.typed)(w:Z)(p:Below B w0 w)(h:Cm B a b st.1 st.2.1 st.2.2 lv d w)(l:st.2.2.length+e.cnt<=4000):
  jE j4 91 #[jK (X ⟨a,0,none⟩),jG #[U V j,U V i,Q nm,e.val,k]] w (Jo B a b lv d (RP i nm st (Al st.2.1 e) (A7 st.2.1 e)) w):=by
 have c:=Ab (KI B a st.2.1 (.map (X b)) lv w0 aT f g m n hB r (by omega) e he);rw[<-Ct st.2.1 e]at l;generalize A7 st.2.1 e=ys at c l|-;generalize Al st.2.1 e=q at c|-;obtain⟨T,v,hv,_,hp⟩:=e.mth;rw[hv]at c|-;unfold RP;by_cases o:i=1
 ·subst o;rw[if_pos rfl];cases q<;>exact Sf B a b st.1 st.2.1 st.2.2 lv d w0 aT f g m n hB j nm _ _ _ hp k hg _ _ c w p h l s
 ·rw[if_neg o];cases q<;>exact PV B a b st.1 st.2.1 st.2.2 lv d w0 aT f g m n hB j i (zA.2 o) nm _ _ _ hp k hg _ _ c w p h l
theorem YG (B a b:Nat)(st:Gn)(lv d:R)(w0:Z)(aT f g:jD)(l:N9 w0 aT)(m:RL w0 f g)(hB:w0.heap.size<=B)(o:∀t∈st.2.1,1<=t/\t<=4)(r:st.2.1.length<=1000)(j:Nat)(n:Int)(nm:ByteArray)(i:R)(hg:Od i)(e:Ex)(he:e.typed)(w:Z)(p:Below B w0 w)(h:Cm B a b st.1 st.2.1 st.2.2 lv d w)(k:st.2.2.length+e.cnt<=4000):
  jE j4 92 #[jK (X ⟨a,0,none⟩),jG #[U V j,U V n,Q nm,i,e.val]] w (Jo B a b lv d (ckG st (Al st.2.1 e) (A7 st.2.1 e)) w):=by
 have c:=Ab (KI B a st.2.1 (.map (X b)) lv w0 aT f g l m hB o (by omega) e he);rw[<-Ct st.2.1 e]at k;generalize A7 st.2.1 e=ys at c k|-;generalize Al st.2.1 e=q at c|-;obtain⟨T,v,hv,_,hp⟩:=e.mth;rw[hv]at c|-;unfold ckG;cases q<;>exact Adx B a b st.1 st.2.1 st.2.2 lv d w0 aT f g l m hB j n nm _ _ _ hp i hg _ _ c w p h k
theorem Sg (B a b:Nat)(st:Gn)(lv c:R)(w0:Z)(aT d f:jD)(g:N9 w0 aT)(i:RL w0 d f)(hB:w0.heap.size<=B)(k:∀t∈st.2.1,1<=t/\t<=4)(l:st.2.1.length<=1000)(Es:List Ex)(j:Nat)(s:St)(hs:okP Es s.cond)(w:Z)(n:Below B w0 w)(h:Cm B a b st.1 st.2.1 st.2.2 lv c w)(o:∀m e,s.cond=(m:Nat)->Es[m]? =X e->st.2.2.length+e.cnt<=4000):
  jE j4 91 #[jK (X ⟨a,0,T⟩),jG #[U V j,U V s.kind,Q s.name,DJ Es s.cond,DJ Es s.grant]] w (Jo B a b lv c (AQ Es st s) w):=by
 have hg:=JU Es s.grant;rcases hs with e1|⟨m,e,e1,e2,e3,_⟩
 ·rw[AQ,if_pos e1,e1,G1];exact PW B a b st.1 st.2.1 st.2.2 lv c j s.kind s.name _ hg w h
 ·have z:=o m e e1 e2;have eo:DJ Es s.cond=e.val:=by rw[e1,DJ,if_neg (by omega),zV,e2]
  rw[AQ,if_neg (by omega),e1,zV,e2,<-e1,eo];exact PU B a b st lv c w0 aT d f g i hB k l j s.kind s.name _ hg e e3 w n h z
theorem AbD (B a b:Nat)(st:Gn)(lv c:R)(w0:Z)(aT d f:jD)(g:N9 w0 aT)(i:RL w0 d f)(hB:w0.heap.size<=B)(k:∀t∈st.2.1,1<=t/\t<=4)(l:st.2.1.length<=1000)(Es:List Ex)(j:Nat)(s:St)(hs:okP Es s.grant)(w:Z)(n:Below B w0 w)(h:Cm B a b st.1 st.2.1 st.2.2 lv c w)(o:∀m e,s.grant=(m:Nat)->Es[m]? =X e->st.2.2.length+e.cnt<=4000):
  jE j4 92 #[jK (X ⟨a,0,T⟩),jG #[U V j,U V s.kind,Q s.name,DJ Es s.cond,DJ Es s.grant]] w (Jo B a b lv c (AU Es st s) w):=by
 have hg:=JU Es s.cond;rcases hs with e1|⟨m,e,e1,e2,e3,_⟩
 ·rw[AU,if_pos e1,e1,G1];exact YH B a b st.1 st.2.1 st.2.2 lv c j s.kind s.name _ hg w h
 ·have z:=o m e e1 e2;have eo:DJ Es s.grant=e.val:=by rw[e1,DJ,if_neg (by omega),zV,e2]
  rw[AU,if_neg (by omega),e1,zV,e2,<-e1,eo];exact YG B a b st lv c w0 aT d f g i hB k l j s.kind s.name _ hg e e3 w n h z
noncomputable def Bp (Es:List Ex) (st:Gn) (s:St):Option Gn:=(AQ Es st s).bind fun st1=>AU Es st1 s
noncomputable def AI (Es:List Ex):Gn->List St->Option Gn
 |st,[]=>X st
 |st,s ::L=>(Bp Es st s).bind fun st1=>AI Es st1 L
theorem EJ (Es:List Ex)(s:St):∀(L:List St) (st:Gn),AI Es st (L++[s])=(AI Es st L).bind fun a=>Bp Es a s
 |[],st=>by simp only[List.nil_append,AI,zm];cases Bp Es st s<;>rfl
 |x ::L,st=>by
  rw[List.cons_append,AI,AI];cases Bp Es st x with
  |none=>rfl
  |some a=>exact EJ Es s L a
theorem Tb (Es:List Ex):∀(L M:List St) (st:Gn),AI Es st (L++M)=(AI Es st L).bind fun a=>AI Es a M
 |[],M,st=>rfl
 |x ::L,M,st=>by
  rw[List.cons_append,AI,AI];cases Bp Es st x with
  |none=>rfl
  |some a=>exact Tb Es L M a
theorem KJ (Es:List Ex)(L:List St)(st:Gn)(k:Nat)(h:AI Es st (L.take k)=T):AI Es st L=T:=by
 have e:=Tb Es (L.take k) (L.drop k) st;rw[yN,h]at e;exact e
theorem F5 {st b:Gn}(h:AQ Es st s=X b):b.2.2.length=st.2.2.length+Bj Es s.cond/\b.2.1.length<=st.2.1.length+1/\((∀t∈st.2.1,1<=t/\t<=4)->∀t∈b.2.1,1<=t/\t<=4):=by
 rw[AQ]at h;rw[Bj];by_cases e1:s.cond= -1
 ·rw[if_pos e1]at h|-;cases h;exact⟨rfl,zj _,id⟩
 ·rw[if_neg e1]at h|-;cases he:Es[s.cond.toNat]? with
  |none=>rw[he]at h;cases h
  |some e=>
   rw[he]at h;simp only[RP]at h;have c:=Ct st.2.1 e;by_cases d:s.kind=1
   ·rw[if_pos d]at h;cases a:Al st.2.1 e with
    |none=>rw[a]at h;cases h
    |some t=>
     rw[a]at h;dsimp only at h;split at h
     ·cases h
     ·cases h;refine⟨by simp[c],by simp,fun f x hx=>?_⟩;rcases zN.1 hx with hx|hx
      ·exact f x hx
      ·simp at hx;subst hx;exact MV f e x a
   ·rw[if_neg d]at h;cases a:Al st.2.1 e with
    |none=>rw[a]at h;cases h
    |some t=>
     rw[a]at h;dsimp only at h;split at h
     ·cases h;exact⟨by simp[c],zj _,id⟩
     ·cases h
theorem VU {st a:Gn}(h:AU Es st s=X a):a.2.2.length=st.2.2.length+Bj Es s.grant/\a.2.1=st.2.1:=by
 rw[AU]at h;rw[Bj];by_cases e1:s.grant= -1
 ·rw[if_pos e1]at h|-;cases h;exact⟨rfl,rfl⟩
 ·rw[if_neg e1]at h|-;cases he:Es[s.grant.toNat]? with
  |none=>rw[he]at h;cases h
  |some e=>
   rw[he]at h;simp only[ckG]at h;have c:=Ct st.2.1 e;cases b:Al st.2.1 e with
   |none=>rw[b]at h;cases h
   |some t=>
    rw[b]at h;dsimp only at h;split at h
    ·cases h;exact⟨by simp[c],rfl⟩
    ·cases h
theorem FQ {Es:List Ex} :∀{L:List St} {st a:Gn},AI Es st L=X a->a.2.2.length=st.2.2.length+Dl Es L/\a.2.1.length<=st.2.1.length+L.length/\((∀t∈st.2.1,1<=t/\t<=4)->∀t∈a.2.1,1<=t/\t<=4)
 |[],st,a,h=>by cases h;exact⟨by simp[Dl],by simp,id⟩
 |s ::L,st,a,h=>by
  rw[AI,Bp]at h;cases h1:AQ Es st s with
  |none=>rw[h1]at h;cases h
  |some s1=>
   rw[h1]at h
   change ((AU Es s1 s).bind fun a=>AI Es a L)=X a at h
   cases h2:AU Es s1 s with
   |none=>rw[h2]at h;cases h
   |some s2=>
    rw[h2]at h;obtain⟨a1,a2,a3⟩:=F5 h1;obtain⟨b1,b2⟩:=VU h2;obtain⟨c1,c2,c3⟩:=FQ (show AI Es s2 L=X a from h);have e:Dl Es (s ::L)=Bj Es s.cond+Bj Es s.grant+Dl Es L:=by simp[Dl]
    refine⟨by rw[e];omega,by rw[b2]at c2;simp;omega,fun b=>c3 (by rw[b2];exact a3 b)⟩
set_option maxHeartbeats 3200000
theorem Jp (B c f:Nat)(st:Gn)(lv x:Value)(w0:Z)(aT H I:jD)(ag:N9 w0 aT)(ah:RL w0 H I)(hB:w0.heap.size<=B)(Es:List Ex)(L:List St)(m g aI:Nat)(ai:Array Value)(w:Z)
  (hm:L.length=m)(aj:∀t∈st.2.1,1<=t/\t<=4)(ak:st.2.1.length+m<=1000)(al:∀s∈L,okP Es s.cond/\okP Es s.grant)(ao:st.2.2.length+Dl Es L<=4000)
  (ap:Below B w0 w)(h:Cm B c f st.1 st.2.1 st.2.2 lv x w)(R:Ag w g ai 108)(y:Nat->Nat)(aq:∀(k:Nat) (aJ:k<L.length) (b:Nat),b<5->∀u,(LH Es (y k) L[k])[b]? =X u->ai[k*5+b]? =X u)(g1:g≠c)(g2:g≠f)(g3:lv.ownBlock≠X g)(aK:x.ownBlock≠X g):
  jE j4 54 #[jK (X ⟨c,0,T⟩),.slice (X ⟨g,0,T⟩) m aI] w (Jo B c f lv x (AI Es st L) w):=by
 have ar:=Ab hm;have aL:=Ab al;have aM:=Ab aq;have aN:=Ab ao;have aO:=Ab aj;have aP:=Ab ak;have au:=Ab ap;have bi:m<=1000:=by omega
 clear hm al aq ao aj ak ap;have aQ:B<=w.heap.size:=by have:=h.C.low;have:=h.C.row.lt;omega
 go_enter func54,ntmps54
 go_wp2_with fail
 go_loopw [11] (fun i wr=>∃ (k:Nat) (a:Gn) (z A:Value),k<=m/\i=U V k/\Hid (AI Es st (L.take k)=X a)/\Cm B c f a.1 a.2.1 a.2.2 z A wr/\Kd B c f lv x w z A wr) (fun i _=>m-(intOf i).toNat)
 case atStart=>exact⟨0,st,lv,x,by omega,rfl,Ab rfl,h,Kd.refl _ _ _ _ _ _⟩
 case round=>
  obtain⟨k,a,z,A,aJ,rfl,E,o,F⟩:=hrel;by_cases J:k<m
  ·have bj:(k:Int)<(m:Int):=by omega
   have p:k<L.length:=by rw[Aa ar];exact J
   obtain⟨av,bk,bl⟩:=F.row R g1 g2 g3 aK;have q:∀b,b<5->∀u,(LH Es (y k) L[k])[b]? =X u->wr.cell? ⟨g,k*5+b,T⟩=X u:=fun b aR u aS=>by
    rw[av.cell];exact Aa aM k p b aR u aS
   have K:=q 0 (by decide) _ rfl;have c1:=q 1 (by decide) _ rfl;have c2:=q 2 (by decide) _ rfl;have c3:=q 3 (by decide) _ rfl;have c4:=q 4 (by decide) _ rfl;simp only[zX]at K;obtain⟨l1,aw,ax⟩:=FQ (Aa E);have room:=Tc Es L k p;have N:=ax (Aa aO);have aU:=Aa aN;have aV:=Aa aP;have aW:a.2.1.length<=999:=by rw[zr]at aw;omega
   obtain⟨ay,az⟩:=Aa aL L[k] (zH p);have O:=Ab (show ∀r,Bp Es a L[k]=X r->AI Es st (L.take (k+1))=X r from fun r e=>by rw[zQ p,EJ,Aa E];exact e);have G:=Ab (show Bp Es a L[k]=T->AI Es st L=T from fun e=>KJ Es L st (k+1) (by rw[zQ p,EJ,Aa E];exact e));have aA:=Ab J;have P:=F.low;have S:B<=wr.heap.size:=zB aQ P.size;have aX:wr.heap.size≠c:=by have:=o.C.row.lt;omega
   have aY:wr.heap.size≠f:=by have:=o.M.lt;omega
   have aZ:z.ownBlock≠X wr.heap.size:=fun e=>by have:=(o.C.lets.lt _ e).2;omega
   have a0:A.ownBlock≠X wr.heap.size:=fun e=>by have:=(o.C.types.lt _ e).2;omega
   have j:=Ab (fun W aa ab=>Sg B c f a z A w0 aT H I ag ah hB N (by omega) Es (y k) L[k] ay W aa ab (fun a1 e e1 e2=>by have:=Fx e1 e2;omega));have d:=Ab (fun (r:Gn) (h2:AQ Es a L[k]=X r) ac ad W aa ab=>AbD B c f r ac ad w0 aT H I ag ah hB ((F5 h2).2.2 N) (by have:=(F5 h2).2.1;omega) Es (y k) L[k] az W aa ab (fun a1 e e1 e2=>by have:=Fx e1 e2;have:=(F5 h2).1;omega));clear q av J ay az room l1 aw ax N aU aV aW;have l:=Ab (show Bp Es a L[k]=(AQ Es a L[k]).bind fun s1=>AU Es s1 L[k]from rfl);generalize L[k]=s at K c1 c2 c3 c4 O G j d l;generalize y k=bm at K j d;clear p;have aB:=JU Es s.cond;have aC:=JU Es s.grant;generalize Bp Es a s=bn at O G l;generalize AQ Es a s=bo at j d l;generalize AU Es=bp at d l;generalize DJ Es s.cond=bq at c3 j d aB;generalize DJ Es s.grant=br at c4 j d aC;generalize s.kind=bs at c1 j d;generalize s.name=nm at c2 j d;rcases aB with rfl|⟨bt,u3,rfl⟩<;>rcases aC with rfl|⟨bu,u4,rfl⟩
   all_goals
    go_wp2_with fail
    refine(Aa j _ ?_ (o.below (BRN.alloc NLN _))).mono ?_
    ·exact((Aa au).trans P).alloc S _
    rintro b a2 (⟨a3,a4,a5,ac,ad,v,rfl,a6,ae⟩|⟨v,⟨a7,a8,rfl⟩,a9⟩)
    ·have aD:=Ab v;obtain⟨aE,_,_⟩:=ae.row (Ag.new wr _ _) aX aY aZ a0;obtain⟨bv,bw,r2,r3,bx⟩:=AP aE;have af:=(F.trans (Kd.of_all (BRN.alloc NLN _) S)).trans ae;have ba:=(Aa au).trans af.low;have bb:=Ab (Aa d (a3,a4,a5) v ac ad a2 ba a6);clear v ae aE;dsimp only;go_wp2_with fail
     refine(Aa bb).mono ?_;rintro b bz (⟨aF,aG,aH,bc,bd,D,rfl,bf,bg⟩|⟨D,⟨a7,a8,rfl⟩,bh⟩)
     ·have n:=Ab (Aa O (aF,aG,aH) (by rw[Aa l,Aa aD];exact D));clear D;dsimp only;go_wp2_with fail
      go_roundw
      case rel=>exact⟨k+1,(aF,aG,aH),bc,bd,Aa aA,by go_num,n,bf,af.trans bg⟩
      case measure=>have:=Aa aA;simp[intOf];omega
     ·have n:=Ab (Aa G (by rw[Aa l,Aa aD];exact D));clear D;dsimp only;go_wp2_with fail
      go_ret
      exact .inr ⟨Aa n,⟨_,_,rfl⟩,af.low.trans bh⟩
    ·have n:=Ab (Aa G (by rw[Aa l,v];rfl));clear v;dsimp only;go_wp2_with fail
     go_ret
     exact .inr ⟨Aa n,⟨_,_,rfl⟩,(P.alloc S _).trans a9⟩
  ·have e:k=m:=by omega
   subst e;have n:=Ab (show AI Es st L=X a by rw[<-Aa E,<-Aa ar,Z2]);go_wp2_with fail
   go_ret
   exact .inl ⟨_,_,_,_,_,Aa n,rfl,o,F⟩
theorem PT (B a b:Nat)(st:Gn)(lv c:Value)(w0:Z)(aT i j:jD)(n:N9 w0 aT)(o:RL w0 i j)(hB:w0.heap.size<=B)(Es:List Ex)(L:List St)(m g l:Nat)(f:Array Value)(w:Z)
  (hm:L.length=m)(p:∀t∈st.2.1,1<=t/\t<=4)(q:st.2.1.length+m<=1000)(r:∀s∈L,okP Es s.cond/\okP Es s.grant)(v:st.2.2.length+Dl Es L<=4000)
  (x:Below B w0 w)(h:Cm B a b st.1 st.2.1 st.2.2 lv c w)(R:Ag w g f 108)(y:∀(d:Nat) (u:Value),(Ut Es 0 L)[d]? =X u->f[d]? =X u)(g1:g≠a)(g2:g≠b)(g3:lv.ownBlock≠X g)(z:c.ownBlock≠X g):
  jE j4 54 #[jK (X ⟨a,0,T⟩),.slice (X ⟨g,0,T⟩) m l] w (Jo B a b lv c (AI Es st L) w):=
 Jp B a b st lv c w0 aT i j n o hB Es L m g l f w hm p q r v x h R (fun k=>k) (fun k A d C u D=>y _ _ (by rw[Ady Es L 0 k A d C,zU];exact D)) g1 g2 g3 z
end Go.Proofs.YteiieikcjcfkkaaGreatDoor
