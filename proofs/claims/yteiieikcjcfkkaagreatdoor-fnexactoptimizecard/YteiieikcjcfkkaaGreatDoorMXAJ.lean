import Derived.Lib.SmallJoins
import Derived.Laws.AppendOwnNone
import Derived.Test.YteiieikcjcfkkaaGreatDoorDVE
import Derived.Test.YteiieikcjcfkkaaGreatDoorMXAH
import Derived.RangeFuncNested
import Derived.RangeFuncBound
open Go.Proofs.Tryz
open Option renaming none->T,some->X
open Go.Value renaming int->U,slice->Y,string->Q,iface->jB,pointer->jK,tuple->jO
open Go.IntKind renaming i64->V,u64->jP
open Go renaming World->Z,Value->R,Addr->jD,Calls->jE,TypeId->jJ,maxLen->jM,bodyPost_ret->jN,info_parts->jZ,wpList_append_own->jk
open Bool renaming true->jA,false->jC
open Go.Obj renaming cells->jF
open Go.Ending renaming returned->jH
open Go.RowKit renaming intOf->jI,Below->jQ
open ByteArray renaming empty->jU
open Go.World renaming size_alloc->jW,ownsRow_nil->jX
open Go.Value.slice renaming injEq->jh
open Go.Proofs.Tryz renaming prog->j4
namespace Go.Proofs.YteiieikcjcfkkaaGreatDoor
set_option linter.unusedVariables false
set_option maxHeartbeats 1600000
variable {d:Act}{p:jD}{ops:Array Oper}{cs:Array R}{l:Exit->Act->Z->Prop}{q:Int×Int}{ss:List ByteArray}{B c lo hi:Nat}{S:Nat->Prop}{o:Oper}{x:Option jD}{g:Prop}{t:jJ}{v:R}
section
open Go.RowKit
def Ao:Ex->Bool
 |.un _ op k=>!decide (op=8)&&Ao k
 |.bin _ op l r=>!decide (11<=op/\op<=16)&&(Ao l&&Ao r)
 |.ite _ c t e=>Ao c&&(Ao t&&Ao e)
 |_=>jA
theorem Cg.inv {N:List Nd}{i:Nat}{f:Ex}(u:Cg N i f){x:Nd}(hx:N[i]? =X x):
  (x.op=1/\f= .int i x.num)\/(x.op=2/\f= .text i x.text)\/(x.op=3/\f= .bool i (decide (x.num=1)))\/(x.op=4/\∃a n c,f= .set i a n c x.names)\/(x.op=5/\f= .name i x.text)\/(x.op=6/\f= .attr i x.num)\/(x.op=7/\f= .lett i x.num)\/
  ((8<=x.op/\x.op<=10)/\∃ (k:Nat) (e:Ex),x.kids=[(k:Int)]/\Cg N k e/\f= .un i x.op e)\/
  ((11<=x.op/\x.op<=26)/\∃ (k l:Nat) (e g:Ex),x.kids=[(k:Int),(l:Int)]/\Cg N k e/\Cg N l g/\f= .bin i x.op e g)\/
  (x.op=27/\∃ (k l m:Nat) (e g h:Ex),x.kids=[(k:Int),(l:Int),(m:Int)]/\Cg N k e/\Cg N l g/\Cg N m h/\f= .ite i e g h):=by
 have j:∀{y:Nd},N[i]? =X y->y=x:=fun k=>Option.some.inj (k.symm.trans hx);cases u with
 |int h b d=>obtain rfl:=j h;exact .inl ⟨b,rfl⟩
 |text h b d=>obtain rfl:=j h;exact .inr (.inl ⟨b,rfl⟩)
 |bool h b d=>obtain rfl:=j h;exact .inr (.inr (.inl ⟨b,rfl⟩))
 |set h b d a n c=>obtain rfl:=j h;exact .inr (.inr (.inr (.inl ⟨b,a,n,c,rfl⟩)))
 |name h b d=>obtain rfl:=j h;exact .inr (.inr (.inr (.inr (.inl ⟨b,rfl⟩))))
 |attr h b d=>obtain rfl:=j h;exact .inr (.inr (.inr (.inr (.inr (.inl ⟨b,rfl⟩)))))
 |lett h b d=>obtain rfl:=j h;exact .inr (.inr (.inr (.inr (.inr (.inr (.inl ⟨b,rfl⟩))))))
 |un h b d hi t=>obtain rfl:=j h;exact .inr (.inr (.inr (.inr (.inr (.inr (.inr (.inl ⟨b,_,_,d,t,rfl⟩)))))))
 |bin h b d hi t u=>obtain rfl:=j h;exact .inr (.inr (.inr (.inr (.inr (.inr (.inr (.inr (.inl ⟨b,_,_,_,_,d,t,u,rfl⟩))))))))
 |ite h b d hi t u v=>obtain rfl:=j h;exact .inr (.inr (.inr (.inr (.inr (.inr (.inr (.inr (.inr ⟨b,_,_,_,_,_,_,d,t,u,v,rfl⟩))))))))
set_option maxRecDepth 100000
set_option maxHeartbeats 2000000
theorem Yu (a:Option jD)(n c:Nat)(ss:List ByteArray)(w:Z)(h:Ap w a n c ss)(r:ss.length<=1048576):
  jE j4 190 #[Y a n c] w fun e w'=>(∃x f,e=jH (Y x ss.length f)/\w'.ownsRow w.heap.size 9 1 (Y x ss.length f) ss.length (ss.map Q))/\Ah w w':=by
 obtain⟨s,t,v,y,z⟩:=jZ Jc;have g:=h.len;cases a with
 |none=>
  have h0:n=0:=by
   rcases Nat.eq_zero_or_pos n with q|q
   ·exact q
   ·obtain⟨b,A,e,_⟩:=h.cells 0 q;cases e
  subst h0;obtain rfl:ss=[]:=z9 g.symm;clear h r g;have B:∀(w:Z) (a:Option jD) (n c n' c':Nat),(binOp .eql 46 (Y a n c) (Y T n' c')).run j4 w= .ok (.bool a.isNone) w:=fun w a n c n' c'=>Lib.run_eql_slice_nil w _ _ a n c n' c' underlying46;go_enter func190,ntmps190
  go_wp2_with fail
  go_ret
  exact⟨⟨T,0,rfl,jX _ _ _ _⟩,BRN⟩
 |some C=>
  have B:∀(w:Z) (a:Option jD) (n c n' c':Nat),(binOp .eql 46 (Y a n c) (Y T n' c')).run j4 w= .ok (.bool a.isNone) w:=fun w a n c n' c'=>Lib.run_eql_slice_nil w _ _ a n c n' c' underlying46;have K:∀w,Sem.run j4 (underlying 46) w= .ok (TypeDesc.slice 9) w:=run_underlying underlying46;have D:=Ab h;have d:=Ab g;have L:n<=1048576:=by omega
  clear h g;go_enter func190,ntmps190
  go_wp2_with (at_builtin;refine jk _ rfl _ _ 46 rfl w.heap.size 9 s (Q jU) 1 16 underlying46 t v y z rfl (by decide) _ _ _ rfl (World.ownsRow_made w #[] 0 NLN (zD _) rfl) C n c (ss.map Q) rfl ?qc1 ?qc2 ?qc3 ?qc4 ?qc5 ?qc6 ?_)
  case qc1=>rw[ze,Aa d];omega
  case qc2=>
   intro j u l;have i:j<n:=by
    have:=(zd.1 l).1;rw[ze]at this;rw[Aa d];exact this
   obtain⟨b,A,e,M,hc⟩:=(Aa D).cells j i;cases e;rw[Addr.add_lit];refine Lib.cell?_alloc_some _ ?_;rw[hc,<-l,zZ,zG (by rw[<-Aa d];exact i),Bv _ _ (by rw[<-Aa d];exact i)];rfl
  case qc3=>intro u E;obtain⟨x,_,rfl⟩:=zg.1 E;rfl
  case qc4=>unfold jM;omega
  case qc5=>omega
  case qc6=>simp
  intro F G m o H;have I:=((Below.refl _ w).alloc NLN (jF #[] 9)).grown o (by simp) (by intro k J;simp[Value.ownBlock]at J;omega);have p:G.ownsRow w.heap.size 9 1 F n (ss.map Q):=by simpa using m
  obtain⟨x,f,rfl,_⟩:=Ae p;clear m H o;go_wp2_with fail
  go_ret
  have e:=Aa d;subst e;exact⟨⟨x,f,rfl,p⟩,I⟩
theorem LC {w:Z}{a base':Nat}{e:jJ}{size:Nat}{n:Nat}{b:List R}(h:w.ownsRow a e size v n b)(c:base'<=a):w.ownsRow base' e size v n b:=by
 refine⟨h.1,?_⟩;rcases h.2 with h2|⟨g,cap,d,hv,h3,h4⟩
 ·exact .inl h2
 ·exact .inr ⟨g,cap,d,hv,zB c h3,h4⟩
theorem As.wide {l h:Nat}{w w':Z}(t:As l h w w')(b:(l=0/\h=0)\/(lo<=l/\h<=hi)):As lo hi w w':=
 ⟨t.os,t.tape,t.output,t.size,fun k a c=>t.block k a (by omega)⟩
theorem Agv {w:Z}{lo hi m c:Nat}{a:Option jD}(h:w.ownsRow lo 9 1 (Y a m c) m (ss.map Q))(hs:∀s∈ss,s.size<=jM)(o:ss.length=m)(f:∀q,(Y a m c).ownBlock=X q->q<hi)(p:hi<=w.heap.size):
  ∃l u,Zy w l u a m c ss/\((l=0/\u=0)\/(lo<=l/\u<=hi/\l<u))/\(∀q,(Y a m c).ownBlock≠X q->q<l\/u<=q):=by
 have b:∀j,j<m->(Aw ss j).size<=jM:=fun j r=>by
  rw[Bv _ j (by omega)];exact hs _ (zH _)
 rcases h.2 with⟨hv,h0⟩|⟨g,cap,i,hv,k,hg,h4⟩
 ·simp only[jh]at hv;obtain⟨rfl,rfl,rfl⟩:=hv;exact⟨0,0,⟨⟨h.1,.inl ⟨rfl,h0⟩⟩,(fun x hx=>by cases hx),b,zD _⟩,.inl ⟨rfl,rfl⟩,fun q _=> .inr (zD _)⟩
 ·have d:=hv;simp only[jh]at d;obtain⟨rfl,-,rfl⟩:=d;have n:g<hi:=f g rfl;refine⟨g,g+1,⟨⟨h.1,.inr ⟨g,_,i,rfl,NLN,hg,h4⟩⟩,(fun x hx=>by cases hx;exact yB _),b,by omega⟩,.inr ⟨k,n,yB _⟩,fun q hq=>?_⟩;have:g≠q:=fun e=>hq (by rw[<-e];rfl);omega
theorem Ap.newsG {w:Z}{a:jD}{n:Nat}(hq:Ap w (X a) n c ss):∀j u,(ss.map Q)[j]? =X u->w.cell? (a.add j)=X u:=fun j u b=>by
 have f:j<ss.length:=by
  have:=(zd.1 b).1;simpa using this
 obtain⟨b1,g,d,_,_⟩:=hq.cells j (by have:=hq.len;omega);cases d;exact Ap.news hq j u b
theorem FV {rest:List Oper}{w:Z}(m:o.guard=T)(s x:Operand)(p:o.op= .call { callee:= .builtin .append,args:=#[s,x],argTypes:=#[46,46] })(b:Nat)(v:R)(k:Nat)(f:List R)(hs:d.eval s=v)(g:w.ownsRow b 9 1 v k f)(a:Option jD)(n c:Nat)(ss:List ByteArray)(hx:d.eval x=Y a n c)(h:Ap w a n c ss)(hc:a=T->c=0)(G:k+n<=1048576)(r:b<=w.heap.size)
  (t:∀j w',w'.ownsRow b 9 1 j (k+n) (f++ss.map Q)->jQ b w w'->wpList j4 ops l rest (d.put o.dst j) w'):wpList j4 ops l (o ::rest) d w:=by
 obtain⟨i,hi,y,z,A⟩:=jZ Jc;cases a with
 |none=>
  have h0:n=0:=by
   rcases Nat.eq_zero_or_pos n with q|q
   ·exact q
   ·obtain⟨H,I,B,_⟩:=h.cells 0 q;cases B
  obtain rfl:=hc rfl;subst h0;obtain rfl:ss=[]:=z9 h.len.symm;exact wpList_append_own_none m s x 46 p b 9 i 1 underlying46 hi v k f hs g hx (t v w (by simpa using g) BRN)
 |some C=>
  refine jk w m s x 46 p b 9 i (Q jU) 1 16 underlying46 hi y z A rfl (by decide) v k f hs g C n c (ss.map Q) hx ?_ (Ap.newsG h) ?_ ?_ ?_ r ?_
  ·rw[ze,h.len];omega
  ·intro u D;obtain⟨s,_,rfl⟩:=zg.1 D;rfl
  ·unfold jM;omega
  ·omega
  ·intro j w' E F _;exact t j w' E (BRN.grown F r (fun q hq=>(g.lt q hq).1))
set_option maxHeartbeats 1600000
theorem VH (a:Option jD)(n c:Nat)(ss:List ByteArray)(m:Option jD)(n' c':Nat)(tt:List ByteArray)(w:Z)(h:Ap w a n c ss)(f:Ap w m n' c' tt)(G:a=T->c=0)(H:m=T->c'=0):
  jE j4 152 #[Y a n c,Y m n' c'] w fun e w'=>S8 w ss tt e w':=by
 cases b:AC ss
 ·have t:=Ab (AT.of_bad (ss:=ss) (tt:=tt) (by rw[b];rfl));go_enter func152,ntmps152
  go_wp2_with fail
  refine(AA _ _ _ _ _ h).mono ?_;rintro e g ⟨rfl,rfl⟩;rw[b];go_wp2
  go_ret2
  exact S8.nil (Aa t) BRN
 ·cases d:AC tt
  ·have t:=Ab (AT.of_bad (ss:=ss) (tt:=tt) (by rw[b,d];rfl));go_enter func152,ntmps152
   go_wp2_with fail
   refine(AA _ _ _ _ _ h).mono ?_;rintro e g ⟨rfl,rfl⟩;rw[b];go_wp2_with fail
   refine(AA _ _ _ _ _ f).mono ?_;rintro e g ⟨rfl,rfl⟩;rw[d];go_wp2
   go_ret2
   exact S8.nil (Aa t) BRN
  ·have I:=(LF b).1;have J:=(LF d).1;have o:=Ab h.len;have p:=Ab f.len;have u:=Ab (show(AC ss&&AC tt)=jA by rw[b,d];rfl);obtain⟨i,hi,L,M,N⟩:=jZ Jc;go_enter func152,ntmps152
   go_wp2_with fail
   refine(AA _ _ _ _ _ h).mono ?_;rintro e g ⟨rfl,k⟩;rw[b,k];clear k;go_wp2_with fail
   refine(AA _ _ _ _ _ f).mono ?_;rintro e g ⟨rfl,k⟩;rw[d,k];clear k;have ad:n<=64:=by have:=Aa o;omega
   have ae:n'<=64:=by have:=Aa p;omega
   go_wp2_with (at_builtin;refine FV rfl _ _ rfl w.heap.size _ 0 [] rfl (jX _ _ _ _) a n c ss rfl h G (by omega) NLN ?_)
   intro af g q r;obtain⟨ag,ah,v⟩:=Bo q;rw[v]at q|-;clear v;go_wp2_with (at_builtin;refine FV rfl _ _ rfl w.heap.size _ n _ rfl q m n' c' tt rfl (f.below r NLN) H (by omega) r.size ?_)
   intro ai O l y;have s:=r.trans y;obtain⟨x2,P,z⟩:=Bo l;rw[z]at l|-;clear z q r y;rw[<-zR]at l;have A:Ap O x2 (n+n') P (ss++tt):=Ap.of_owns l (by
    intro j aj;exact Ta (by rw[<-Aa o];exact h.sizes) (by rw[<-Aa p];exact f.sizes) j (by have:=Aa o;have:=Aa p;simp;omega))
   clear l;go_wp2_with fail
   refine(Uq _ _ _ _ _ A (by have:=Aa o;have:=Aa p;omega)).mono ?_;rintro e ak ⟨x,S,K,rfl,B,C,D⟩;have E:=Ab D;clear D;have F:=s.trans (C.mono s.size);have W:=JS B s.size;clear B C s A b d I J hi L M N;by_cases aa: 64<K.length
   ·have ab:(64 :Int)<(K.length:Int):=by omega
    go_wp2
    go_ret2
    exact S8.nil (AT.of_wide (Aa u) (Aa E) aa) F
   ·have ab:(K.length:Int)<=64:=by omega
    go_wp2
    go_ret2
    have ac:=AT.of_good (Aa u) (Aa E) (by omega);exact⟨x,S,K,0,rfl,W,F,ac⟩
set_option maxHeartbeats 800000
theorem NF (a:Option jD)(n c:Nat)(ss:List ByteArray)(s:ByteArray)(w:Z)(h:Ap w a n c ss):
  jE j4 156 #[Y a n c,Q s] w fun e w'=>e=jH (.bool (Kb ss s))/\w'=w:=by
 have p:n<=9223372036854775807:=by have:=h.cap;have:=h.small;unfold jM at this;omega
 go_enter func156,ntmps156
 go_wp2
 go_loop [6,9] (fun _ i=>∃k:Nat,k<=n/\i=U V k/\∀j,j<k->eqS (Aw ss j) s=jC) (fun _ i=>n-(jI i).toNat)
 case atStart=>exact⟨0,zD _,rfl,fun j d=>by omega⟩
 case round=>
  obtain⟨k,q,rfl,f⟩:=hrel;have g:=Ab f;clear f;by_cases l:k<n
  ·obtain⟨b,r,m,_,hc⟩:=h.cells k l;subst m;cases hv:((Aw ss k).toList==s.toList)
   ·go_wp2
    go_round
    case rel=>
     refine⟨k+1,by omega,by go_num,fun j d=>?_⟩
     by_cases e:j=k
     ·subst e;exact hv
     ·exact Aa g j (by omega)
    case measure=>simp[jI];omega
   ·have o:=Ab (AaA ss s k (by have:=h.len;omega) hv);go_wp2
    go_ret
    exact⟨Ad (Aa o).symm,rfl⟩
  ·go_wp2
   go_ret
   exact⟨Ad (M9 ss s fun j d=>Aa g j (by have:=h.len;omega)).symm,rfl⟩
set_option maxHeartbeats 1600000
theorem KW (a:Option jD)(n c:Nat)(ss:List ByteArray)(l:Option jD)(n' c':Nat)(tt:List ByteArray)(q:Bool)(w:Z)(h:Ap w a n c ss)(B:Ap w l n' c' tt)(L:n<=1048576):
  jE j4 180 #[Y a n c,Y l n' c',.bool q] w fun e w'=>∃x g,e=jH (Y x (Dd ss tt q).length g)/\w'.ownsRow w.heap.size 9 1 (Y x (Dd ss tt q).length g) (Dd ss tt q).length ((Dd ss tt q).map Q)/\Ah w w':=by
 obtain⟨i,hi,C,D,E⟩:=jZ Jc;have m:=Ab h.len;go_enter func180,ntmps180
 go_wp2
 go_loopw [7,9,12] (fun v _ i wr=>∃k:Nat,k<=n/\i=U V k/\wr.ownsRow w.heap.size 9 1 v (Dd (ss.take k) tt q).length ((Dd (ss.take k) tt q).map Q)/\Ah w wr) (fun _ _ i _=>n-(jI i).toNat)
 case atStart=>exact⟨0,zD _,rfl,jX _ _ _ _,BRN⟩
 case round=>
  obtain⟨k,o,rfl,d,f⟩:=hrel;by_cases F:k<n
  ·obtain⟨b,M,G,N,hc⟩:=(h.below f NLN).cells k F;have p:=B.below f NLN;subst G;have r:k<ss.length:=by have:=Aa m;omega
   have O:(Dd (ss.take k) tt q).length<=k:=zB (H7 _ _ _) (List.length_take_le _ _);generalize s:Dd (ss.take k) tt q=P at*;have t:=Ab s;clear s;cases hv:(Kb tt (Aw ss k)==q)
   ·have j:=Ab (Uz ss tt q k r hv);go_wp2_with (go_at_call 156;refine(NF _ _ _ _ _ _ p).mono ?_;rintro e w' ⟨rfl,rfl⟩)
    go_roundw
    case rel=>exact⟨k+1,by omega,by go_num,by rw[Aa j,Aa t];exact d,f⟩
    case measure=>simp[jI];omega
   ·have j:=Ab (Qf ss tt q k r hv);have H:=f.size;go_wp2_with (first
     |(go_at_call 156;refine(NF _ _ _ _ _ _ p).mono ?_;rintro e S ⟨rfl,y⟩;rw[y];clear y)
     |(at_builtin;refine jk _ rfl _ _ 46 rfl w.heap.size 9 i (Q jU) 1 16 underlying46 hi C D E rfl (by decide) _ _ _ rfl (d.alloc _) ⟨wr.heap.size,0,T⟩ 1 1 [Q (Aw ss k)] rfl rfl ?c1 ?c2 ?c3 ?c4 ?c5 ?_))
    case c1=>exact cell_one_new _ _ _
    case c2=>intro u z;simp at z;subst z;rfl
    case c3=>unfold jM;omega
    case c4=>omega
    case c5=>simp;omega
    intro W I J A _;have K:Ah w I:=(f.alloc H _).grown A (by simp;omega) (fun k o=>(d.lt k o).1);clear A d;go_wp2
    go_roundw
    case rel=>exact⟨k+1,by omega,by go_num,by rw[Aa j,Aa t,zR,zC];exact J,K⟩
    case measure=>simp[jI];omega
  ·have e:k=n:=by omega
   subst e;go_wp2
   go_ret
   have e1:ss.take k=ss:=zY (by have:=Aa m;omega);rw[e1]at d;obtain⟨x,g,hf⟩:=Bo d;subst hf;exact⟨x,g,rfl,d,f⟩
set_option maxHeartbeats 800000
theorem XI (a:Option jD)(n c:Nat)(ss:List ByteArray)(g:Option jD)(n' c':Nat)(tt:List ByteArray)(w:Z)(h:Ap w a n c ss)(d:Ap w g n' c' tt):
  jE j4 157 #[Y a n c,Y g n' c'] w fun e w'=>e=jH (.bool (DO ss tt))/\Ah w w':=by
 cases f:AC ss
 ·go_enter func157,ntmps157
  go_wp2_with fail
  refine(AA _ _ _ _ _ h).mono ?_;rintro e b ⟨rfl,rfl⟩;go_wp2_with fail
  go_ret
  exact⟨Ad (by simp[DO,f]),BRN⟩
 ·cases i:AC tt
  ·go_enter func157,ntmps157
   go_wp2_with fail
   refine(AA _ _ _ _ _ h).mono ?_;rintro e b ⟨rfl,rfl⟩;go_wp2_with fail
   refine(AA _ _ _ _ _ d).mono ?_;rintro e b ⟨rfl,rfl⟩;go_wp2_with fail
   go_ret
   exact⟨Ad (by simp[DO,i]),BRN⟩
  ·have l:=(NV f).1;go_enter func157,ntmps157
   go_wp2_with fail
   refine(AA _ _ _ _ _ h).mono ?_;rintro e b ⟨rfl,rfl⟩;go_wp2_with fail
   refine(AA _ _ _ _ _ d).mono ?_;rintro e b ⟨rfl,rfl⟩;go_wp2_with fail
   refine(KW _ _ _ _ _ _ _ _ _ _ h d (by have:=h.len;omega)).mono ?_;rintro e b ⟨x,m,rfl,j,k⟩;clear j;go_wp2_with fail
   go_ret
   refine⟨Ad ?_,k⟩;simp only[DO,f,i,Z0];rw[zO];simp
set_option maxHeartbeats 1600000
def ZS (w:Z) (a:Option jD) (c:Nat):Prop:=(a=T->c=0)/\∀ad,a=X ad->∃cs,Ag w ad.block cs 9
theorem ZS.below {w w':Z}{a:Option jD}(h:ZS w a c)(b:jQ B w w')(hB:w.heap.size<=B):ZS w' a c:=⟨h.1,fun d e=>by
 obtain⟨cs,f⟩:=h.2 d e;exact⟨cs,f.after b hB⟩⟩
theorem ZS.setCell {w:Z}{a:Option jD}{c:Nat}(h:ZS w a c)(b j:Nat)(u:R):ZS (w.setCell ⟨b,j,T⟩ u) a c:=⟨h.1,fun f e=>by
 obtain⟨cs,d⟩:=h.2 f e;by_cases hp:f.block=b
 ·rw[hp]at d|-;exact⟨_,d.set j u⟩
 ·exact⟨cs,d.setFar hp u⟩⟩
theorem ZS.of_owns {w:Z}{n a:Nat}{b:List R}(h:w.ownsRow B 9 1 (Y x n a) n b):ZS w x a:=by
 rcases h.2 with⟨q,_⟩|⟨g,cap,c,q,_,hg,_⟩
 ·simp only[jh]at q;obtain⟨rfl,_,rfl⟩:=q;exact⟨fun _=>rfl,fun d e=>nomatch e⟩
 ·simp only[jh]at q;obtain⟨rfl,_,rfl⟩:=q;exact⟨fun e=>(nomatch e),fun d e=>⟨c,by cases e;exact⟨hg⟩⟩⟩
def MVs (w:Z) (num:Int) (text:ByteArray) (a:Option jD) (n c:Nat):Vv->Prop
 |.bool b=>num=(if b then 1 else 0)/\text=⟨#[]⟩/\a=T/\n=0/\c=0
 |.int k=>(num=k/\Di k)/\text=⟨#[]⟩/\a=T/\n=0/\c=0
 |.text s=>num=0/\text=s/\a=T/\n=0/\c=0
 |.set ss=>num=0/\text=⟨#[]⟩/\Ap w a n c ss/\ss.length<=1048576/\ZS w a c
theorem MVs.below {w w':Z}{B:Nat}{num:Int}{text:ByteArray}{a:Option jD}{n c:Nat}{v:Vv}(h:MVs w num text a n c v)(d:jQ B w w')(hB:w.heap.size<=B):MVs w' num text a n c v:=by
 cases v with
 |bool b=>exact h
 |int k=>exact h
 |text s=>exact h
 |set ss=>
  obtain⟨h1,h2,h3,h4,h5⟩:=h;exact⟨h1,h2,h3.below d hB,h4,h5.below d hB⟩
def Vv.names:Vv->List ByteArray
 |.set ss=>ss
 |_=> []
def VI (o:Ev) (w:Z) (r:Ending) (w':Z):Prop:=
 (∃code num text a n c,r=jH (.agg #[U V code,U V num,Q text,Y a n c])/\(match o with
  |.ok v=>code=0/\MVs w' num text a n c v
  |.err e=>code=e/\e≠0))/\Ah w w'
theorem VJ (b:Bool)(w:Z):jE j4 155 #[.bool b] w (VI (.ok (.bool b)) w):=by
 have a:∀cs,Ah w (w.alloc (jF cs 139)):=fun cs=>Av w _;cases b with
 |true=>
  go_enter func155,ntmps155
  go_wp2_with fail
  refine jN (v:= .agg #[U V 0,U V 1,Q ⟨#[]⟩,Y T 0 0]) (by simp[results,results155,go_sem]) rfl ?_
  exact⟨⟨_,_,_,_,_,_,rfl,rfl,rfl,rfl,rfl,rfl,rfl⟩,a _⟩
 |false=>
  go_enter func155,ntmps155
  go_wp2_with fail
  refine jN (v:= .agg #[U V 0,U V 0,Q ⟨#[]⟩,Y T 0 0]) (by simp[results,results155,go_sem]) rfl ?_
  exact⟨⟨_,_,_,_,_,_,rfl,rfl,rfl,rfl,rfl,rfl,rfl⟩,a _⟩
end
section
open Go.RowKit
theorem Uk (a:Int):Co (decide (a<0)) 0 (a.natAbs:Int)=a:=by
 by_cases h:a<0
 ·simp[Co,h];omega
 ·simp[Co,h];omega
theorem Af2 (n:Bool)(x:Int):Co (!n) 0 x= -Co n 0 x:=by cases n<;>simp[Co]
theorem GU {p q:Int×Int}(h:p=q):jH (jO #[U V p.1,U V p.2])=jH (jO #[U V q.1,U V q.2]):=by rw[h]
theorem KG {x c:Int}(h:q=(x,c)):jH (jO #[U V x,U V c])=jH (jO #[U V q.1,U V q.2]):=by rw[h]
theorem Ac9 (a b hi lo:Int)(h:hi*18446744073709551616+lo=(a.natAbs:Int)*(b.natAbs:Int)):Co (!(decide (a<0)==decide (b<0))) hi lo=a*b:=by
 by_cases h1:a<0<;>by_cases h2:b<0
 ·have e1:(a.natAbs:Int)= -a:=by omega
  have e2:(b.natAbs:Int)= -b:=by omega
  rw[e1,e2,Int.neg_mul_neg]at h;simp[Co,h1,h2,h]
 ·have e1:(a.natAbs:Int)= -a:=by omega
  have e2:(b.natAbs:Int)=b:=by omega
  rw[e1,e2,Int.neg_mul]at h;simp[Co,h1,h2,h]
 ·have e1:(a.natAbs:Int)=a:=by omega
  have e2:(b.natAbs:Int)= -b:=by omega
  rw[e1,e2,Int.mul_neg]at h;simp[Co,h1,h2,h]
 ·have e1:(a.natAbs:Int)=a:=by omega
  have e2:(b.natAbs:Int)=b:=by omega
  rw[e1,e2]at h;simp[Co,h1,h2,h]
theorem Ada (a b:Int):Co (!(decide (a<0)==decide (b<0))) 0 ((a.natAbs:Int) / (b.natAbs:Int))=a.tdiv b:=by
 by_cases h1:a<0<;>by_cases h2:b<0
 ·have e1:(a.natAbs:Int)= -a:=by omega
  have e2:(b.natAbs:Int)= -b:=by omega
  have:a.tdiv b=(-a).tdiv (-b):=by rw[Int.neg_tdiv,Int.tdiv_neg,Int.neg_neg]
  rw[this,Int.tdiv_eq_ediv_of_nonneg (by omega)];simp[Co,h1,h2,e1,e2]
 ·have e1:(a.natAbs:Int)= -a:=by omega
  have e2:(b.natAbs:Int)=b:=by omega
  have:a.tdiv b= -((-a).tdiv b):=by rw[Int.neg_tdiv,Int.neg_neg]
  rw[this,Int.tdiv_eq_ediv_of_nonneg (by omega)];simp[Co,h1,h2,e1,e2]
 ·have e1:(a.natAbs:Int)=a:=by omega
  have e2:(b.natAbs:Int)= -b:=by omega
  have:a.tdiv b= -(a.tdiv (-b)):=by rw[Int.tdiv_neg,Int.neg_neg]
  rw[this,Int.tdiv_eq_ediv_of_nonneg (by omega)];simp[Co,h1,h2,e1,e2]
 ·have e1:(a.natAbs:Int)=a:=by omega
  have e2:(b.natAbs:Int)=b:=by omega
  rw[Int.tdiv_eq_ediv_of_nonneg (by omega)];simp[Co,h1,h2,e1,e2]
theorem Adb (a b:Int):Co (decide (a<0)) 0 ((a.natAbs:Int) % (b.natAbs:Int))=a.tmod b:=by
 have c:∀x:Int,x.tmod b=x.tmod (b.natAbs:Int):=fun x=>by
  by_cases h2:b<0
  ·have e2:(b.natAbs:Int)= -b:=by omega
   rw[e2,Int.tmod_neg]
  ·have e2:(b.natAbs:Int)=b:=by omega
   rw[e2]
 rw[c];by_cases h1:a<0
 ·have e1:(a.natAbs:Int)= -a:=by omega
  have:a.tmod (b.natAbs:Int)= -((-a).tmod (b.natAbs:Int)):=by rw[Int.neg_tmod,Int.neg_neg]
  rw[this,Int.tmod_eq_emod_of_nonneg (by omega)];simp[Co,h1,e1]
 ·have e1:(a.natAbs:Int)=a:=by omega
  rw[Int.tmod_eq_emod_of_nonneg (by omega)];simp[Co,h1,e1]
variable {a b : Int} {w : Z}
theorem Af3 (h:Di a)(i:Di b):
  jE j4 151 #[U V 1,U V a,U V b] w fun e w'=>e=jH (jO #[U V (AZ 1 a b).1,U V (AZ 1 a b).2])/\Ah w w':=by
 have hx:(a.natAbs:Int)<=9223372036854775808:=by have:=h.lo;have:=h.hi;omega
 have hy:(b.natAbs:Int)<=9223372036854775808:=by have:=i.lo;have:=i.hi;omega
 go_enter func151,ntmps151
 go_wp2_with fail
 refine(AV a w h).mono ?_;rintro e r ⟨rfl,j⟩;have d:=j.alloc j.size (jF #[.bool (decide (a<0)),U jP 0,U jP (a.natAbs:Int)] 265);have l:=Ag.new r #[.bool (decide (a<0)),U jP 0,U jP (a.natAbs:Int)] 265;go_wp2_with fail
 refine(AV b _ i).mono ?_;rintro e B ⟨rfl,c⟩;have k:=(d.trans (c.mono d.size)).alloc (zB d.size c.size) (jF #[.bool (decide (b<0)),U jP 0,U jP (b.natAbs:Int)] 265);have g:=(l.after c NLN).alloc (jF #[.bool (decide (b<0)),U jP 0,U jP (b.natAbs:Int)] 265);have m:=c.size;simp only[jW]at m;clear l d j c m;have n:=g.cell 0;have c1:=g.cell 1;have c2:=g.cell 2;simp at n c1 c2;go_wp2_with fail
 refine(SN _ _ _ _ _ (by omega) hx (by omega) hy).mono ?_;rintro e C ⟨v,rfl,hv,o⟩;obtain⟨q,hi,lo,rfl,s,t,u,x,hq⟩:=hv;have p:=k.trans (o.mono k.size);rw[Uk,Uk]at hq;have y:=Ab hq;clear hq n c1 c2 g k o;go_wp2_with fail
 refine(Fd q hi lo _ s t u x).mono ?_;rintro e D ⟨rfl,z⟩;rw[Aa y];generalize hf:fit (a+b)=f;have A:=Ab hf;clear hf;go_wp2
 go_ret2
 exact⟨GU (by rw[<-Aa A];rfl),p.trans (z.mono p.size)⟩
theorem Af4 (h:Di a)(i:Di b):
  jE j4 151 #[U V 2,U V a,U V b] w fun e w'=>e=jH (jO #[U V (AZ 2 a b).1,U V (AZ 2 a b).2])/\Ah w w':=by
 have hx:(a.natAbs:Int)<=9223372036854775808:=by have:=h.lo;have:=h.hi;omega
 have hy:(b.natAbs:Int)<=9223372036854775808:=by have:=i.lo;have:=i.hi;omega
 go_enter func151,ntmps151
 go_wp2_with fail
 refine(AV a w h).mono ?_;rintro e r ⟨rfl,j⟩;have d:=j.alloc j.size (jF #[.bool (decide (a<0)),U jP 0,U jP (a.natAbs:Int)] 265);have l:=Ag.new r #[.bool (decide (a<0)),U jP 0,U jP (a.natAbs:Int)] 265;go_wp2_with fail
 refine(AV b _ i).mono ?_;rintro e B ⟨rfl,c⟩;have k:=(d.trans (c.mono d.size)).alloc (zB d.size c.size) (jF #[.bool (!decide (b<0)),U jP 0,U jP (b.natAbs:Int)] 265);have g:=(l.after c NLN).alloc (jF #[.bool (!decide (b<0)),U jP 0,U jP (b.natAbs:Int)] 265);have m:=c.size;simp only[jW]at m;clear l d j c m;have n:=g.cell 0;have c1:=g.cell 1;have c2:=g.cell 2;simp at n c1 c2;go_wp2_with fail
 refine(SN _ _ _ _ _ (by omega) hx (by omega) hy).mono ?_;rintro e C ⟨v,rfl,hv,o⟩;obtain⟨q,hi,lo,rfl,s,t,u,x,hq⟩:=hv;have p:=k.trans (o.mono k.size);rw[Af2,Uk,Uk]at hq;have y:=Ab hq;clear hq n c1 c2 g k o;go_wp2_with fail
 refine(Fd q hi lo _ s t u x).mono ?_;rintro e D ⟨rfl,z⟩;rw[Aa y];generalize hf:fit (a+ -b)=f;have A:=Ab hf;clear hf;go_wp2
 go_ret2
 exact⟨GU (by rw[<-Aa A,<-Int.sub_eq_add_neg];rfl),p.trans (z.mono p.size)⟩
theorem Af5 (g:Di a)(h:Di b):
  jE j4 151 #[U V 3,U V a,U V b] w fun e w'=>e=jH (jO #[U V (AZ 3 a b).1,U V (AZ 3 a b).2])/\Ah w w':=by
 have hx:(a.natAbs:Int)<=9223372036854775808:=by have:=g.lo;have:=g.hi;omega
 have hy:(b.natAbs:Int)<=9223372036854775808:=by have:=h.lo;have:=h.hi;omega
 go_enter func151,ntmps151
 go_wp2_with fail
 refine(AV a w g).mono ?_;rintro e n ⟨rfl,i⟩;have d:=i.alloc i.size (jF #[.bool (decide (a<0)),U jP 0,U jP (a.natAbs:Int)] 265);have k:=Ag.new n #[.bool (decide (a<0)),U jP 0,U jP (a.natAbs:Int)] 265;go_wp2_with fail
 refine(AV b _ h).mono ?_;rintro e x ⟨rfl,c⟩;have l:=(d.trans (c.mono d.size)).alloc (zB d.size c.size) (jF #[.bool (decide (b<0)),U jP 0,U jP (b.natAbs:Int)] 265);have j:=(k.after c NLN).alloc (jF #[.bool (decide (b<0)),U jP 0,U jP (b.natAbs:Int)] 265);have m:=c.size;simp only[jW]at m;clear k d i c m;have o:=j.cell 0;have c1:=j.cell 1;have c2:=j.cell 2;simp at o c1 c2;go_wp2_with fail
 refine(Vs _ _ _ ⟨by omega,hx⟩ ⟨by omega,hy⟩).mono ?_;rintro e y ⟨⟨hi,lo,rfl,p,q,r,s,hq⟩,rfl⟩;have t:=Ab (Ac9 a b hi lo hq);clear hq;go_wp2_with fail
 refine(Fd _ hi lo _ p q r s).mono ?_;rintro e z ⟨rfl,u⟩;rw[Aa t];generalize hf:fit (a*b)=f;have v:=Ab hf;clear hf;go_wp2
 go_ret2
 exact⟨GU (by rw[<-Aa v];rfl),l.trans (u.mono l.size)⟩
end
section
open Go.RowKit
variable {a b : Int} {w : Z}
theorem Af6 (j:Di a)(k:Di b)(op:Int)(h1:op≠1)(h2:op≠2)(h3:op≠3)(h4:op≠4)(h5:op≠5):
  jE j4 151 #[U V op,U V a,U V b] w fun e w'=>e=jH (jO #[U V (AZ op a b).1,U V (AZ op a b).2])/\Ah w w':=by
 have e1:(op==1)=jC:=zA.2 h1;have e2:(op==2)=jC:=zA.2 h2;have e3:(op==3)=jC:=zA.2 h3;have e4:(op==4)=jC:=zA.2 h4;have e5:(op==5)=jC:=zA.2 h5;have l:=Ab (show AZ op a b=(0,4) by rw[AZ,if_neg h1,if_neg h2,if_neg h3,if_neg h4,if_neg h5]);clear h1 h2 h3 h4 h5;go_enter func151,ntmps151
 go_wp2_with fail
 refine(AV a w j).mono ?_;rintro e m ⟨rfl,f⟩;have d:=f.alloc f.size (jF #[.bool (decide (a<0)),U jP 0,U jP (a.natAbs:Int)] 265);have h:=Ag.new m #[.bool (decide (a<0)),U jP 0,U jP (a.natAbs:Int)] 265;go_wp2_with fail
 refine(AV b _ k).mono ?_;rintro e p ⟨rfl,c⟩;have n:=(d.trans (c.mono d.size)).alloc (zB d.size c.size) (jF #[.bool (decide (b<0)),U jP 0,U jP (b.natAbs:Int)] 265);have g:=(h.after c NLN).alloc (jF #[.bool (decide (b<0)),U jP 0,U jP (b.natAbs:Int)] 265);have i:=c.size;simp only[jW]at i;clear h d f c i;have o:=g.cell 0;have c1:=g.cell 1;have c2:=g.cell 2;simp at o c1 c2;go_wp2
 go_ret2
 exact⟨KG (Aa l),n⟩
theorem Adc (k:Di a)(f:Di b)(h0:b=0):
  jE j4 151 #[U V 4,U V a,U V b] w fun e w'=>e=jH (jO #[U V (AZ 4 a b).1,U V (AZ 4 a b).2])/\Ah w w':=by
 have hy:(b.natAbs:Int)<=9223372036854775808:=by have:=f.lo;have:=f.hi;omega
 have l:=Ab (show AZ 4 a b=(0,2) by subst h0;rfl);have e0:(b==0)=jA:=zM.2 h0;clear h0;go_enter func151,ntmps151
 go_wp2_with fail
 refine(AV a w k).mono ?_;rintro e m ⟨rfl,g⟩;have d:=g.alloc g.size (jF #[.bool (decide (a<0)),U jP 0,U jP (a.natAbs:Int)] 265);have i:=Ag.new m #[.bool (decide (a<0)),U jP 0,U jP (a.natAbs:Int)] 265;go_wp2_with fail
 refine(AV b _ f).mono ?_;rintro e p ⟨rfl,c⟩;have n:=(d.trans (c.mono d.size)).alloc (zB d.size c.size) (jF #[.bool (decide (b<0)),U jP 0,U jP (b.natAbs:Int)] 265);have h:=(i.after c NLN).alloc (jF #[.bool (decide (b<0)),U jP 0,U jP (b.natAbs:Int)] 265);have j:=c.size;simp only[jW]at j;clear i d g c j;have o:=h.cell 0;have c1:=h.cell 1;have c2:=h.cell 2;simp at o c1 c2;go_wp2
 go_ret2
 exact⟨KG (Aa l),n⟩
theorem Add (k:Di a)(f:Di b)(h0:b=0):
  jE j4 151 #[U V 5,U V a,U V b] w fun e w'=>e=jH (jO #[U V (AZ 5 a b).1,U V (AZ 5 a b).2])/\Ah w w':=by
 have hy:(b.natAbs:Int)<=9223372036854775808:=by have:=f.lo;have:=f.hi;omega
 have l:=Ab (show AZ 5 a b=(0,2) by subst h0;rfl);have e0:(b==0)=jA:=zM.2 h0;clear h0;go_enter func151,ntmps151
 go_wp2_with fail
 refine(AV a w k).mono ?_;rintro e m ⟨rfl,g⟩;have d:=g.alloc g.size (jF #[.bool (decide (a<0)),U jP 0,U jP (a.natAbs:Int)] 265);have i:=Ag.new m #[.bool (decide (a<0)),U jP 0,U jP (a.natAbs:Int)] 265;go_wp2_with fail
 refine(AV b _ f).mono ?_;rintro e p ⟨rfl,c⟩;have n:=(d.trans (c.mono d.size)).alloc (zB d.size c.size) (jF #[.bool (decide (b<0)),U jP 0,U jP (b.natAbs:Int)] 265);have h:=(i.after c NLN).alloc (jF #[.bool (decide (b<0)),U jP 0,U jP (b.natAbs:Int)] 265);have j:=c.size;simp only[jW]at j;clear i d g c j;have o:=h.cell 0;have c1:=h.cell 1;have c2:=h.cell 2;simp at o c1 c2;go_wp2
 go_ret2
 exact⟨KG (Aa l),n⟩
end
section
open Go.RowKit
theorem AbQ (a:Option jD)(n c:Nat)(ss:List ByteArray)(j:Option jD)(n' c':Nat)(tt:List ByteArray)(w:Z)(h:Ap w a n c ss)(i:Ap w j n' c' tt):
  jE j4 153 #[Y a n c,Y j n' c'] w fun e w'=>LW w ss tt e w':=by
 cases b:AC ss
 ·have d:=Ab (show BR ss tt=[] by simp[BR,b]);go_enter func153,ntmps153
  go_wp2_with fail
  refine(AA _ _ _ _ _ h).mono ?_;rintro e f ⟨rfl,rfl⟩;rw[b];go_wp2_with fail
  go_ret
  exact Gt (Aa d) BRN
 ·cases g:AC tt
  ·have d:=Ab (show BR ss tt=[] by simp[BR,g]);go_enter func153,ntmps153
   go_wp2_with fail
   refine(AA _ _ _ _ _ h).mono ?_;rintro e f ⟨rfl,rfl⟩;rw[b];go_wp2_with fail
   refine(AA _ _ _ _ _ i).mono ?_;rintro e f ⟨rfl,rfl⟩;rw[g];go_wp2_with fail
   go_ret
   exact Gt (Aa d) BRN
  ·have o:=(KV b).1;have d:=Ab (show BR ss tt=Dd ss tt jA by simp[BR,b,g]);go_enter func153,ntmps153
   go_wp2_with fail
   refine(AA _ _ _ _ _ h).mono ?_;rintro e f ⟨rfl,rfl⟩;rw[b];go_wp2_with fail
   refine(AA _ _ _ _ _ i).mono ?_;rintro e f ⟨rfl,rfl⟩;rw[g];go_wp2_with fail
   refine(KW _ _ _ _ _ _ _ _ _ _ h i (by have:=h.len;omega)).mono ?_;rintro e f ⟨x,k,rfl,l,m⟩;go_wp2_with fail
   go_ret
   unfold LW;rw[Aa d];exact⟨x,k,rfl,l,m⟩
theorem YQ (a:Option jD)(n c:Nat)(ss:List ByteArray)(j:Option jD)(n' c':Nat)(tt:List ByteArray)(w:Z)(h:Ap w a n c ss)(i:Ap w j n' c' tt):
  jE j4 154 #[Y a n c,Y j n' c'] w fun e w'=>Js w ss tt e w':=by
 cases b:AC ss
 ·have d:=Ab (show Bc ss tt=[] by simp[Bc,b]);go_enter func154,ntmps154
  go_wp2_with fail
  refine(AA _ _ _ _ _ h).mono ?_;rintro e f ⟨rfl,rfl⟩;rw[b];go_wp2_with fail
  go_ret
  exact FF (Aa d) BRN
 ·cases g:AC tt
  ·have d:=Ab (show Bc ss tt=[] by simp[Bc,g]);go_enter func154,ntmps154
   go_wp2_with fail
   refine(AA _ _ _ _ _ h).mono ?_;rintro e f ⟨rfl,rfl⟩;rw[b];go_wp2_with fail
   refine(AA _ _ _ _ _ i).mono ?_;rintro e f ⟨rfl,rfl⟩;rw[g];go_wp2_with fail
   go_ret
   exact FF (Aa d) BRN
  ·have o:=(Jt b).1;have d:=Ab (show Bc ss tt=Dd ss tt jC by simp[Bc,b,g]);go_enter func154,ntmps154
   go_wp2_with fail
   refine(AA _ _ _ _ _ h).mono ?_;rintro e f ⟨rfl,rfl⟩;rw[b];go_wp2_with fail
   refine(AA _ _ _ _ _ i).mono ?_;rintro e f ⟨rfl,rfl⟩;rw[g];go_wp2_with fail
   refine(KW _ _ _ _ _ _ _ _ _ _ h i (by have:=h.len;omega)).mono ?_;rintro e f ⟨x,k,rfl,l,m⟩;go_wp2_with fail
   go_ret
   unfold Js;rw[Aa d];exact⟨x,k,rfl,l,m⟩
set_option linter.unusedVariables false
structure Aj9 (p:Prop):Prop where
 out:p
theorem Ajp {P a:Prop}(h:Aj9 P->a)(p:P):a:=h ⟨p⟩
theorem AbV {P:Program}{a:Act}{w:Z}{K:Act->Z->Prop}{d:Exit->Act->Z->Prop}(i:o.guard=none)(x:Operand)(name:String)(j:Array jJ)(k:o.op= .call { callee:= .invoke x name,args:=#[],argTypes:=j })(T:jJ)(u:Value)(hx:a.eval x=jB T u)
  (F:Nat)(l:P.types.size+Made.depth=F)(f:FuncId)(b:Value)(hm:∀w,(method F T u name).run P w= .ok (f,b) w)(fn:Func)(hf:P.funcs[f]? =X fn)(m:(fn.name== "runtime.NumGoroutine")=jC)(c:fn.body.isNone=jC)
  (R:Value->Z->Prop)(hc:jE P f #[b] w fun e w'=>∃v,e=jH v/\R v w')(h:∀v w',R v w'->K (a.put o.dst v) w'):
  if Region.wanted o (yielded ops a.tmps)=jA then Oper.wp P o a w K d else g:=by
 have n:Region.wanted o (yielded ops a.tmps)=jA:=by simp[Region.wanted,i]
 rw[if_pos n];unfold Oper.wp;have p:(execOp a.eval o).run P w= .ok (.enter f #[b]) w:=by
  have h1:fn.name≠ "runtime.NumGoroutine" :=by simpa using m
  have h2:(callFunc f #[b]).run P w= .ok (.enter f #[b]) w:=by
   have h3:fn.body≠none:=fun e=>by rw[e]at c;cases c
   simp[callFunc,hf,h1,h3]
  have h4:(callMethod (jB T u) name #[]).run P w= .ok (.enter f #[b]) w:=by
   subst l;have:(method (P.types.size+100) T u name).run P w= .ok (f,b) w:=hm w;simpa[callMethod,Result.andThen,go_sem,this]using h2
  generalize a.eval=r at hx|-;simp only[execOp,k,resolve,invoke,Sem.run_bind,Sem.run_pure,Result.andThen_ok,List.map_toArray,List.map_nil,hx];exact h4
 rw[p,Oper.upon_enter];refine hc.mono ?_;rintro e w' ⟨v,rfl,q⟩;exact h v w' q
end
section
open Go.RowKit Go.Extern.Stop Go.Stop Go.Extern
variable {aS aO aZ aW : jD}
structure PlE (w:Z) (pb:Nat) (at_:Int) (a:jD):Prop where
 row:Ag w pb #[U V at_,jB 297 (jK (X a))] 247
def Adh (aS aO aZ aW:jD) (w:Z) (v:R) (c:Int):Prop:=(1<=c/\c<=4)/\∃pb at_ a,v=jB 245 (jK (X ⟨pb,0,T⟩))/\PlE w pb at_ a/\Sb aS aO aZ aW c=jB 297 (jK (X a))
theorem Vx (i:Int)(a:jD)(w:Z):jE j4 136 #[U V i,jB 297 (jK (X a))] w fun c w'=>(∃b,c=jH (jB 245 (jK (X ⟨b,0,T⟩)))/\PlE w' b i a)/\Ah w w':=by
 have d:=Ag.new w #[U V i,jB 297 (jK (X a))] 247;have f:=Av w (jF #[U V i,jB 297 (jK (X a))] 247);go_enter func136,ntmps136
 go_wp2_with fail
 go_ret
 exact⟨⟨_,rfl,⟨d⟩⟩,f⟩
end
section
open Go.RowKit
structure Dc where
 name:ByteArray
 isLet:Bool
 num:Int
 typ:Int
def fnd (K:List Dc) (s:ByteArray):Option Dc:=K.find? (fun d=>d.name=s)
abbrev Rs:=Except (Int×Int) Int
def ofO (f:Int×Int):Option Int->Rs
 |some t=> .ok t
 |none=> .error f
def tyX (K:List Dc):Ex->Rs
 |.int .. => .ok 2
 |.text .. => .ok 3
 |.bool .. => .ok 1
 |.set .. => .ok 4
 |.name i s=>ofO (7,i) ((fnd K s).map Dc.typ)
 |.attr i _=> .error (9,i)
 |.lett i _=> .error (9,i)
 |.un i op k=>(tyX K k).bind fun a=>ofO (9,i) (nz (Ba op [a]))
 |.bin i op l r=>(tyX K l).bind fun a=>(tyX K r).bind fun b=>ofO (9,i) (nz (Ba op [a,b]))
 |.ite i c t e=>(tyX K c).bind fun a=>(tyX K t).bind fun b=>(tyX K e).bind fun d=>ofO (9,i) (nz (Ba 27 [a,b,d]))
structure Iq (S:Nat->Prop) (w w':Z):Prop where
 os:w'.os=w.os
 tape:w'.tape=w.tape
 output:w'.output=w.output
 size:w.heap.size<=w'.heap.size
 block:∀k,k<w.heap.size->¬ S k->w'.heap[k]? =w.heap[k]?
theorem Iq.of_below {w w':Z}(h:jQ w.heap.size w w'):Iq S w w':=⟨h.os,h.tape,h.output,h.size,fun k a _=>h.block k a⟩
theorem Iq.refl (S:Nat->Prop)(w:Z):Iq S w w:=⟨rfl,rfl,rfl,NLN,fun _ _ _=>rfl⟩
theorem Iq.trans {S T:Nat->Prop}{a b c:Z}(h:Iq S a b)(k:Iq T b c)(d:∀q,q<a.heap.size->T q->S q):Iq S a c:=
 ⟨k.os.trans h.os,k.tape.trans h.tape,k.output.trans h.output,Nat.le_trans h.size k.size,fun q hq hS=>(k.block q (Nat.lt_of_lt_of_le hq h.size) (fun t=>hS (d q hq t))).trans (h.block q hq hS)⟩
theorem Iq.setCell {S:Nat->Prop}{a b:Z}(h:Iq S a b){p:jD}(hp:p.block<a.heap.size->S p.block)(u:R):Iq S a (b.setCell p u):=
 ⟨h.os,h.tape,h.output,by simpa using h.size,fun q hq hS=>(heap_setCell_other b p q u (fun e=>hS (by subst e;exact hp hq))).trans (h.block q hq hS)⟩
theorem Ag.kpt {w w':Z}{b:Nat}(h:Ag w b cs t)(k:Iq S w w')(hS: ¬ S b):Ag w' b cs t:=⟨(k.block b h.lt hS).trans h.out⟩
theorem G8 {w w':Z}{b:Nat}{row:Option Nat}(h:Ag w b cs t)(g:w.grownBy w' row)(a:X b≠row):Ag w' b cs t:=⟨(g.block b h.lt a).trans h.out⟩
end
section
open Go.RowKit
variable {F : Fence} {n : Nat} {P : Program}
def Ac7 (F:Fence) (n:Nat) (P:Program) (gf:Nat) (lb:Array R) (enc:Nat->Array R) (N:Nat) (Kp:Z->Z->Prop) (w:Z):Prop:=
 ∀(l:Nat) (J:Nat->Z->Prop) (W:Z),jQ w.heap.size w W->
  (∀k W1,J k W1->k<N->YieldAt F (n-1) P l (enc k) W1 fun e W'=>e=jH (.bool jA)/\J (k+1) W'/\Kp W1 W')->
  J 0 W->CallsIn F n P gf (#[.func (.yield l) #[] #[]]++lb) W fun e W'=>(∃v,e=jH v)/\J N W'
def AhP (B:Nat) (Kp:Z->Z->Prop) (I:Z->Prop) (W:Z):Exit->Act->Z->Prop
 |.normal,_,W'=>KeepsFrom B W W'/\Kp W W'/\I W'
 |_,_,_=>False
theorem Ug {g:Operand}{m:Array Tmp}{assign body:Code}{E:Exit->Act->Z->Prop}{a:Act}{w:Z}
  (K:F.round=T)(h1: 1<=n){gf:Nat}{lb:Array Value}(hg:a.eval g= .func (.func gf) #[] lb)(L:F.fn gf)(M:∀args w,(callFunc gf args).run P w= .ok (.enter gf args) w)
  {enc:Nat->Array Value}{N:Nat}{Kp:Z->Z->Prop}(x:∀{A B C:Z},Kp A B->Kp B C->Kp A C)(G:∀(b:Z) (l:Nat) (o o':Obj),w.heap.size<=l->b.heap[l]? =X o->o.isCells=jC->Kp b (b.putObj l o'))(O:Ac7 F (n-1) P gf lb enc N Kp w)(S:∀k,(enc k).size=m.size)
  (d:Nat->Z->Prop)(q:OwnFrom w.heap.size d)(h0:d 0 w)
  (W:∀(l k:Nat) (b:Z),w.heap.size<=l->d k b->k<N->
   assign.wpIn (F.inRound l) (n-1-1) P (Exit.then (fun H y=>KeepsFrom w.heap.size b y/\Kp b y/\∃A:Unit->Z->Prop,OwnFrom w.heap.size A/\A () y/\∀r,A () r->body.wpIn (F.inRound l) (n-1-1) P (AhP w.heap.size Kp (d (k+1)) r) H r) (fun _ _ _=>False))
    { tmps:=(m.zip (enc k)).foldl (fun t (p,v)=>t.setIfInBounds p v) a.tmps,defers:= [] } b)
  (aa:∀(z:Nat) (b:Z),w.heap.size<=z->d N b->b.heap[z]? =X (.deferred (X []))->E .normal { a with defers:={ target:= .collected z,args:=#[] } ::a.defers } b):
  (Code.rangeFunc g m assign body).wpIn F n P E a w:=by
 refine wpIn_rangeFunc fun fn ab=>?_;rw[K];obtain⟨R,f⟩:∃R:LoopState->Loop,R=fun st=>{ state:=st,pending:=T,fn:=fn,tmps:=a.tmps,params:=m,assign:=assign,body:=body,defers:=w.heap.size }:=⟨_,rfl⟩
 obtain⟨c,h⟩:∃c,c=(w.alloc (.deferred (X []))).alloc (.loop (R .ready)):=⟨_,rfl⟩
 have zl:c.heap[w.heap.size+1]? =X (.loop (R .ready)):=by
  have:=World.alloc_heap_new (w.alloc (.deferred (X []))) (.loop (R .ready));rw[jW]at this;rw[h];exact this
 have ac:c.heap[w.heap.size]? =X (.deferred (X [])):=by
  rw[h];exact(Below.heap_alloc _ _ _ (by simp)).trans (World.alloc_heap_new w _)
 have ad:d 0 c:=by rw[h];exact q.alloc _ (q.alloc _ h0)
 have zb:jQ w.heap.size w c:=by rw[h];exact((Below.refl _ w).alloc NLN _).alloc (by simp) _
 refine⟨w.heap.size+1,[{ target:= .collected w.heap.size,args:=#[] }],c,{ target:= .fn (.func gf) lb,args:=#[.func (.yield (w.heap.size+1)) #[] #[]] },c,gf,
  #[.func (.yield (w.heap.size+1)) #[] #[]]++lb,c,?_,?_,?_,?_,fun _=>h1,?_⟩
 ·rw[h,f];exact run_enterLoop_outer _ _ _ _ _
 ·simp only[resolve,hg];simp[go_sem]
 ·intro ax hf';simp[Target.leads]at hf';subst hf';exact L
 ·simp[invoke,go_sem,M]
 refine(O (w.heap.size+1) (fun k b=>d k b/\b.heap[w.heap.size+1]? =X (.loop (R .ready))/\b.heap[w.heap.size]? =X (.deferred (X []))) c zb ?_ ⟨ad,zl,ac⟩).mono ?_
 ·rintro k b ⟨hi,i,D⟩ ae;have hy:=run_yield (P:=P) (args:=enc k) i (by rw[f];exact S k);rw[f]at hy;refine⟨fn,_,assign,body,hy,roundIn_of_wpIn ab (wpIn_mono (W (w.heap.size+1) k b (by omega) hi ae) ?_)⟩;rintro e H j hp;cases e with
  |normal=>
   obtain⟨I,b1,A,af,ag,ah⟩:=hp;have s:=I.same _ _ (by omega) i rfl;have ai:=I.same _ _ NLN D rfl;have aj:w.heap.size+1<j.heap.size:=(Array.getElem?_eq_some_iff.1 s).1;refine⟨_,run_beginRound s (by rw[f]),?_⟩;have ak:(j.putObj (w.heap.size+1) (.loop { R .ready with state:= .busy })).heap[w.heap.size+1]? =X (.loop { R .ready with state:= .busy }):=World.putObj_heap_same aj;have al:(j.putObj (w.heap.size+1) (.loop { R .ready with state:= .busy })).heap[w.heap.size]? =X (.deferred (X [])):=(World.putObj_heap_other (by omega)).trans ai;have b2:Kp j (j.putObj (w.heap.size+1) (.loop { R .ready with state:= .busy })):=G _ _ _ _ (by omega) s rfl;refine wpIn_mono (ah _ (af.putObj _ ag (by omega) s rfl)) ?_;rintro e3 a3 ao h3;cases e3 with
   |normal=>
    obtain⟨J,b3,ap⟩:=h3;have u:=J.same _ _ (by omega) ak rfl;have aq:=J.same _ _ NLN al rfl;have he:=run_endRound (P:=P) T u;have ar:w.heap.size+1<ao.heap.size:=(Array.getElem?_eq_some_iff.1 u).1;have au: { { R .ready with state:= .busy } with state:=if (T:Option Code).isNone then LoopState.ready else .done,pending:=T } =R .ready:=by rw[f];rfl
    rw[au]at he;exact⟨_,_,he,rfl,⟨q.putObj _ ap (by omega) u rfl,World.putObj_heap_same ar,(World.putObj_heap_other (by omega)).trans aq⟩,x (x (x b1 b2) b3) (G _ _ _ _ (by omega) u rfl)⟩
   |ret=>exact h3.elim
   |exit id=>exact h3.elim
   |goto t=>exact h3.elim
   |panic av=>exact h3.elim
   |outgrown=>exact h3.elim
  |ret=>exact hp.elim
  |exit id=>exact hp.elim
  |goto t=>exact hp.elim
  |panic av=>exact hp.elim
  |outgrown=>exact hp.elim
 ·rintro e r ⟨⟨v,rfl⟩,hi,i,D⟩;have he:=run_endLoop (P:=P) i (by rw[f];simp);have aw:(R .ready).pending=T:=by rw[f]
  rw[aw]at he;exact⟨T,_,he,aa _ _ NLN (q.putObj _ hi (by omega) i rfl) ((World.putObj_heap_other (by omega)).trans D)⟩
end
section
open Go.RowKit
theorem Sj (a:Option jD)(n c:Nat)(ss:List ByteArray)(L:Int)(w:Z)(h:Ap w a n c ss)(q: -1<=L)(r:L<=1048576):
  jE j4 74 #[Y a n c,U V L] w fun e w'=>(∃d:Int,e=jH (U V d)/\(d= -1\/0<=d/\d+n+tot ss=L))/\w'=w:=by
 have s:n<=9223372036854775807:=by have:=h.cap;have:=h.small;unfold jM at this;omega
 have f:=Ab h.len;by_cases h0:L-n<0
 ·go_enter func74,ntmps74
  go_wp2
  go_ret
  exact⟨⟨_,rfl,.inl rfl⟩,rfl⟩
 ·have t: 0<=L-n:=by omega
  go_enter func74,ntmps74
  go_wp2
  go_loop [1,4,5] (fun l _ i=>∃k:Nat,k<=n/\i=U V k/\l=U V (L-n-tot (ss.take k))/\0<=L-n-tot (ss.take k)) (fun _ _ i=>n-(jI i).toNat)
  case atStart=>exact⟨0,zD _,rfl,by simp[tot],by simp[tot];omega⟩
  case round=>
   obtain⟨k,u,rfl,rfl,hp⟩:=hrel;by_cases g:k<n
   ·obtain⟨b,v,m,_,hc⟩:=h.cells k g;have o:=h.sizes k g;subst m;unfold jM at o;have j:=Ab (Sk ss k (by have:=Aa f;omega));generalize p:tot (ss.take k)=T at*;clear p;by_cases x:L-n-T-((Aw ss k).size:Int)<0
    ·go_wp2
     go_ret
     exact⟨⟨_,rfl,.inl rfl⟩,rfl⟩
    ·have y: 0<=L-n-T-((Aw ss k).size:Int):=by omega
     go_wp2
     go_round
     case rel=>exact⟨k+1,by omega,by go_num,by rw[Aa j];go_num,by rw[Aa j];omega⟩
     case measure=>simp[jI];omega
   ·go_wp2
    go_ret
    have e1:ss.take k=ss:=zY (by have:=Aa f;omega);rw[e1]at hp|-;exact⟨⟨_,rfl,.inr ⟨hp,by omega⟩⟩,rfl⟩
theorem Sl (a:Option jD)(n c:Nat)(ss:List ByteArray)(w:Z)(h:Ap w a n c ss)(v:n<=1048576):
  jE j4 85 #[Y a n c] w fun e w'=>e=jH (Y (X ⟨w.heap.size,0,T⟩) n n)/\Ah w w'/\w'.ownsRow w.heap.size 9 1 (Y (X ⟨w.heap.size,0,T⟩) n n) n (ss.map Q):=by
 obtain⟨i,hi,q,r,s⟩:=jZ Jc;go_enter func85,ntmps85
 go_wp2_with (at_make;refine wpList_make_full _ rfl _ _ 46 rfl w.heap.size 9 i (Q jU) 1 underlying46 hi q r _ _ _ _ n rfl rfl rfl rfl ?b2 ?b3 ?b4 ?_)
 case b2=>rw[s];omega
 case b3=>unfold jM;omega
 case b4=>exact NLN
 intro g d j;have l:Ah w g:=BRN.grown j NLN (fun k m=>by cases m);clear j;have o:g.ownsRow w.heap.size 9 1 (Y (X ⟨w.heap.size,0,T⟩) n n) n ((LT ss n 0).map Q):=by
  rw[AbO,List.map_replicate,<-toList_madeCells_one,<-Nat.mul_one n];simpa using d
 clear d;go_wp2
 go_loopw [4] (fun i wr=>∃k:Nat,k<=n/\i=U V k/\wr.ownsRow w.heap.size 9 1 (Y (X ⟨w.heap.size,0,T⟩) n n) n ((LT ss n k).map Q)/\Ah w wr) (fun i _=>n-(jI i).toNat)
 case atStart=>exact⟨0,zD _,rfl,o,l⟩
 case round=>
  obtain⟨k,m,rfl,d,f⟩:=hrel;clear o l;by_cases p:k<n
  ·obtain⟨b,x,t,_,hc⟩:=(h.below f NLN).cells k p;subst t;have y:=d.frozenAt k;have z:=(d.cellAt k (by omega)).trans (Agm ss n k p);have u:=Ab (d.stored k (Q (Aw ss k))).1;clear d;go_wp2
   go_roundw
   case rel=>exact⟨k+1,by omega,by go_num,by rw[<-AdN];exact Aa u,f.setCell NLN _⟩
   case measure=>simp[jI];omega
  ·have e:k=n:=by omega
   subst e;go_wp2
   go_ret
   exact⟨rfl,f,by rw[AbP ss k h.len]at d;exact d⟩
def Wd (w:Z) (x:jD) (n:Nat) (t:jJ):Prop:=∃q cs,x=⟨q,0,T⟩/\Ag w q cs t/\cs.size=n
theorem Wd.below {w w':Z}{n:Nat}{x:jD}(h:Wd w x n t)(a:jQ B w w')(hB:w.heap.size<=B):Wd w' x n t:=by
 obtain⟨q,cs,e,b,z⟩:=h;exact⟨q,cs,e,b.after a hB,z⟩
theorem Wd.setFar {w:Z}{n:Nat}{x:jD}{t:jJ}(h:Wd w x n t){p:jD}(hp:p.block≠x.block)(u:R):Wd (w.setCell p u) x n t:=by
 obtain⟨q,cs,rfl,a,z⟩:=h;exact⟨q,cs,rfl,a.setFar (fun e=>hp e.symm) u,z⟩
theorem Wd.of_owns {w:Z}{n:Nat}{x:jD}{a:List R}(h:w.ownsRow B t 1 (Y (X x) n n) n a):Wd w x n t:=by
 rcases h.2 with⟨q,_⟩|⟨g,cap,b,q,_,hg,_,_,c,_⟩
 ·cases q
 ·cases q;exact⟨g,b,rfl,⟨hg⟩,by omega⟩
end
section
open Go.ChangeShapes Go.WideShapes Go.RowKit
theorem IV {w:Z}(h:w.cell? p=X v):p.block<w.heap.size:=by
 by_cases a:p.block<w.heap.size
 ·exact a
 ·have:w.heap[p.block]? =T:=yM (by omega);simp[World.cell?,this]at h
theorem Ap.of_trod {k:Type}{enc:jJ×R->k}{P:Program}{w:Z}{o:Bool}{e:jJ}{fuel:Nat}{x:DataW k×List MemPlace}{a:Option jD}{n c:Nat}
  (p:P.underlying t=X (.slice e))(he:P.underlying e=X .string)(hc:P.cellsOf e=1)
  (h:DataW.trod enc P w 0 (fun _=>jA) o fuel t [Y a n c]=X x):∃ss,Ap w a n c ss:=by
 rcases open_strings p he hc h with⟨f,_⟩|⟨q,len,cap,ss,f,_,r,hm,s,_,l,u⟩
 ·simp only[List.cons.injEq,jh,and_true]at f;obtain⟨rfl,rfl,rfl⟩:=f;exact⟨[],rfl,NLN,zD _,fun j d=>by omega,fun j d=>by omega⟩
 ·simp only[List.cons.injEq,jh,and_true]at f;obtain⟨rfl,rfl,rfl⟩:=f;simp only[if_true]at s;have v:(ss.take n).length=n:=by simp;omega
  have m:∀j,j<n->Aw (ss.take n) j=ss.getD j jU:=fun j d=>by
   rw[Bv _ j (by omega),List.getElem_take];simp[List.getD,show j<ss.length from by omega]
  refine⟨ss.take n,v.symm,r,hm,fun j d=>?_,fun j d=>?_⟩
  ·rw[m j d];apply u;simp[List.getD,show j<ss.length from by omega]
  ·have g:=l j (by omega);have hs:=World.cell?_spot (l 0 (by omega));obtain⟨b,i,z⟩:=q;simp only[Addr.add,if_true]at hs;subst hs;have y:(⟨b,i,T⟩:jD).add j=⟨b,i+j,T⟩:=by
    by_cases e:j=0<;>simp[Addr.add,e]
   rw[y]at g;refine⟨b,i,rfl,?_,?_⟩
   ·exact IV g
   ·rw[m j d,<-g]
end
end Go.Proofs.YteiieikcjcfkkaaGreatDoor
