import Derived.Test.YtppafecmccdplaaGreatMXAG
import Derived.Stop.Asserts
open Go.Proofs.Tryz
open Option renaming none->T,some->Y
open Go.Value renaming int->U,slice->X,string->Q
open Go.IntKind renaming i64->V
open Go renaming World->Z,Value->jB,Addr->jD
open Bool renaming true->R,false->jA
open Go.Ending renaming returned->jF
open Go.Proofs.Tryz renaming prog->jL
namespace Go.Proofs.YtppafecmccdplaaGreat
open Go.RowKit
set_option linter.unusedVariables false
set_option maxRecDepth 100000
set_option maxHeartbeats 1600000
variable {op t:Int}{ts:List Int}{n c:Nat}{v:jB}{w w':Z}
theorem AJ.news {b a n c:Nat}{ss:List ByteArray}(d:AJ w (Y ⟨b,a,T⟩) n c ss):∀j u,(ss.map Value.string)[j]? =Y u->w.cell? ((⟨b,a,T⟩:jD).add j)=Y u:=fun j u hu=>by
 rw[zk,Option.map_eq_some_iff]at hu;obtain⟨s,hs,rfl⟩:=hu;have f:j<ss.length:=(zZ.1 hs).1;obtain⟨b1,i,g,_,hc⟩:=d.cells j (by have:=d.len;omega);simp only[Option.some.injEq,Addr.mk.injEq,and_true]at g;obtain⟨rfl,rfl⟩:=g;have h:(⟨b,a,T⟩:jD).add j=⟨b,a+j,T⟩:=by by_cases e:j=0<;>simp[Addr.add,e]
 rw[h,hc,BM _ j f];rw[zL f]at hs;cases hs;rfl
set_option maxRecDepth 100000
theorem AJ.newsG {b:jD}{ss:List ByteArray}(a:AJ w (Y b) n c ss):∀j u,(ss.map Value.string)[j]? =Y u->w.cell? (b.add j)=Y u:=fun j u hu=>by
 have f:j<ss.length:=by
  have:=(zZ.1 hu).1;simpa using this
 obtain⟨b1,g,d,_,_⟩:=a.cells j (by have:=a.len;omega);cases d;exact AJ.news a j u hu
theorem EH {ops:Array Oper}{rest:List Oper}{o:Oper}{b:Act}{Q:Exit->Act->Z->Prop}(g:o.guard=T)(s x:Operand)(j:o.op= .call { callee:= .builtin .append,args:=#[s,x],argTypes:=#[42,42] })(base:Nat)(v:jB)(k:Nat)(d:List jB)(hs:b.eval s=v)(f:w.ownsRow base 9 1 v k d)(a:Option jD)(n c:Nat)(ss:List ByteArray)(hx:b.eval x=X a n c)(h:AJ w a n c ss)(hc:a=T->c=0)(hk:k+n<=1048576)(l:base<=w.heap.size)
  (m:∀v' w',w'.ownsRow base 9 1 v' (k+n) (d++ss.map Value.string)->Below base w w'->wpList jL ops Q rest (b.put o.dst v') w'):wpList jL ops Q (o ::rest) b w:=by
 obtain⟨i,hi,p,r,t⟩:=info_parts JH;cases a with
 |none=>
  have h0:n=0:=by
   rcases Nat.eq_zero_or_pos n with q|q
   ·exact q
   ·obtain⟨D,E,y,_⟩:=h.cells 0 q;cases y
  obtain rfl:=hc rfl;subst h0;obtain rfl:ss=[]:=zj h.len.symm;exact wpList_append_own_none g s x 42 j base 9 i 1 underlying42 hi v k d hs f hx (m v w (by simpa using f) BRN)
 |some z=>
  refine wpList_append_own w g s x 42 j base 9 i (.string ByteArray.empty) 1 16 underlying42 hi p r t rfl (by decide) v k d hs f z n c (ss.map Value.string) hx ?_ (AJ.newsG h) ?_ ?_ ?_ l ?_
  ·rw[zU,h.len];omega
  ·intro u hu;obtain⟨s,_,rfl⟩:=zn.1 hu;rfl
  ·unfold maxLen;omega
  ·omega
  ·intro v' w' A B _;exact m v' w' A (BRN.grown B l (fun q C=>(f.lt q C).1))
inductive MkT (Es:List Ex) (i:Nat) (x:Nd) (an:Option jD) (nn cn:Nat):Ex->Prop
 |int (ho:x.op=1):MkT Es i x an nn cn (.int i x.num)
 |text (ho:x.op=2):MkT Es i x an nn cn (.text i x.text)
 |bool (ho:x.op=3):MkT Es i x an nn cn (.bool i (decide (x.num=1)))
 |set (ho:x.op=4):MkT Es i x an nn cn (.set i an nn cn x.names)
 |name (ho:x.op=5):MkT Es i x an nn cn (.name i x.text)
 |attr (ho:x.op=6):MkT Es i x an nn cn (.attr i x.num)
 |lett (ho:x.op=7):MkT Es i x an nn cn (.lett i x.num)
 |un {k:Nat} {e:Ex} (ho: 8<=x.op/\x.op<=10) (hk:x.kids=[(k:Int)]) (h1:Es[k]? =Y e):MkT Es i x an nn cn (.un i x.op e)
 |bin {k l:Nat} {e f:Ex} (ho: 11<=x.op/\x.op<=26) (hk:x.kids=[(k:Int),(l:Int)]) (h1:Es[k]? =Y e) (h2:Es[l]? =Y f):MkT Es i x an nn cn (.bin i x.op e f)
 |ite {k l m:Nat} {e f g:Ex} (ho:x.op=27) (hk:x.kids=[(k:Int),(l:Int),(m:Int)]) (h1:Es[k]? =Y e) (h2:Es[l]? =Y f) (h3:Es[m]? =Y g):MkT Es i x an nn cn (.ite i e f g)
theorem JT {base:Nat}{x:Option jD}{n c:Nat}{L:List Int}(h:w.ownsRow base 3 1 (X x n c) n (Aw L))(a:n<=1048576):Em w x n c L:=by
 have b:L.length=n:=by have:=h.1;rw[Aw,zU]at this;omega
 refine⟨b,a,fun j d=>?_⟩;obtain⟨f,c',hv,hc⟩:=Ae h;cases hv;obtain⟨g,rfl,_,hg⟩:=hc (by omega);refine⟨g,0,rfl,(h.lt g rfl).2,?_⟩;rw[zP];exact hg j _ (by rw[Aw,zk,zL d];rfl)
def AeR (o:Option Int):Prop:=∀a,o=Y a->1<=a/\a<=4
set_option maxHeartbeats 6400000
theorem Ub {f:Int->List Int->List Int}{M:Nat}(b:∀k O,(f k O).length<=max O.length M+1)(top:Int):∀(a O:List Int),(DC f top a O).length<=max O.length M+a.length+1
 |[],O=>by rw[DC,zB,zg,List.length_nil];omega
 |k ::a,O=>by
  rw[DC];split
  ·rw[zB,zg,List.length_cons];omega
  ·have h1:=Ub b top a (f k O);have c:=b k O;rw[List.length_cons];omega
theorem Oi {K:List (List Int)}(b:∀a∈K,a.length<=3):∀(n:Nat) (top:Int) (O:List Int),(Ba K n top O).length<=max O.length (K.length+3*n)+1
 |0,top,O=>by rw[Ba,zB,zg];omega
 |n+1,top,O=>by
  rw[Ba];dsimp only;split
  ·rw[zB,zg];omega
  ·rename_i hc;have h1:=Ub (M:=K.length+3*n) (Oi b n) top (K.getD top.toNat []) O;have c:(K.getD top.toNat []).length<=3:=by
    rw[zo];cases e:K[top.toNat]? with
    |none=>simp
    |some a=>exact b a (zu e)
   omega
def GZ (w:Z) (v:jB) (w':Z) (v':jB):Prop:=(∀k,k<w.heap.size->Y k≠v.ownBlock->w'.heap[k]? =w.heap[k]?)/\(∀q,v'.ownBlock=Y q->v.ownBlock=Y q\/w.heap.size<=q)/\w.heap.size<=w'.heap.size
theorem GZ.refl (w:Z)(v:jB):GZ w v w v:=⟨fun _ _ _=>rfl,fun q h=> .inl h,NLN⟩
theorem GZ.trans {w a w2:Z}{v b c:jB}(h:GZ w v a b)(k:GZ a b w2 c):GZ w v w2 c:=
 ⟨fun j d f=>(k.1 j (zR d h.2.2) (fun e=>by
  rcases h.2.1 j e.symm with e'|e'
  ·exact f e'.symm
  ·omega)).trans (h.1 j d f),fun q g=>by
  rcases k.2.1 q g with e|e
  ·exact h.2.1 q e
  ·exact .inr (zC h.2.2 e),zC h.2.2 k.2.2⟩
theorem EQ {o:Obj}{g n c:Nat}(hg:(w.alloc o).grownBy w' v.ownBlock)(a:v.ownBlock=Y g\/g=w.heap.size+1):GZ w v w' (X (Y ⟨g,0,T⟩) n c):=
 ⟨fun k hk b=>(hg.block k (by simp;omega) b).trans (Below.heap_alloc w o k hk),fun q d=>by
  have:g=q:=by simpa[Value.ownBlock]using d
  subst this;rcases a with e|e
  ·exact .inl e
  ·right;omega,by have:=hg.size;simp at this;omega⟩
theorem Ah.keep {v':jB}{b:Nat}{a:Array jB}{t:TypeId}(R:Ah w b a t)(h:GZ w v w' v')(c:v.ownBlock≠Y b):Ah w' b a t:=⟨(h.1 b R.lt (fun e=>c e.symm)).trans R.out⟩
def Aaf (B:Nat) (w:Z) (v:jB) (R:List Int) (e:Ending) (w':Z):Prop:=∃v',e=jF v'/\w'.ownsRow B 3 1 v' R.length (Aw R)/\Below B w w'/\GZ w v w' v'
theorem Fu {B:Nat}{x:Int}(h:w.ownsRow B 3 1 v (ts.length+1) (Aw ts++[U V x])):w.ownsRow B 3 1 v (ts++[x]).length (Aw (ts++[x])):=by
 rw[zB,zg,Aw,zl];exact h
theorem Sg {K:List (List Int)}{top:Int}(h:top<0\/(K.length:Int)<=top\/K.length<ts.length):∀a,Ba K a top ts=ts++[-1]
 |0=>rfl
 |n+1=>by rw[Ba];exact if_pos h
theorem MZ (a:Option jD)(n c:Nat)(B:Nat)(top:Int)(O:List Int)(v:jB)(w:Z)(A:n<=4000)(h:top<0\/(n:Int)<=top\/n<O.length)(C:O.length<=100000)(o:B<=w.heap.size)(f:w.ownsRow B 3 1 v O.length (Aw O)):
  Calls jL 97 #[X a n c,U V top,v] w fun e w'=>Aaf B w v (O++[-1]) e w':=by
 obtain⟨i,hi,p,r,s⟩:=info_parts Mi;obtain⟨D,E,rfl,_⟩:=Ae f;rcases(show top<0\/(0<=top/\(n:Int)<=top)\/(0<=top/\top<n/\n<O.length) by omega)with h1|⟨h0,t⟩|⟨h0,t,F⟩
 ·have x:top<0:=h1;go_enter func97,ntmps97
  go_wp2_with (at_builtin;refine wpList_append_lies _ rfl _ _ 67 rfl B 3 i (U V 0) 1 8 underlying67 hi p r s rfl (by decide) _ _ _ rfl (World.ownsRow.alloc f _) ⟨w.heap.size,0,T⟩ 1 1 [U V (-1)] rfl rfl ?a1 ?a2 (by decide) ?a3 ?a4 ?a5 _ rfl ?_)
  first|(case a1=>exact Dr _ _ _ _ (by simp))|skip
  case a2=>first|(intro u hu;simp at hu;subst hu;rfl)|rfl
  case a3=>unfold maxLen;omega
  case a4=>omega
  case a5=>first|(simp;omega)|omega
  intro g cap y d b hat z;have j:=EQ (n:=O.length+1) (c:=cap) b hat;have k:=((Below.refl B w).alloc o (.cells #[U V (-1)] 3)).grown b (by simp;omega) (fun q l=>(f.lt q l).1);have m:=Fu d;clear b hat d;go_wp2
  go_ret
  exact⟨_,rfl,m,k,j⟩
 ·have x: ¬ top<0:=by omega
  have G:(n:Int)<=top:=t;go_enter func97,ntmps97
  go_wp2_with (at_builtin;refine wpList_append_lies _ rfl _ _ 67 rfl B 3 i (U V 0) 1 8 underlying67 hi p r s rfl (by decide) _ _ _ rfl (World.ownsRow.alloc f _) ⟨w.heap.size,0,T⟩ 1 1 [U V (-1)] rfl rfl ?b1 ?b2 (by decide) ?b3 ?b4 ?b5 _ rfl ?_)
  first|(case b1=>exact Dr _ _ _ _ (by simp))|skip
  case b2=>first|(intro u hu;simp at hu;subst hu;rfl)|rfl
  case b3=>unfold maxLen;omega
  case b4=>omega
  case b5=>first|(simp;omega)|omega
  intro g cap y d b hat z;have j:=EQ (n:=O.length+1) (c:=cap) b hat;have k:=((Below.refl B w).alloc o (.cells #[U V (-1)] 3)).grown b (by simp;omega) (fun q l=>(f.lt q l).1);have m:=Fu d;clear b hat d;go_wp2
  go_ret
  exact⟨_,rfl,m,k,j⟩
 ·have x: ¬ top<0:=by omega
  have H:(n:Int)<(O.length:Int):=by omega
  go_enter func97,ntmps97
  go_wp2_with (at_builtin;refine wpList_append_lies _ rfl _ _ 67 rfl B 3 i (U V 0) 1 8 underlying67 hi p r s rfl (by decide) _ _ _ rfl (World.ownsRow.alloc f _) ⟨w.heap.size,0,T⟩ 1 1 [U V (-1)] rfl rfl ?c1 ?c2 (by decide) ?c3 ?c4 ?c5 _ rfl ?_)
  first|(case c1=>exact Dr _ _ _ _ (by simp))|skip
  case c2=>first|(intro u hu;simp at hu;subst hu;rfl)|rfl
  case c3=>unfold maxLen;omega
  case c4=>omega
  case c5=>first|(simp;omega)|omega
  intro g cap y d b hat z;have j:=EQ (n:=O.length+1) (c:=cap) b hat;have k:=((Below.refl B w).alloc o (.cells #[U V (-1)] 3)).grown b (by simp;omega) (fun q l=>(f.lt q l).1);have m:=Fu d;clear b hat d;go_wp2
  go_ret
  exact⟨_,rfl,m,k,j⟩
theorem YT {f:Int->List Int->List Int}{top:Int}{a:List Int}{j:Nat}(b:j<a.length)(O:List Int):DC f top (a.drop j) O=if top<=a[j]then O++[-1]else DC f top (a.drop (j+1)) (f a[j] O):=by
 rw[Z4 b,DC]
theorem GU (a:Option jD)(n c:Nat)(N:List Nd)(w0:Z)(B:Nat)(G:IY w0 a n c N)(ax:w0.heap.size<=B)(af:n<=4000)(ay:∀az∈N.map Nd.kids,az.length<=3):
  ∀(d:Nat) (top:Int) (O:List Int) (v:jB) (w:Z),d<=4000->(N.length<=d\/top<d)->O.length<=100000->An w0 w->B<=w.heap.size->w.ownsRow B 3 1 v O.length (Aw O)->
  Calls jL 97 #[X a n c,U V top,v] w fun e w'=>Aaf B w v (Ba (N.map Nd.kids) d top O) e w':=by
 have H:=Ab G.len;have I:=Ab (show(N.map Nd.kids).length=n by rw[zU,G.len]);have ag:=Ab ay;obtain⟨i,hi,ah,ai,aj⟩:=info_parts Mi;intro d
 induction d with
 |zero=>
  intro top O v w _ aA J L D r;have aM:=Aa H;rw[Sg (K:=N.map Nd.kids) (by rw[zU];omega) 0];exact MZ a n c B top O v w af (by omega) J D r
 |succ d ak=>
  intro top O v w aN aA J L D r;by_cases hu:top<0\/(n:Int)<=top\/n<O.length
  ·rw[Sg (K:=N.map Nd.kids) (by rw[Aa I];exact hu) (d+1)];exact MZ a n c B top O v w af hu J D r
  ·obtain⟨t,rfl⟩:∃t:Nat,top=(t:Int):=⟨top.toNat,by omega⟩
   have aB:t<n:=by omega
   have aO:O.length<=n:=by omega
   have M:t<N.length:=by rw[Aa H];exact aB
   have aP: ¬ ((t:Int)<0):=by omega
   have aQ: ¬ ((n:Int)<=(t:Int)):=by omega
   have aR:(t:Int)<(n:Int):=by omega
   have aS: ¬ ((n:Int)<(O.length:Int)):=by omega
   have aT:t<=d:=by have:=Aa H;omega
   have al:=Ab (show Ba (N.map Nd.kids) (d+1) (t:Int) O=DC (Ba (N.map Nd.kids) d) (t:Int) (N[t].kids) O by
    rw[Ba];dsimp only;rw[if_neg (by rw[Aa I];exact hu),zb,zo,zk,zL M];rfl)
   have P:N[t].kids.length<=3:=Aa ag _ (List.mem_map_of_mem (zH M));rw[Aa al];clear al hu;obtain⟨b,aC,rfl,aD,an,nn,cn,aU,m,aV,c0,c1,c2,c3,c4,aE,E⟩:=G.cells t M;have c4:=(L.cell (p:=⟨b,aC+t*5+4,T⟩) aD).trans c4;have S:=Ab (fun k O=>Oi (K:=N.map Nd.kids) (Aa ag) d k O);rw[Aa I]at S;generalize N[t]=x at c0 c1 c2 c3 c4 aE E P|-;generalize Ba (N.map Nd.kids) d=F at ak S|-;have ao:=Ab E.len;have aW:m<=3:=by rw[<-E.len];exact P
   obtain⟨aF,aG,rfl,_⟩:=Ae r;have ap:=Ab (show DC F (t:Int) (x.kids.drop 0) O=DC F (t:Int) x.kids O by rw[List.drop_zero]);generalize DC F (t:Int) x.kids O=R at ap|-;clear c0 c1 c2 c3 P;go_enter func97,ntmps97
   go_wp2_with fail
   go_loopw [2,33] (fun u i wr=>∃ (j:Nat) (h:List Int),j<=m/\i=U V j/\Hid (DC F (t:Int) (x.kids.drop j) h=R)/\h.length<=n+3*d+j/\wr.ownsRow B 3 1 u h.length (Aw h)/\Below B w wr/\GZ w (X aF O.length aG) wr u) (fun _ i _=>m-(intOf i).toNat)
   case atStart=>exact⟨0,O,by omega,rfl,ap,by omega,r,BRN,GZ.refl _ _⟩
   case round=>
    obtain⟨j,h,aX,rfl,aq,aY,o,s,W⟩:=hrel;obtain⟨aZ,a0,rfl,_⟩:=Ae o;have aa:=zC D s.size;have ar:=L.trans (s.mono ax);by_cases au:j<m
    ·have a1:(j:Int)<(m:Int):=by omega
     have av:j<x.kids.length:=by rw[Aa ao];exact au
     obtain⟨a2,ok,rfl,a3,aH⟩:=(E.below ar NLN).cells j av;have z:=Ab (YT (f:=F) (top:=(t:Int)) av h);rw[Aa aq]at z;have aw:=Ab au;generalize x.kids[j]=y at aH z;by_cases hy:(t:Int)<=y
     ·have A:=Ab (show R=h++[-1] by rw[Aa z,if_pos hy]);go_wp2_with (at_builtin;refine wpList_append_lies _ rfl _ _ 67 rfl B 3 i (U V 0) 1 8 underlying67 hi ah ai aj rfl (by decide) _ _ _ rfl (World.ownsRow.alloc o _) ⟨wr.heap.size,0,T⟩ 1 1 [U V (-1)] rfl rfl ?d1 ?d2 (by decide) ?d3 ?d4 ?d5 _ rfl ?_)
      first|(case d1=>exact Dr _ _ _ _ (by simp))|skip
      case d2=>first|(intro u hu;simp at hu;subst hu;rfl)|rfl
      case d3=>unfold maxLen;omega
      case d4=>omega
      case d5=>first|(simp;omega)|omega
      intro g cap aI C l hat aJ;have ab:=EQ (n:=h.length+1) (c:=cap) l hat;have ac:=(s.alloc aa (.cells #[U V (-1)] 3)).grown l (by simp;omega) (fun q ad=>(o.lt q ad).1);have ae:=Fu C;clear l hat C;go_wp2
      go_ret
      exact⟨_,rfl,by rw[Aa A];exact ae,ac,W.trans ab⟩
     ·have A:=Ab (show DC F (t:Int) (x.kids.drop (j+1)) (F y h)=R by rw[Aa z,if_neg hy]);have a4:=Aa S y h;clear z;go_wp2_with (go_at_call 97;refine(ak y h _ wr (by omega) (by omega) (by omega) ar aa o).mono ?_;rintro e w2 ⟨a5,rfl,aK,aL,K2⟩)
      go_roundw
      case rel=>exact⟨j+1,F y h,Aa aw,by go_num,A,by omega,aK,s.trans aL,W.trans K2⟩
      case measure=>have:=Aa aw;simp[intOf];omega
    ·have e:j=m:=by omega
     subst e;have A:=Ab (show R=h++[(t:Int)] by
      rw[<-Aa aq,yG (by rw[Aa ao];exact NLN),DC])
     go_wp2_with (at_builtin;refine wpList_append_lies _ rfl _ _ 67 rfl B 3 i (U V 0) 1 8 underlying67 hi ah ai aj rfl (by decide) _ _ _ rfl (World.ownsRow.alloc o _) ⟨wr.heap.size,0,T⟩ 1 1 [U V (t:Int)] rfl rfl ?e1 ?e2 (by decide) ?e3 ?e4 ?e5 _ rfl ?_)
     first|(case e1=>exact Dr _ _ _ _ (by simp))|skip
     case e2=>first|(intro u hu;simp at hu;subst hu;rfl)|rfl
     case e3=>unfold maxLen;omega
     case e4=>omega
     case e5=>first|(simp;omega)|omega
     intro g cap aI C l hat aJ;have ab:=EQ (n:=h.length+1) (c:=cap) l hat;have ac:=(s.alloc aa (.cells #[U V (t:Int)] 3)).grown l (by simp;omega) (fun q ad=>(o.lt q ad).1);have ae:=Fu C;clear l hat C;go_wp2
     go_ret
     exact⟨_,rfl,by rw[Aa A];exact ae,ac,W.trans ab⟩
section
open Go.RowKit Go.Extern.Stop Go.Stop Go.Extern
end
theorem Bu.inv {N:List Nd}{i:Nat}{f:Ex}(u:Bu N i f){x:Nd}(hx:N[i]? =Y x):
  (x.op=1/\f= .int i x.num)\/(x.op=2/\f= .text i x.text)\/(x.op=3/\f= .bool i (decide (x.num=1)))\/(x.op=4/\∃a n c,f= .set i a n c x.names)\/(x.op=5/\f= .name i x.text)\/(x.op=6/\f= .attr i x.num)\/(x.op=7/\f= .lett i x.num)\/
  ((8<=x.op/\x.op<=10)/\∃ (k:Nat) (e:Ex),x.kids=[(k:Int)]/\Bu N k e/\f= .un i x.op e)\/
  ((11<=x.op/\x.op<=26)/\∃ (k l:Nat) (e g:Ex),x.kids=[(k:Int),(l:Int)]/\Bu N k e/\Bu N l g/\f= .bin i x.op e g)\/
  (x.op=27/\∃ (k l m:Nat) (e g h:Ex),x.kids=[(k:Int),(l:Int),(m:Int)]/\Bu N k e/\Bu N l g/\Bu N m h/\f= .ite i e g h):=by
 have same:∀{y:Nd},N[i]? =Y y->y=x:=fun k=>Option.some.inj (k.symm.trans hx);cases u with
 |int h b hk=>obtain rfl:=same h;exact .inl ⟨b,rfl⟩
 |text h b hk=>obtain rfl:=same h;exact .inr (.inl ⟨b,rfl⟩)
 |bool h b hk=>obtain rfl:=same h;exact .inr (.inr (.inl ⟨b,rfl⟩))
 |set h b hk a n c=>obtain rfl:=same h;exact .inr (.inr (.inr (.inl ⟨b,a,n,c,rfl⟩)))
 |name h b hk=>obtain rfl:=same h;exact .inr (.inr (.inr (.inr (.inl ⟨b,rfl⟩))))
 |attr h b hk=>obtain rfl:=same h;exact .inr (.inr (.inr (.inr (.inr (.inl ⟨b,rfl⟩)))))
 |lett h b hk=>obtain rfl:=same h;exact .inr (.inr (.inr (.inr (.inr (.inr (.inl ⟨b,rfl⟩))))))
 |un h b hk hi t=>obtain rfl:=same h;exact .inr (.inr (.inr (.inr (.inr (.inr (.inr (.inl ⟨b,_,_,hk,t,rfl⟩)))))))
 |bin h b hk hi t u=>obtain rfl:=same h;exact .inr (.inr (.inr (.inr (.inr (.inr (.inr (.inr (.inl ⟨b,_,_,_,_,hk,t,u,rfl⟩))))))))
 |ite h b hk hi t u v=>obtain rfl:=same h;exact .inr (.inr (.inr (.inr (.inr (.inr (.inr (.inr (.inr ⟨b,_,_,_,_,_,_,hk,t,u,v,rfl⟩))))))))
section
variable {ss tt : List ByteArray} {i j : Nat}
structure KB (ss tt:List ByteArray) (i j:Nat) (K:List ByteArray):Prop where
 out:K=ED (ss.take i) tt R
structure KA (ss tt:List ByteArray) (i j:Nat) (K:List ByteArray):Prop where
 rise:Fo K=R
 mem:∀x,x∈K↔x∈ss.take i\/x∈tt.take j
variable {K : List ByteArray}
end
section
variable {aS aO aZ aW : jD}
end
section
variable {aS aO aZ aW : jD}
end
section
structure By (ss tt K:List ByteArray) (code:Int):Prop where
 bad:(AR ss&&AR tt)=jA->K=[]/\code=4
 good:(AR ss&&AR tt)=R->∃M,Cu (ss++tt) M/\(64<M.length->K=[]/\code=3)/\(M.length<=64->K=M/\code=0)
theorem By.unique {ss tt K a:List ByteArray}{c c':Int}(h:By ss tt K c)(h':By ss tt a c'):K=a/\c=c':=by
 cases hv:(AR ss&&AR tt)with
 |false=>
  obtain⟨rfl,rfl⟩:=h.bad hv;obtain⟨rfl,rfl⟩:=h'.bad hv;exact⟨rfl,rfl⟩
 |true=>
  obtain⟨M,d,h1,f⟩:=h.good hv;obtain⟨k,g,i,j⟩:=h'.good hv;have e:=d.unique g;subst e;by_cases b: 64<M.length
  ·obtain⟨rfl,rfl⟩:=h1 b;obtain⟨rfl,rfl⟩:=i b;exact⟨rfl,rfl⟩
  ·obtain⟨rfl,rfl⟩:=f (by omega);obtain⟨rfl,rfl⟩:=j (by omega);exact⟨rfl,rfl⟩
theorem By.len {ss tt K:List ByteArray}{c:Int}(h:By ss tt K c):K.length<=64:=by
 cases hv:(AR ss&&AR tt)with
 |false=>obtain⟨rfl,_⟩:=h.bad hv;simp
 |true=>
  obtain⟨M,d,h1,a⟩:=h.good hv;by_cases b: 64<M.length
  ·obtain⟨rfl,_⟩:=h1 b;simp
  ·obtain⟨rfl,_⟩:=a (by omega);omega
theorem YQ {ss tt:List ByteArray}{j:Nat}(h:j<(ss++tt).length):Ck (ss++tt) j=if j<ss.length then Ck ss j else Ck tt (j-ss.length):=by
 rw[BM _ j h,List.getElem_append];split
 ·rw[BM _ _ (by assumption)]
 ·rw[BM _ _ (by simp at h;omega)]
theorem To {ss tt:List ByteArray}(h:∀j,j<ss.length->(Ck ss j).size<=maxLen)(h':∀j,j<tt.length->(Ck tt j).size<=maxLen):∀j,j<(ss++tt).length->(Ck (ss++tt) j).size<=maxLen:=by
 intro j a;rw[YQ a];split
 ·exact h j (by assumption)
 ·exact h' _ (by simp at a;omega)
theorem By.sizes {ss tt K:List ByteArray}{c:Int}(h:By ss tt K c)(hs:∀j,j<ss.length->(Ck ss j).size<=maxLen)(b:∀j,j<tt.length->(Ck tt j).size<=maxLen):∀j,j<K.length->(Ck K j).size<=maxLen:=by
 cases hv:(AR ss&&AR tt)with
 |false=>obtain⟨rfl,_⟩:=h.bad hv;intro j a;simp at a
 |true=>
  obtain⟨M,d,h1,f⟩:=h.good hv;by_cases g: 64<M.length
  ·obtain⟨rfl,_⟩:=h1 g;intro j a;simp at a
  ·obtain⟨rfl,_⟩:=f (by omega);exact UX d (To hs b)
theorem VD {ss:List ByteArray}(h:AR ss=R):ss.length<=64/\Fo ss=R:=by
 simp[AR]at h;exact⟨h.1,h.2.2⟩
def Tn (w:Z) (ss tt:List ByteArray) (e:Ending) (w':Z):Prop:=
 ∃x cx K c,e=jF (.tuple #[X x K.length cx,U V c])/\w'.ownsRow w.heap.size 9 1 (X x K.length cx) K.length (K.map Value.string)/\An w w'/\By ss tt K c
theorem Tn.nil {ss tt:List ByteArray}{c:Int}(h:By ss tt [] c)(a:An w w'):Tn w ss tt (jF (.tuple #[X T 0 0,U V c])) w':=
 ⟨T,0,[],c,rfl,World.ownsRow_nil _ _ _ _,a,h⟩
theorem By.of_bad {ss tt:List ByteArray}(h:(AR ss&&AR tt)=jA):By ss tt [] 4:=⟨fun _=>⟨rfl,rfl⟩,fun k=>by rw[h]at k;cases k⟩
theorem By.of_wide {ss tt M:List ByteArray}(h:(AR ss&&AR tt)=R)(a:Cu (ss++tt) M)(b: 64<M.length):By ss tt [] 3:=
 ⟨fun k=>(by rw[h]at k;cases k),fun _=>⟨M,a,fun _=>⟨rfl,rfl⟩,fun k=>by omega⟩⟩
theorem By.of_good {ss tt M:List ByteArray}(h:(AR ss&&AR tt)=R)(a:Cu (ss++tt) M)(b:M.length<=64):By ss tt M 0:=
 ⟨fun k=>(by rw[h]at k;cases k),fun _=>⟨M,a,fun k=>(by omega),fun _=>⟨rfl,rfl⟩⟩⟩
variable {aS aO aZ aW : jD}
end
def DB (ss tt:List ByteArray):List ByteArray:=if AR ss&&AR tt then ED ss tt R else []
theorem LM {ss:List ByteArray}(h:AR ss=R):ss.length<=64/\Fo ss=R:=by
 simp[AR]at h;exact⟨h.1,h.2.2⟩
theorem Yz (ss tt:List ByteArray)(h:∀j,j<ss.length->(Ck ss j).size<=maxLen):∀j,j<(DB ss tt).length->(Ck (DB ss tt) j).size<=maxLen:=by
 unfold DB;split
 ·exact Rb ss tt R h
 ·intro j a;simp at a
theorem Ade (ss tt:List ByteArray):(DB ss tt).length<=ss.length:=by
 unfold DB;split
 ·exact IP _ _ _
 ·simp
def PH (w:Z) (ss tt:List ByteArray) (e:Ending) (w':Z):Prop:=
 ∃x cx,e=jF (X x (DB ss tt).length cx)/\w'.ownsRow w.heap.size 9 1 (X x (DB ss tt).length cx) (DB ss tt).length ((DB ss tt).map Value.string)/\An w w'
theorem Pf {ss tt:List ByteArray}(h:DB ss tt=[])(a:An w w'):PH w ss tt (jF (X T 0 0)) w':=by
 unfold PH;rw[h];exact⟨T,0,rfl,World.ownsRow_nil _ _ _ _,a⟩
def Cb (ss tt:List ByteArray):List ByteArray:=if AR ss&&AR tt then ED ss tt jA else []
theorem Ww (ss tt:List ByteArray)(h:∀j,j<ss.length->(Ck ss j).size<=maxLen):∀j,j<(Cb ss tt).length->(Ck (Cb ss tt) j).size<=maxLen:=by
 unfold Cb;split
 ·exact Rb ss tt jA h
 ·intro j a;simp at a
theorem Aa4 (ss tt:List ByteArray):(Cb ss tt).length<=ss.length:=by
 unfold Cb;split
 ·exact IP _ _ _
 ·simp
def MH (w:Z) (ss tt:List ByteArray) (e:Ending) (w':Z):Prop:=
 ∃x cx,e=jF (X x (Cb ss tt).length cx)/\w'.ownsRow w.heap.size 9 1 (X x (Cb ss tt).length cx) (Cb ss tt).length ((Cb ss tt).map Value.string)/\An w w'
theorem MI {ss tt:List ByteArray}(h:Cb ss tt=[])(a:An w w'):MH w ss tt (jF (X T 0 0)) w':=by
 unfold MH;rw[h];exact⟨T,0,rfl,World.ownsRow_nil _ _ _ _,a⟩
def Kt (ss tt:List ByteArray):Bool:=AR ss&&(AR tt&&decide ((ED ss tt jA).length=0))
section
structure FJ (a:Int):Prop where
 lo: -9223372036854775808<=a
 hi:a<=9223372036854775807
variable {aS aO aZ aW : jD}
def Nc (v:Int):Int×Int:=if -9223372036854775808<=v/\v<=9223372036854775807 then (v,0)else (0,1)
theorem Ut {v:Int}(h1: -9223372036854775808<=v)(a:v<=9223372036854775807):Nc v=(v,0):=if_pos ⟨h1,a⟩
theorem XZ {v:Int}(h:v< -9223372036854775808\/9223372036854775807<v):Nc v=(0,1):=if_neg (by omega)
def Aey (a b:Int):Int×Int:=if b=0 then (0,2)else Nc (a.tdiv b)
def Aez (a b:Int):Int×Int:=if b=0 then (0,2)else Nc (a.tmod b)
def Bz (op a b:Int):Int×Int:=
 if op=1 then Nc (a+b)else if op=2 then Nc (a-b)else if op=3 then Nc (a*b)else if op=4 then Aey a b else if op=5 then Aez a b else (0,4)
end
inductive Vv where
 |bool (b:Bool)
 |int (n:Int)
 |text (s:ByteArray)
 |set (ss:List ByteArray)
def Vv.ty:Vv->Int
 |.bool _=>1
 |.int _=>2
 |.text _=>3
 |.set _=>4
inductive Ev where
 |ok (v:Vv)
 |err (c:Int)
structure Rq where
 cl:ByteArray
 us:ByteArray
 lv:Int
 nw:Int
 s1:List ByteArray
 s2:List ByteArray
open Classical in
noncomputable def JQ (ss tt:List ByteArray):List ByteArray×Int:=if h:∃p:List ByteArray×Int,By ss tt p.1 p.2 then Classical.choose h else ([],4)
theorem AaB {ss tt K:List ByteArray}{c:Int}(h:By ss tt K c):JQ ss tt=(K,c):=by
 have hx:∃p:List ByteArray×Int,By ss tt p.1 p.2:=⟨(K,c),h⟩
 rw[JQ,dif_pos hx];obtain⟨e1,e2⟩:=(Classical.choose_spec hx).unique h;exact Prod.ext e1 e2
def Ge (p:Int×Int):Ev:=if p.2=0 then .ok (.int p.1)else .err p.2
def Gn (p:List ByteArray×Int):Ev:=if p.2=0 then .ok (.set p.1)else .err p.2
def KV (op:Int) (v:Vv):Ev:=match v with
 |.int n=>if op=8 then Ge (Bz 2 0 n)else .err 4
 |.bool b=>if op=9 then .ok (.bool (!b))else .err 4
 |.set ss=>if op=10 then .ok (.int ss.length)else .err 4
 |.text _=> .err 4
open Classical in
noncomputable def Tg (v u:Vv):Bool:=decide (v=u)
open Classical in
noncomputable def Eu (op:Int) (v u:Vv):Ev:=
 if op=19 then .ok (.bool (Tg v u))else if op=20 then .ok (.bool (!Tg v u))
 else match v,u with
  |.text s,.set ss=>if op=23 then .ok (.bool (decide (s∈ss)))else .err 4
  |.set ss,.set tt=>if op=16 then Gn (JQ ss tt)else if op=17 then .ok (.set (DB ss tt))else if op=18 then .ok (.set (Cb ss tt))else if op=24 then .ok (.bool (Kt ss tt))else .err 4
  |.int a,.int b=>if op=21 then .ok (.bool (decide (a<b)))else if op=22 then .ok (.bool (decide (a<=b)))else if 11<=op/\op<=15 then Ge (Bz (op-10) a b)else .err 4
  |_,_=> .err 4
def SE (op:Int) (v:Vv):Bool:=match v with
 |.bool b=>if op=25 then !b else if op=26 then b else jA
 |_=>jA
def Acm (R:Rq) (n:Int):Vv:=if n<2 then (if n=1 then .text R.us else .text R.cl)else if n<4 then (if n=3 then .int R.nw else .int R.lv)else if n=4 then .set R.s1 else .set R.s2
theorem Acn (R:Rq)(n:Int):(Acm R n).ty=BL n:=by
 unfold Acm BL
 repeat' split<;>try rfl
theorem Ft {a t:Int}(h:nz (Ca op [a])=Y t):(op=8/\a=2/\t=2)\/(op=9/\a=1/\t=1)\/(op=10/\a=4/\t=2):=by
 obtain⟨h1,h0⟩:=H6 h;simp only[Ca]at h1;by_cases c1:op=8/\a=2
 ·rw[if_pos c1]at h1;exact .inl ⟨c1.1,c1.2,h1.symm⟩
 rw[if_neg c1]at h1;by_cases c2:op=9/\a=1
 ·rw[if_pos c2]at h1;exact .inr (.inl ⟨c2.1,c2.2,h1.symm⟩)
 rw[if_neg c2]at h1;by_cases c3:op=10/\a=4
 ·rw[if_pos c3]at h1;exact .inr (.inr ⟨c3.1,c3.2,h1.symm⟩)
 rw[if_neg c3]at h1;exact absurd h1.symm h0
theorem EP {a b t:Int}(h:nz (Ca op [a,b])=Y t):((11<=op/\op<=15)/\a=2/\b=2/\t=2)\/((16<=op/\op<=18)/\a=4/\b=4/\t=4)\/((op=19\/op=20)/\a=b/\t=1)\/((op=21\/op=22)/\a=2/\b=2/\t=1)\/(op=23/\a=3/\b=4/\t=1)\/(op=24/\a=4/\b=4/\t=1)\/((op=25\/op=26)/\a=1/\b=1/\t=1):=by
 obtain⟨h1,h0⟩:=H6 h;simp only[Ca]at h1;by_cases c1:(11<=op/\op<=15)/\a=2/\b=2
 ·rw[if_pos c1]at h1;exact .inl ⟨c1.1,c1.2.1,c1.2.2,h1.symm⟩
 rw[if_neg c1]at h1;by_cases c2:(16<=op/\op<=18)/\a=4/\b=4
 ·rw[if_pos c2]at h1;exact .inr (.inl ⟨c2.1,c2.2.1,c2.2.2,h1.symm⟩)
 rw[if_neg c2]at h1;by_cases c3:(op=19\/op=20)/\a=b
 ·rw[if_pos c3]at h1;exact .inr (.inr (.inl ⟨c3.1,c3.2,h1.symm⟩))
 rw[if_neg c3]at h1;by_cases c4:(op=21\/op=22)/\a=2/\b=2
 ·rw[if_pos c4]at h1;exact .inr (.inr (.inr (.inl ⟨c4.1,c4.2.1,c4.2.2,h1.symm⟩)))
 rw[if_neg c4]at h1;by_cases c5:op=23/\a=3/\b=4
 ·rw[if_pos c5]at h1;exact .inr (.inr (.inr (.inr (.inl ⟨c5.1,c5.2.1,c5.2.2,h1.symm⟩))))
 rw[if_neg c5]at h1;by_cases c:op=24/\a=4/\b=4
 ·rw[if_pos c]at h1;exact .inr (.inr (.inr (.inr (.inr (.inl ⟨c.1,c.2.1,c.2.2,h1.symm⟩)))))
 rw[if_neg c]at h1;by_cases c7:(op=25\/op=26)/\a=1/\b=1
 ·rw[if_pos c7]at h1;exact .inr (.inr (.inr (.inr (.inr (.inr ⟨c7.1,c7.2.1,c7.2.2,h1.symm⟩)))))
 rw[if_neg c7]at h1;exact absurd h1.symm h0
theorem Vv.bool_of {v:Vv}(h:v.ty=1):∃b,v= .bool b:=by cases v<;>first|exact⟨_,rfl⟩|(simp[Vv.ty]at h)
theorem Vv.int_of {v:Vv}(h:v.ty=2):∃b,v= .int b:=by cases v<;>first|exact⟨_,rfl⟩|(simp[Vv.ty]at h)
theorem Vv.text_of {v:Vv}(h:v.ty=3):∃b,v= .text b:=by cases v<;>first|exact⟨_,rfl⟩|(simp[Vv.ty]at h)
theorem Vv.set_of {v:Vv}(h:v.ty=4):∃b,v= .set b:=by cases v<;>first|exact⟨_,rfl⟩|(simp[Vv.ty]at h)
theorem Th {a b:Int}(h: 11<=op/\op<=15):Eu op (.int a) (.int b)=Ge (Bz (op-10) a b):=by
 rw[Eu,if_neg (by omega),if_neg (by omega)];rw[if_neg (by omega),if_neg (by omega),if_pos h]
theorem VA (a b:List ByteArray):Eu 16 (.set a) (.set b)=Gn (JQ a b):=rfl
theorem Ya (a b:List ByteArray):Eu 17 (.set a) (.set b)= .ok (.set (DB a b)):=rfl
theorem VB (a b:List ByteArray):Eu 18 (.set a) (.set b)= .ok (.set (Cb a b)):=rfl
theorem Aco (v u:Vv):Eu 19 v u= .ok (.bool (Tg v u)):=rfl
theorem Acp (v u:Vv):Eu 20 v u= .ok (.bool (!Tg v u)):=rfl
theorem Ti {p:Int×Int}{u:Vv}(h:Ge p= .ok u):u.ty=2:=by
 unfold Ge at h;split at h
 ·cases h;rfl
 ·cases h
theorem Yb {p:List ByteArray×Int}{u:Vv}(h:Gn p= .ok u):u.ty=4:=by
 unfold Gn at h;split at h
 ·cases h;rfl
 ·cases h
theorem Zj {v:Vv}(h:nz (Ca op [v.ty])=Y t):∀u,KV op v= .ok u->u.ty=t:=by
 intro u hu;rcases Ft h with⟨rfl,hv,rfl⟩|⟨rfl,hv,rfl⟩|⟨rfl,hv,rfl⟩
 ·obtain⟨n,rfl⟩:=Vv.int_of hv;exact Ti hu
 ·obtain⟨n,rfl⟩:=Vv.bool_of hv;cases hu;rfl
 ·obtain⟨n,rfl⟩:=Vv.set_of hv;cases hu;rfl
theorem Vz {v w:Vv}(h:nz (Ca op [v.ty,w.ty])=Y t)(hc:op≠25/\op≠26):∀u,Eu op v w= .ok u->u.ty=t:=by
 intro u hu;rcases EP h with⟨d,hv,c,rfl⟩|⟨d,hv,c,rfl⟩|⟨d,hv,rfl⟩|⟨d,hv,c,rfl⟩|⟨rfl,hv,c,rfl⟩|⟨rfl,hv,c,rfl⟩|⟨d,hv,c,rfl⟩
 ·obtain⟨a,rfl⟩:=Vv.int_of hv;obtain⟨b,rfl⟩:=Vv.int_of c;rw[Th d]at hu;exact Ti hu
 ·obtain⟨a,rfl⟩:=Vv.set_of hv;obtain⟨b,rfl⟩:=Vv.set_of c;rcases(show op=16\/op=17\/op=18 by omega)with rfl|rfl|rfl
  ·exact Yb hu
  ·cases hu;rfl
  ·cases hu;rfl
 ·rcases d with rfl|rfl
  ·cases hu;rfl
  ·cases hu;rfl
 ·obtain⟨a,rfl⟩:=Vv.int_of hv;obtain⟨b,rfl⟩:=Vv.int_of c;rcases d with rfl|rfl
  ·cases hu;rfl
  ·cases hu;rfl
 ·obtain⟨a,rfl⟩:=Vv.text_of hv;obtain⟨b,rfl⟩:=Vv.set_of c;cases hu;rfl
 ·obtain⟨a,rfl⟩:=Vv.set_of hv;obtain⟨b,rfl⟩:=Vv.set_of c;cases hu;rfl
 ·omega
section
variable {aS aO aZ aW : jD} {G : Nat -> Prop}
theorem AeH (v:Int):FJ (Nc v).1:=by
 unfold Nc;split
 ·rename_i h;exact⟨h.1,h.2⟩
 ·exact⟨by decide,by decide⟩
theorem Tm (op a b:Int):FJ (Bz op a b).1:=by
 unfold Bz Aey Aez
 repeat' split
 all_goals first|exact AeH _|exact⟨by decide,by decide⟩
end
theorem VC (a:Option jD)(n c:Nat)(ss:List ByteArray)(l:Option jD)(n' c':Nat)(tt:List ByteArray)(w:Z)(h:AJ w a n c ss)(h':AJ w l n' c' tt)(F:a=T->c=0)(G:l=T->c'=0):
  Calls jL 126 #[X a n c,X l n' c'] w fun e w'=>Tn w ss tt e w':=by
 cases b:AR ss
 ·have s:=Ab (By.of_bad (ss:=ss) (tt:=tt) (by rw[b];rfl));go_enter func126,ntmps126
  go_wp2_with fail
  refine(AH _ _ _ _ _ h).mono ?_;rintro e f ⟨rfl,rfl⟩;rw[b];go_wp2
  go_ret2
  exact Tn.nil (Aa s) BRN
 ·cases d:AR tt
  ·have s:=Ab (By.of_bad (ss:=ss) (tt:=tt) (by rw[b,d];rfl));go_enter func126,ntmps126
   go_wp2_with fail
   refine(AH _ _ _ _ _ h).mono ?_;rintro e f ⟨rfl,rfl⟩;rw[b];go_wp2_with fail
   refine(AH _ _ _ _ _ h').mono ?_;rintro e f ⟨rfl,rfl⟩;rw[d];go_wp2
   go_ret2
   exact Tn.nil (Aa s) BRN
  ·have H:=(VD b).1;have I:=(VD d).1;have m:=Ab h.len;have o:=Ab h'.len;have t:=Ab (show(AR ss&&AR tt)=R by rw[b,d];rfl);obtain⟨i,hi,J,L,M⟩:=info_parts JH;go_enter func126,ntmps126
   go_wp2_with fail
   refine(AH _ _ _ _ _ h).mono ?_;rintro e f ⟨rfl,g⟩;rw[b,g];clear g;go_wp2_with fail
   refine(AH _ _ _ _ _ h').mono ?_;rintro e f ⟨rfl,g⟩;rw[d,g];clear g;have aa:n<=64:=by have:=Aa m;omega
   have ab:n'<=64:=by have:=Aa o;omega
   go_wp2_with (at_builtin;refine EH rfl _ _ rfl w.heap.size _ 0 [] rfl (World.ownsRow_nil _ _ _ _) a n c ss rfl h F (by omega) NLN ?_)
   intro ac f p q;obtain⟨ad,ae,u⟩:=Au p;rw[u]at p|-;clear u;go_wp2_with (at_builtin;refine EH rfl _ _ rfl w.heap.size _ n _ rfl p l n' c' tt rfl (h'.below q NLN) G (by omega) q.size ?_)
   intro af w2 k v;have r:=q.trans v;obtain⟨N,O,y⟩:=Au k;rw[y]at k|-;clear y p q v;rw[<-zl]at k;have z:AJ w2 N (n+n') O (ss++tt):=AJ.of_owns k (by
    intro j ag;exact To (by rw[<-Aa m];exact h.sizes) (by rw[<-Aa o];exact h'.sizes) j (by have:=Aa m;have:=Aa o;simp;omega))
   clear k;go_wp2_with fail
   refine(Je _ _ _ _ _ z (by have:=Aa m;have:=Aa o;omega)).mono ?_;rintro e ah ⟨x,cx,K,rfl,A,B,C⟩;have D:=Ab C;clear C;have E:=r.trans (B.mono r.size);have P:=Nu A r.size;clear A B r z b d H I hi J L M;by_cases S: 64<K.length
   ·have W:(64 :Int)<(K.length:Int):=by omega
    go_wp2
    go_ret2
    exact Tn.nil (By.of_wide (Aa t) (Aa D) S) E
   ·have W:(K.length:Int)<=64:=by omega
    go_wp2
    go_ret2
    have hu:=By.of_good (Aa t) (Aa D) (by omega);exact⟨x,cx,K,0,rfl,P,E,hu⟩
set_option maxHeartbeats 800000
theorem Od (a:Option jD)(n c:Nat)(ss:List ByteArray)(s:ByteArray)(w:Z)(h:AJ w a n c ss):
  Calls jL 130 #[X a n c,Q s] w fun e w'=>e=jF (.bool (Oe ss s))/\w'=w:=by
 have p:n<=9223372036854775807:=by have:=h.cap;have:=h.small;unfold maxLen at this;omega
 go_enter func130,ntmps130
 go_wp2
 go_loop [6,9] (fun _ i=>∃k:Nat,k<=n/\i=U V k/\∀j,j<k->eqS (Ck ss j) s=jA) (fun _ i=>n-(intOf i).toNat)
 case atStart=>exact⟨0,zE _,rfl,fun j d=>by omega⟩
 case round=>
  obtain⟨k,hk,rfl,f⟩:=hrel;have g:=Ab f;clear f;by_cases l:k<n
  ·obtain⟨b,q,m,_,hc⟩:=h.cells k l;subst m;cases hv:((Ck ss k).toList==s.toList)
   ·go_wp2
    go_round
    case rel=>
     refine⟨k+1,by omega,by go_num,fun j d=>?_⟩
     by_cases e:j=k
     ·subst e;exact hv
     ·exact Aa g j (by omega)
    case measure=>simp[intOf];omega
   ·have o:=Ab (AfD ss s k (by have:=h.len;omega) hv);go_wp2
    go_ret
    exact⟨Ag (Aa o).symm,rfl⟩
  ·go_wp2
   go_ret
   exact⟨Ag (Abe ss s fun j d=>Aa g j (by have:=h.len;omega)).symm,rfl⟩
set_option maxHeartbeats 1600000
theorem LN (a:Option jD)(n c:Nat)(ss:List ByteArray)(j:Option jD)(n' c':Nat)(tt:List ByteArray)(q:Bool)(w:Z)(h:AJ w a n c ss)(h':AJ w j n' c' tt)(I:n<=1048576):
  Calls jL 137 #[X a n c,X j n' c',.bool q] w fun e w'=>∃x cx,e=jF (X x (ED ss tt q).length cx)/\w'.ownsRow w.heap.size 9 1 (X x (ED ss tt q).length cx) (ED ss tt q).length ((ED ss tt q).map Value.string)/\An w w':=by
 obtain⟨i,hi,y,z,A⟩:=info_parts JH;have l:=Ab h.len;go_enter func137,ntmps137
 go_wp2
 go_loopw [7,9,12] (fun v _ i wr=>∃k:Nat,k<=n/\i=U V k/\wr.ownsRow w.heap.size 9 1 v (ED (ss.take k) tt q).length ((ED (ss.take k) tt q).map Value.string)/\An w wr) (fun _ _ i _=>n-(intOf i).toNat)
 case atStart=>exact⟨0,zE _,rfl,World.ownsRow_nil _ _ _ _,BRN⟩
 case round=>
  obtain⟨k,hk,rfl,d,f⟩:=hrel;by_cases B:k<n
  ·obtain⟨b,J,C,K,hc⟩:=(h.below f NLN).cells k B;have m:=h'.below f NLN;subst C;have o:k<ss.length:=by have:=Aa l;omega
   have L:(ED (ss.take k) tt q).length<=k:=zC (IP _ _ _) (List.length_take_le _ _);generalize p:ED (ss.take k) tt q=P at*;have r:=Ab p;clear p;cases hv:(Oe tt (Ck ss k)==q)
   ·have g:=Ab (AfE ss tt q k o hv);go_wp2_with (go_at_call 130;refine(Od _ _ _ _ _ _ m).mono ?_;rintro e w' ⟨rfl,rfl⟩)
    go_roundw
    case rel=>exact⟨k+1,by omega,by go_num,by rw[Aa g,Aa r];exact d,f⟩
    case measure=>simp[intOf];omega
   ·have g:=Ab (AdQ ss tt q k o hv);have D:=f.size;go_wp2_with (first
     |(go_at_call 130;refine(Od _ _ _ _ _ _ m).mono ?_;rintro e w2 ⟨rfl,s⟩;rw[s];clear s)
     |(at_builtin;refine wpList_append_own _ rfl _ _ 42 rfl w.heap.size 9 i (Q ByteArray.empty) 1 16 underlying42 hi y z A rfl (by decide) _ _ _ rfl (d.alloc _) ⟨wr.heap.size,0,T⟩ 1 1 [Q (Ck ss k)] rfl rfl ?c1 ?c2 ?c3 ?c4 ?c5 ?_))
    case c1=>exact cell_one_new _ _ _
    case c2=>intro u hu;simp at hu;subst hu;rfl
    case c3=>unfold maxLen;omega
    case c4=>omega
    case c5=>simp;omega
    intro v' E F t _;have G:An w E:=(f.alloc D _).grown t (by simp;omega) (fun k hk=>(d.lt k hk).1);clear t d;go_wp2
    go_roundw
    case rel=>exact⟨k+1,by omega,by go_num,by rw[Aa g,Aa r,zl,zB];exact F,G⟩
    case measure=>simp[intOf];omega
  ·have e:k=n:=by omega
   subst e;go_wp2
   go_ret
   have e1:ss.take k=ss:=zf (by have:=Aa l;omega);rw[e1]at d;obtain⟨x,cx,H⟩:=Au d;subst H;exact⟨x,cx,rfl,d,f⟩
set_option maxHeartbeats 800000
theorem Xg (a:Option jD)(n c:Nat)(ss:List ByteArray)(f:Option jD)(n' c':Nat)(tt:List ByteArray)(w:Z)(h:AJ w a n c ss)(h':AJ w f n' c' tt):
  Calls jL 131 #[X a n c,X f n' c'] w fun e w'=>e=jF (.bool (Kt ss tt))/\An w w':=by
 cases d:AR ss
 ·go_enter func131,ntmps131
  go_wp2_with fail
  refine(AH _ _ _ _ _ h).mono ?_;rintro e b ⟨rfl,rfl⟩;go_wp2
  go_ret
  exact⟨Ag (by simp[Kt,d]),BRN⟩
 ·cases g:AR tt
  ·go_enter func131,ntmps131
   go_wp2_with fail
   refine(AH _ _ _ _ _ h).mono ?_;rintro e b ⟨rfl,rfl⟩;go_wp2_with fail
   refine(AH _ _ _ _ _ h').mono ?_;rintro e b ⟨rfl,rfl⟩;go_wp2
   go_ret
   exact⟨Ag (by simp[Kt,g]),BRN⟩
  ·have k:=(LM d).1;go_enter func131,ntmps131
   go_wp2_with fail
   refine(AH _ _ _ _ _ h).mono ?_;rintro e b ⟨rfl,rfl⟩;go_wp2_with fail
   refine(AH _ _ _ _ _ h').mono ?_;rintro e b ⟨rfl,rfl⟩;go_wp2_with fail
   refine(LN _ _ _ _ _ _ _ _ _ _ h h' (by have:=h.len;omega)).mono ?_;rintro e b ⟨x,cx,rfl,i,j⟩;clear i;go_wp2
   go_ret
   refine⟨Ag ?_,j⟩;simp only[Kt,d,g,zr];rw[zY];simp
noncomputable def H4 (R:Rq) (ls:List Vv):Ex->Ev
 |.int _ n=> .ok (.int n)
 |.text _ s=> .ok (.text s)
 |.bool _ b=> .ok (.bool b)
 |.set _ _ _ _ ss=> .ok (.set ss)
 |.name .. => .err 4
 |.attr _ n=> .ok (Acm R n)
 |.lett _ n=>match ls[n.toNat]? with
  |some v=> .ok v
  |none=> .err 4
 |.un _ op k=>match H4 R ls k with
  |.ok v=>KV op v
  |.err c=> .err c
 |.bin _ op l r=>match H4 R ls l with
  |.ok v=>if SE op v then .ok v else match H4 R ls r with
   |.ok u=>if op=25\/op=26 then .ok u else Eu op v u
   |.err c=> .err c
  |.err c=> .err c
 |.ite _ c t e=>match H4 R ls c with
  |.ok (.bool b)=>if b then H4 R ls t else H4 R ls e
  |.ok _=> .err 4
  |.err c=> .err c
theorem Nt {R:Rq}{ls:List Vv}{ts:List Int}(d:ls.map Vv.ty=ts):∀(e:Ex) (t:Int),AE ts e=Y t->∀v,H4 R ls e= .ok v->v.ty=t
 |.int ..,t,h,v,hv=>by cases h;cases hv;rfl
 |.text ..,t,h,v,hv=>by cases h;cases hv;rfl
 |.bool ..,t,h,v,hv=>by cases h;cases hv;rfl
 |.set ..,t,h,v,hv=>by cases h;cases hv;rfl
 |.name ..,t,h,v,hv=>by cases h
 |.attr _ n,t,h,v,hv=>by cases h;cases hv;exact Acn R n
 |.lett _ n,t,h,v,hv=>by
  rw[AE]at h;rw[H4]at hv;split at h
  ·rw[<-d,zk]at h;cases s:ls[n.toNat]? with
   |none=>rw[s]at h;cases h
   |some u=>rw[s]at h hv;cases hv;exact Option.some.inj h
  ·cases h
 |.un _ op k,t,h,v,hv=>by
  rw[AE]at h;rw[H4]at hv;cases hk:AE ts k with
  |none=>rw[hk]at h;cases h
  |some a=>
   rw[hk]at h;cases he:H4 R ls k with
   |err c=>rw[he]at hv;cases hv
   |ok u=>
    rw[he]at hv;have:=Nt d k a hk u he;subst this;exact Zj h v hv
 |.bin _ op l r,t,h,v,hv=>by
  rw[AE]at h;rw[H4]at hv;cases i:AE ts l with
  |none=>rw[i]at h;cases h
  |some a=>
   rw[i]at h;cases j:AE ts r with
   |none=>rw[j]at h;cases h
   |some b=>
    rw[j]at h;cases he:H4 R ls l with
    |err c=>rw[he]at hv;cases hv
    |ok x=>
     rw[he]at hv;have hx:=Nt d l a i x he;dsimp only at h hv;by_cases hd:SE op x=true
     ·rw[if_pos hd]at hv;obtain rfl:x=v:=by cases hv;rfl
      cases x with
      |bool q=>
       have f:op=25\/op=26:=by
        simp only[SE]at hd;by_cases w:op=25
        ·exact .inl w
        ·rw[if_neg w]at hd;by_cases A:op=26
         ·exact .inr A
         ·rw[if_neg A]at hd;cases hd
       rcases EP h with g|g|g|g|g|g|g
       ·omega
       ·omega
       ·omega
       ·omega
       ·omega
       ·omega
       ·rw[g.2.2.2];rfl
      |int _=>simp[SE]at hd
      |text _=>simp[SE]at hd
      |set _=>simp[SE]at hd
     ·rw[if_neg hd]at hv;cases m:H4 R ls r with
      |err c=>rw[m]at hv;cases hv
      |ok y=>
       rw[m]at hv;have hy:=Nt d r b j y m;dsimp only at hv;by_cases f:op=25\/op=26
       ·rw[if_pos f]at hv;obtain rfl:y=v:=by cases hv;rfl
        rcases EP h with g|g|g|g|g|g|g
        ·omega
        ·omega
        ·omega
        ·omega
        ·omega
        ·omega
        ·omega
       ·rw[if_neg f]at hv;rw[<-hx,<-hy]at h;exact Vz h ⟨fun q=>f (.inl q),fun q=>f (.inr q)⟩ v hv
 |.ite _ c a b,t,h,v,hv=>by
  rw[AE]at h;rw[H4]at hv;cases hc:AE ts c with
  |none=>rw[hc]at h;cases h
  |some x=>
   rw[hc]at h;cases o:AE ts a with
   |none=>rw[o]at h;cases h
   |some y=>
    rw[o]at h;cases p:AE ts b with
    |none=>rw[p]at h;cases h
    |some z=>
     rw[p]at h;dsimp only at h;obtain⟨h1,h0⟩:=H6 h;simp only[Ca]at h1;have B:y=t/\z=t:=by
      by_cases c1:x=1/\y=z
      ·rw[if_pos c1]at h1;omega
      ·rw[if_neg c1]at h1;omega
     cases he:H4 R ls c with
     |err q=>rw[he]at hv;cases hv
     |ok u=>
      rw[he]at hv;cases u with
      |bool q=>
       cases q with
       |true=>exact(Nt d a y o v hv).trans B.1
       |false=>exact(Nt d b z p v hv).trans B.2
      |int _=>cases hv
      |text _=>cases hv
      |set _=>cases hv
def AF:Ex->Bool
 |.un _ op k=>!decide (op=8)&&AF k
 |.bin _ op l r=>!decide (11<=op/\op<=16)&&(AF l&&AF r)
 |.ite _ c t e=>AF c&&(AF t&&AF e)
 |_=>R
def Ex.st:Ex->Ex
 |.int _ n=> .int 0 n
 |.text _ s=> .text 0 s
 |.bool _ b=> .bool 0 b
 |.set _ _ _ _ ss=> .set 0 T 0 0 ss
 |.name _ s=> .name 0 s
 |.attr _ n=> .attr 0 n
 |.lett _ n=> .lett 0 n
 |.un _ op k=> .un 0 op k.st
 |.bin _ op l r=> .bin 0 op l.st r.st
 |.ite _ c t e=> .ite 0 c.st t.st e.st
def Ex.cv:Ex->Option Vv
 |.int _ n=>Y (.int n)
 |.text _ s=>Y (.text s)
 |.bool _ b=>Y (.bool b)
 |.set _ _ _ _ ss=>Y (.set ss)
 |_=>T
def Ex.con (e:Ex):Bool:=e.cv.isSome
def Vv.ex:Vv->Ex
 |.int n=> .int 0 n
 |.text s=> .text 0 s
 |.bool b=> .bool 0 b
 |.set ss=> .set 0 T 0 0 ss
def isB (b:Bool):Ex->Bool
 |.bool _ c=>c==b
 |_=>jA
def U9 (n:Int):Ex->Bool
 |.int _ m=>decide (m=n)
 |_=>jA
def SI:Ex->Bool
 |.set _ _ _ _ ss=>decide (ss.length=0)
 |_=>jA
def sameL:Ex->Ex->Bool
 |.attr _ n,.attr _ m=>decide (m=n)
 |.lett _ n,.lett _ m=>decide (m=n)
 |_,_=>jA
open Classical in
noncomputable def Va (x y:Ex):Bool:=x.con&&decide (x.cv=y.cv)
def WB (b:Bool) (x y:Ex):Option Ex:=
 if isB b x then Y y else if isB (!b) x||isB b y then Y x else if isB (!b) y&&AF x then Y y else T
def Rf (x y:Ex):Option Ex:=if SI x then Y y else if SI y||sameL x y then Y x else T
def WC (x y:Ex):Option Ex:=if SI x&&AF y then Y x else if SI y&&AF x then Y y else if sameL x y then Y x else T
def Rg (x y:Ex):Option Ex:=if SI y||(SI x&&AF y)then Y x else if sameL x y then Y (.set 0 T 0 0 [])else T
def Adf (x y:Ex):Option Ex:=if U9 0 x then Y y else if U9 0 y then Y x else T
def WD (n:Int) (x y:Ex):Option Ex:=if U9 n y then Y x else T
def WE (x y:Ex):Option Ex:=if U9 1 x then Y y else if U9 1 y then Y x else if U9 0 x&&AF y then Y x else if U9 0 y&&AF x then Y y else T
def Ph (b:Bool) (x y:Ex):Option Ex:=if sameL x y then Y (.bool 0 b)else T
def ML (x y:Ex):Option Ex:=if sameL x y then Y (.bool 0 R)else if SI x&&AF y then Y (.bool 0 R)else T
def inE (x y:Ex):Option Ex:=if SI y&&AF x then Y (.bool 0 jA)else T
def DP (op:Int) (x y:Ex):Option Ex:=
 if op=25 then WB R x y
 else if op=26 then WB jA x y
 else if op=16 then Rf x y
 else if op=17 then WC x y
 else if op=18 then Rg x y
 else if op=11 then Adf x y
 else if op=12 then WD 0 x y
 else if op=13 then WE x y
 else if op=14 then WD 1 x y
 else if op=19 then Ph R x y
 else if op=22 then Ph R x y
 else if op=20 then Ph jA x y
 else if op=21 then Ph jA x y
 else if op=24 then ML x y
 else if op=23 then inE x y
 else T
def rq0:Rq:=⟨⟨#[]⟩,⟨#[]⟩,0,0,[],[]⟩
noncomputable def AP (e:Ex):Option Ex:=
 if e.kids.isEmpty then T else if e.kids.all Ex.con then (match H4 rq0 [] e with| .ok v=>Y v.ex| .err _=>T)else T
def SJ:Ex->Option Ex
 |.un _ o j=>if o=9 then Y j else T
 |_=>T
noncomputable def AV (ls:List Ex):Ex->Option Ex
 |.lett _ n=>match ls[n.toNat]? with
  |some c=>if c.con then Y c else T
  |none=>T
 |.un _ op k=>if op=9 then SJ k else T
 |.bin _ op x y=>DP op x y
 |.ite _ c t e=>if isB R c then Y t else if isB jA c then Y e else if Va t e&&AF c then Y t else T
 |_=>T
noncomputable def Ie (ls:List Ex) (e:Ex):Ex:=match AP e with
 |some c=>c
 |none=>(AV ls e).getD e
noncomputable def AX (ls:List Ex):Ex->Ex
 |.un i op k=>Ie ls (.un i op (AX ls k))
 |.bin i op l r=>Ie ls (.bin i op (AX ls l) (AX ls r))
 |.ite i c t e=>Ie ls (.ite i (AX ls c) (AX ls t) (AX ls e))
 |e=>Ie ls e
theorem Pi {e:Ex}{v:Vv}(h:e.cv=Y v)(ts:List Int):AE ts e=Y v.ty:=by
 cases e<;>simp only[Ex.cv]at h<;>first|(cases h;rfl)|cases h
theorem Ahu (v:Vv)(ts:List Int):AE ts v.ex=Y v.ty:=by cases v<;>rfl
theorem FK {b:Bool}{x y z:Ex}(h:WB b x y=Y z):z=x\/z=y:=by
 unfold WB at h
 repeat' split at h
 all_goals first|(cases h;first|exact .inl rfl|exact .inr rfl)|cases h
theorem AW {b:Bool}{x y z:Ex}(h:Ph b x y=Y z):∃c,z= .bool 0 c:=by
 unfold Ph at h;split at h<;>cases h;exact⟨_,rfl⟩
theorem F7 {x y z:Ex}(h:ML x y=Y z):∃c,z= .bool 0 c:=by
 unfold ML at h;split at h
 ·cases h;exact⟨_,rfl⟩
 ·split at h<;>cases h;exact⟨_,rfl⟩
theorem MM {x y z:Ex}(h:inE x y=Y z):∃c,z= .bool 0 c:=by
 unfold inE at h;split at h<;>cases h;exact⟨_,rfl⟩
theorem Kf {x y z:Ex}(h:Rf x y=Y z):z=x\/z=y:=by
 unfold Rf at h;split at h
 ·cases h;exact .inr rfl
 ·split at h<;>cases h;exact .inl rfl
theorem MN {x y z:Ex}(h:WC x y=Y z):z=x\/z=y:=by
 unfold WC at h;split at h
 ·cases h;exact .inl rfl
 ·split at h
  ·cases h;exact .inr rfl
  ·split at h<;>cases h;exact .inl rfl
theorem Kg {x y z:Ex}(h:Rg x y=Y z):z=x\/z= .set 0 T 0 0 []:=by
 unfold Rg at h;split at h
 ·cases h;exact .inl rfl
 ·split at h<;>cases h;exact .inr rfl
theorem Rh {x y z:Ex}(h:Adf x y=Y z):z=x\/z=y:=by
 unfold Adf at h;split at h
 ·cases h;exact .inr rfl
 ·split at h<;>cases h;exact .inl rfl
theorem FL {n:Int}{x y z:Ex}(h:WD n x y=Y z):z=x\/z=y:=by
 unfold WD at h;split at h<;>cases h;exact .inl rfl
theorem MO {x y z:Ex}(h:WE x y=Y z):z=x\/z=y:=by
 unfold WE at h;split at h
 ·cases h;exact .inr rfl
 ·split at h
  ·cases h;exact .inl rfl
  ·split at h
   ·cases h;exact .inl rfl
   ·split at h<;>cases h;exact .inr rfl
theorem Kh {t:Int}{x y z:Ex}(hx:AE ts x=Y t)(hy:AE ts y=Y t)(h:z=x\/z=y):AE ts z=Y t:=by
 rcases h with rfl|rfl
 ·exact hx
 ·exact hy
theorem Adg {a b t:Int}{x y z:Ex}(hx:AE ts x=Y a)(hy:AE ts y=Y b)(f:nz (Ca op [a,b])=Y t)(h:DP op x y=Y z):AE ts z=Y t:=by
 rcases EP f with⟨d,rfl,rfl,rfl⟩|⟨d,rfl,rfl,rfl⟩|⟨d,rfl,rfl⟩|⟨d,rfl,rfl,rfl⟩|⟨rfl,rfl,rfl,rfl⟩|⟨rfl,rfl,rfl,rfl⟩|⟨d,rfl,rfl,rfl⟩
 ·rcases(show op=11\/op=12\/op=13\/op=14\/op=15 by omega)with rfl|rfl|rfl|rfl|rfl
  ·exact Kh hx hy (Rh h)
  ·exact Kh hx hy (FL h)
  ·exact Kh hx hy (MO h)
  ·exact Kh hx hy (FL h)
  ·cases h
 ·rcases(show op=16\/op=17\/op=18 by omega)with rfl|rfl|rfl
  ·exact Kh hx hy (Kf h)
  ·exact Kh hx hy (MN h)
  ·rcases Kg h with rfl|rfl
   ·exact hx
   ·rfl
 ·rcases d with rfl|rfl
  ·obtain⟨c,rfl⟩:=AW h;rfl
  ·obtain⟨c,rfl⟩:=AW h;rfl
 ·rcases d with rfl|rfl
  ·obtain⟨c,rfl⟩:=AW h;rfl
  ·obtain⟨c,rfl⟩:=AW h;rfl
 ·obtain⟨c,rfl⟩:=MM h;rfl
 ·obtain⟨c,rfl⟩:=F7 h;rfl
 ·rcases d with rfl|rfl
  ·exact Kh hx hy (FK h)
  ·exact Kh hx hy (FK h)
theorem Adh {t:Int}{e c:Ex}(h:AE ts e=Y t)(a:AP e=Y c):AE ts c=Y t:=by
 unfold AP at a;split at a
 ·cases a
 split at a
 ·rename_i hk;split at a
  ·rename_i v hv;cases a;have b:AE [] e=Y t:=by
    have hc:∀k∈e.kids,AE [] k=AE ts k:=fun k d=>by
     have:=zt.1 hk k d;obtain⟨u,hu⟩:=Option.isSome_iff_exists.1 this;rw[Pi hu,Pi hu]
    cases e with
    |un i op k=>rw[AE]at h|-;rw[hc k (by simp[Ex.kids])];exact h
    |bin i op l r=>rw[AE]at h|-;rw[hc l (by simp[Ex.kids]),hc r (by simp[Ex.kids])];exact h
    |ite i x y z=>rw[AE]at h|-;rw[hc x (by simp[Ex.kids]),hc y (by simp[Ex.kids]),hc z (by simp[Ex.kids])];exact h
    |_=>simp[Ex.kids]at*
   rw[Ahu,Nt (R:=rq0) (ls:= []) (ts:= []) rfl e t b v hv]
  ·cases a
 ·cases a
def Ki (ts:List Int) (ls:List Ex):Prop:=∀(n:Nat) (c:Ex),ls[n]? =Y c->c.con=R->∃v:Vv,c.cv=Y v/\ts[n]? =Y v.ty
theorem Adi {ls:List Ex}(q:Ki ts ls){t:Int}{e c:Ex}(h:AE ts e=Y t)(f:AV ls e=Y c):AE ts c=Y t:=by
 cases e with
 |lett i n=>
  rw[AV]at f;rw[AE]at h;split at h
  ·split at f
   ·rename_i d hd;split at f
    ·rename_i hc;cases f;obtain⟨v,hv,r⟩:=q _ _ hd hc;rw[Pi hv,<-r,h]
    ·cases f
   ·cases f
  ·cases h
 |un i op k=>
  rw[AV]at f;split at f
  ·rename_i g;subst g;cases k with
   |un s o j=>
    rw[SJ]at f;split at f
    ·rename_i g;subst g;cases f;rw[AE,AE]at h;cases m:AE ts c with
     |none=>rw[m]at h;cases h
     |some a=>
      rw[m]at h;dsimp only at h;cases l:nz (Ca 9 [a])with
      |none=>rw[l]at h;cases h
      |some b=>
       rw[l]at h;dsimp only at h;rcases Ft l with⟨e,_⟩|⟨_,rfl,rfl⟩|⟨e,_⟩
       ·cases e
       ·rcases Ft h with⟨e,_⟩|⟨_,_,rfl⟩|⟨e,_⟩
        ·cases e
        ·rfl
        ·cases e
       ·cases e
    ·cases f
   |_=>cases f
  ·cases f
 |bin i op x y=>
  rw[AV]at f;rw[AE]at h;cases hx:AE ts x with
  |none=>rw[hx]at h;cases h
  |some a=>
   cases hy:AE ts y with
   |none=>rw[hx,hy]at h;cases h
   |some b=>rw[hx,hy]at h;exact Adg hx hy h f
 |ite i x y z=>
  rw[AV]at f;rw[AE]at h;cases hx:AE ts x with
  |none=>rw[hx]at h;cases h
  |some a=>
   cases hy:AE ts y with
   |none=>rw[hx,hy]at h;cases h
   |some b=>
    cases p:AE ts z with
    |none=>rw[hx,hy,p]at h;cases h
    |some d=>
     rw[hx,hy,p]at h;dsimp only at h;obtain⟨h1,h0⟩:=H6 h;simp only[Ca]at h1;split at h1
     ·rename_i he;obtain⟨e1,e2⟩:=he;subst e2 h1
      repeat' split at f
      all_goals first|(cases f;assumption)|cases f
     ·exact absurd h1.symm h0
 |_=>cases f
theorem Ip {ls:List Ex}(a:Ki ts ls){t:Int}{e:Ex}(h:AE ts e=Y t):AE ts (Ie ls e)=Y t:=by
 unfold Ie;cases b:AP e with
 |some c=>exact Adh h b
 |none=>
  cases d:AV ls e with
  |none=>exact h
  |some c=>exact Adi a h d
theorem DR {ts:List Int}{ls:List Ex}(f:Ki ts ls):∀(e:Ex) (t:Int),AE ts e=Y t->AE ts (AX ls e)=Y t
 |.un i op k,t,h=>by
  rw[AX];refine Ip f ?_;rw[AE]at h|-;cases hk:AE ts k with
  |none=>rw[hk]at h;cases h
  |some a=>rw[hk]at h;rw[DR f k a hk];exact h
 |.bin i op x y,t,h=>by
  rw[AX];refine Ip f ?_;rw[AE]at h|-;cases hx:AE ts x with
  |none=>rw[hx]at h;cases h
  |some a=>
   cases hy:AE ts y with
   |none=>rw[hx,hy]at h;cases h
   |some b=>rw[hx,hy]at h;rw[DR f x a hx,DR f y b hy];exact h
 |.ite i x y z,t,h=>by
  rw[AX];refine Ip f ?_;rw[AE]at h|-;cases hx:AE ts x with
  |none=>rw[hx]at h;cases h
  |some a=>
   cases hy:AE ts y with
   |none=>rw[hx,hy]at h;cases h
   |some b=>
    cases g:AE ts z with
    |none=>rw[hx,hy,g]at h;cases h
    |some d=>rw[hx,hy,g]at h;rw[DR f x a hx,DR f y b hy,DR f z d g];exact h
 |.int i n,t,h=>by rw[AX];exact Ip f h;all_goals (intros;simp_all)
 |.text i n,t,h=>by rw[AX];exact Ip f h;all_goals (intros;simp_all)
 |.bool i n,t,h=>by rw[AX];exact Ip f h;all_goals (intros;simp_all)
 |.set i a n c ss,t,h=>by rw[AX];exact Ip f h;all_goals (intros;simp_all)
 |.name i n,t,h=>by rw[AX];exact Ip f h;all_goals (intros;simp_all)
 |.attr i n,t,h=>by rw[AX];exact Ip f h;all_goals (intros;simp_all)
 |.lett i n,t,h=>by rw[AX];exact Ip f h;all_goals (intros;simp_all)
theorem Ae5 (e:Ex):e.st.kids=e.kids.map Ex.st:=by cases e<;>rfl
theorem Adj (e:Ex):e.st.cv=e.cv:=by cases e<;>rfl
theorem YC (e:Ex):e.st.con=e.con:=by rw[Ex.con,Ex.con,Adj]
theorem Iq (ts:List Int):∀(e:Ex),AE ts e.st=AE ts e
 |.un i op k=>by rw[Ex.st,AE,AE,Iq ts k]
 |.bin i op l r=>by rw[Ex.st,AE,AE,Iq ts l,Iq ts r]
 |.ite i c t e=>by rw[Ex.st,AE,AE,Iq ts c,Iq ts t,Iq ts e]
 |.int .. =>rfl
 |.text .. =>rfl
 |.bool .. =>rfl
 |.set .. =>rfl
 |.name .. =>rfl
 |.attr .. =>rfl
 |.lett .. =>rfl
theorem FM:∀(e:Ex),AF e.st=AF e
 |.un i op k=>by rw[Ex.st,AF,AF,FM k]
 |.bin i op l r=>by rw[Ex.st,AF,AF,FM l,FM r]
 |.ite i c t e=>by rw[Ex.st,AF,AF,FM c,FM t,FM e]
 |.int .. =>rfl
 |.text .. =>rfl
 |.bool .. =>rfl
 |.set .. =>rfl
 |.name .. =>rfl
 |.attr .. =>rfl
 |.lett .. =>rfl
theorem Ri (R:Rq)(ls:List Vv):∀(e:Ex),H4 R ls e.st=H4 R ls e
 |.un i op k=>by rw[Ex.st,H4,H4,Ri R ls k]
 |.bin i op l r=>by rw[Ex.st,H4,H4,Ri R ls l,Ri R ls r]
 |.ite i c t e=>by rw[Ex.st,H4,H4,Ri R ls c,Ri R ls t,Ri R ls e]
 |.int .. =>rfl
 |.text .. =>rfl
 |.bool .. =>rfl
 |.set .. =>rfl
 |.name .. =>rfl
 |.attr .. =>rfl
 |.lett .. =>rfl
theorem Fi:∀(e:Ex),e.st.cnt=e.cnt
 |.un i op k=>by rw[Ex.st,Ex.cnt,Ex.cnt,Fi k]
 |.bin i op l r=>by rw[Ex.st,Ex.cnt,Ex.cnt,Fi l,Fi r]
 |.ite i c t e=>by rw[Ex.st,Ex.cnt,Ex.cnt,Fi c,Fi t,Fi e]
 |.int .. =>rfl
 |.text .. =>rfl
 |.bool .. =>rfl
 |.set .. =>rfl
 |.name .. =>rfl
 |.attr .. =>rfl
 |.lett .. =>rfl
theorem Rk:∀(e:Ex),e.st.st=e.st
 |.un i op k=>by rw[Ex.st,Ex.st,Rk k]
 |.bin i op l r=>by rw[Ex.st,Ex.st,Rk l,Rk r]
 |.ite i c t e=>by rw[Ex.st,Ex.st,Rk c,Rk t,Rk e]
 |.int .. =>rfl
 |.text .. =>rfl
 |.bool .. =>rfl
 |.set .. =>rfl
 |.name .. =>rfl
 |.attr .. =>rfl
 |.lett .. =>rfl
theorem LO (b:Bool)(e:Ex):isB b e.st=isB b e:=by cases e<;>rfl
theorem Ago (n:Int)(e:Ex):U9 n e.st=U9 n e:=by cases e<;>rfl
theorem Agp (e:Ex):SI e.st=SI e:=by cases e<;>rfl
theorem Ae6 (x y:Ex):sameL x.st y.st=sameL x y:=by cases x<;>cases y<;>rfl
theorem Agq (x y:Ex):Va x.st y.st=Va x y:=by rw[Va,Va,YC,Adj,Adj]
theorem Ahv (v:Vv):v.ex.st=v.ex:=by cases v<;>rfl
theorem Ae7 (b:Bool)(x y:Ex):WB b x.st y.st=(WB b x y).map Ex.st:=by
 unfold WB;rw[LO,LO,LO,LO,FM]
 repeat' split<;>try rfl
theorem Ae8 (op:Int)(x y:Ex):DP op x.st y.st=(DP op x y).map Ex.st:=by
 have d:∀(c:Prop) [Decidable c] (a b:Option Ex),(if c then a else b).map Ex.st=if c then a.map Ex.st else b.map Ex.st:=fun c _ a b=>by split<;>rfl
 unfold DP Rf WC Rg Adf WD WE Ph ML inE;simp only[Ae7,Agp,Ago,Ae6,FM,d,Option.map_some,Option.map_none,Ex.st]
theorem Ae9 (e:Ex):AP e.st=AP e:=by
 unfold AP;rw[Ae5,Ri];have h1:(e.kids.map Ex.st).isEmpty=e.kids.isEmpty:=by cases e.kids<;>rfl
 have a:(e.kids.map Ex.st).all Ex.con=e.kids.all Ex.con:=by rw[List.all_map];congr 1;funext k;exact YC k
 rw[h1,a]
theorem Afa {e c:Ex}(h:AP e=Y c):c.st=c:=by
 unfold AP at h
 repeat' split at h
 all_goals first|(cases h;exact Ahv _)|cases h
theorem Afb (ls:List Ex)(e:Ex):AV (ls.map Ex.st) e.st=(AV ls e).map Ex.st:=by
 cases e with
 |lett i n=>
  show(match (ls.map Ex.st)[n.toNat]? with|some c=>if c.con then Y c else T|none=>T)=_
  rw[zk,AV];cases ls[n.toNat]? with
  |none=>rfl
  |some c=>
   show(if c.st.con then Y c.st else T)=Option.map Ex.st (if c.con then Y c else T);rw[YC];split<;>rfl
 |un i op k=>
  show(if op=9 then SJ k.st else T)=Option.map Ex.st (if op=9 then SJ k else T);split
  ·cases k with
   |un a o j=>show(if o=9 then Y j.st else T)=Option.map Ex.st (if o=9 then Y j else T);split<;>rfl
   |_=>rfl
  ·rfl
 |bin i op x y=>exact Ae8 op x y
 |ite i c t e=>
  show(if isB R c.st then Y t.st else if isB jA c.st then Y e.st else if Va t.st e.st&&AF c.st then Y t.st else T)=_;rw[LO,LO,Agq,FM,AV]
  repeat' split<;>try rfl
 |_=>rfl
theorem Ir (ls:List Ex)(e:Ex):Ie (ls.map Ex.st) e.st=(Ie ls e).st:=by
 unfold Ie;rw[Ae9];cases a:AP e with
 |some c=>exact(Afa a).symm
 |none=>
  dsimp only;rw[Afb];cases AV ls e<;>rfl
theorem LP (ls:List Ex):∀(e:Ex),AX (ls.map Ex.st) e.st=(AX ls e).st
 |.un i op k=>by rw[Ex.st,AX,AX,LP ls k];exact Ir ls (.un i op (AX ls k))
 |.bin i op l r=>by rw[Ex.st,AX,AX,LP ls l,LP ls r];exact Ir ls (.bin i op (AX ls l) (AX ls r))
 |.ite i c t e=>by rw[Ex.st,AX,AX,LP ls c,LP ls t,LP ls e];exact Ir ls (.ite i (AX ls c) (AX ls t) (AX ls e))
 |.int i n=>Ir ls (.int i n)
 |.text i n=>Ir ls (.text i n)
 |.bool i n=>Ir ls (.bool i n)
 |.set i a n c ss=>Ir ls (.set i a n c ss)
 |.name i n=>Ir ls (.name i n)
 |.attr i n=>Ir ls (.attr i n)
 |.lett i n=>Ir ls (.lett i n)
section
theorem Vt {x:Int}(h1: 0<=x)(a:x<18446744073709551616):IntKind.u64.wrap x=x:=by rw[IntKind.wrap_u64];omega
theorem Qo (x:Int):IntKind.u64.wrap x=x % 18446744073709551616:=IntKind.wrap_u64 x
theorem Agb (h t:Int)(h0: 0<=h)(h1:h<4611686018427387904)(a: 0<=t)(b:t<2):bits .or .u64 (h*2) t=h*2+t:=by
 rw[u64_or (h*2) t (by omega) (by omega) (by omega) (by omega)];have e:(h*2).toNat=2 ^ 1*h.toNat:=by omega
 rw[e,<-Nat.two_pow_add_eq_or_of_lt (by omega)];omega
theorem Aay (a:Int)(k:Nat)(hk: 1<=k):a / 2 ^ k=(a / 2 ^ (k-1)) / 2:=by
 obtain⟨m,rfl⟩:∃m,k=m+1:=⟨k-1,by omega⟩
 rw[show m+1-1=m from by omega,Int.pow_succ,Int.ediv_ediv_of_nonneg (Int.le_of_lt (Int.pow_pos (by omega)))]
theorem JP {a b hi lo:Int}{k:Nat}(hk: 1<=k)(f: 0<=a/\a<=9223372036854775808)(d: 0<=b/\b<=9223372036854775808)(h1: 0<=hi)(l:hi<18446744073709551616)(m: 0<=lo)(n:lo<18446744073709551616)
  (hv:hi*18446744073709551616+lo=(a / 2 ^ k)*b):
  ∃c t A:Int,A=a / 2 ^ (k-1)/\0<=A/\A<18446744073709551616/\t=A % 2/\0<=c/\c<170141183460469231731687303715884105728/\A*b=c+t*b/\
   bits .or .u64 (IntKind.u64.wrap (hi*2)) (lo / 9223372036854775808)=c / 18446744073709551616/\IntKind.u64.wrap (lo*2)=c % 18446744073709551616:=by
 have h:=Aay a k hk;generalize g:a / 2 ^ (k-1)=A at*;have o:(0 :Int)<2 ^ (k-1):=Int.pow_pos (by omega);have i: 0<=A:=by rw[<-g];exact Int.ediv_nonneg f.1 (by omega)
 have p:A<=a:=by rw[<-g];exact Int.ediv_le_self _ f.1
 rw[h]at hv;have q:(A / 2)*b<=4611686018427387904*9223372036854775808:=Int.mul_le_mul (by omega) d.2 d.1 (by omega);have r: 0<=(A / 2)*b:=Int.mul_nonneg (by omega) d.1;have j:A*b=2*((A / 2)*b)+(A % 2)*b:=by
  have:A=2*(A / 2)+A % 2:=by omega
  conv=>lhs;rw[this]
  rw[Int.add_mul,Int.mul_assoc]
 generalize (A / 2)*b=P at*;have s:hi<=2305843009213693952:=by omega
 refine⟨2*P,A % 2,A,rfl,i,by omega,rfl,by omega,by omega,j,?_,?_⟩
 ·rw[Vt (by omega) (by omega),Agb hi (lo / 9223372036854775808) h1 (by omega) (by omega) (by omega)];omega
 ·rw[Qo];omega
variable {a b hi lo : Int} {k : Nat}
theorem Aaz (hk: 1<=k)(g: 0<=a/\a<=9223372036854775808)(h: 0<=b/\b<=9223372036854775808)(h1: 0<=hi)(i:hi<18446744073709551616)(j: 0<=lo)(l:lo<18446744073709551616)
  (hv:hi*18446744073709551616+lo=(a / 2 ^ k)*b)(c:(bits BinOp.and IntKind.u64 (a / 2 ^ (k-1)) 1==1)=R)(hc:IntKind.u64.wrap (IntKind.u64.wrap (lo*2)+b)<IntKind.u64.wrap (lo*2)):
  ∃hi' lo':Int,hi'=IntKind.u64.wrap (bits BinOp.or IntKind.u64 (IntKind.u64.wrap (hi*2)) (lo / 9223372036854775808)+1)/\lo'=IntKind.u64.wrap (IntKind.u64.wrap (lo*2)+b)/\
   0<=hi'/\hi'<18446744073709551616/\0<=lo'/\lo'<18446744073709551616/\hi'*18446744073709551616+lo'=(a / 2 ^ (k-1))*b:=by
 obtain⟨q,t,A,d,m,r,n,s,u,o,p,f⟩:=JP hk g h h1 i j l hv;rw[<-d,and_one_u64 A m (by omega),beq_iff_eq]at c;rw[f,Qo]at hc;refine⟨_,_,rfl,rfl,?_⟩;rw[p,f,Qo,Qo,<-d,o,n,c];omega
theorem AaA (hk: 1<=k)(g: 0<=a/\a<=9223372036854775808)(h: 0<=b/\b<=9223372036854775808)(h1: 0<=hi)(i:hi<18446744073709551616)(j: 0<=lo)(l:lo<18446744073709551616)
  (hv:hi*18446744073709551616+lo=(a / 2 ^ k)*b)(c:(bits BinOp.and IntKind.u64 (a / 2 ^ (k-1)) 1==1)=R)(hc:IntKind.u64.wrap (lo*2)<=IntKind.u64.wrap (IntKind.u64.wrap (lo*2)+b)):
  ∃hi' lo':Int,hi'=bits BinOp.or IntKind.u64 (IntKind.u64.wrap (hi*2)) (lo / 9223372036854775808)/\lo'=IntKind.u64.wrap (IntKind.u64.wrap (lo*2)+b)/\
   0<=hi'/\hi'<18446744073709551616/\0<=lo'/\lo'<18446744073709551616/\hi'*18446744073709551616+lo'=(a / 2 ^ (k-1))*b:=by
 obtain⟨q,t,A,d,m,r,n,s,u,o,p,f⟩:=JP hk g h h1 i j l hv;rw[<-d,and_one_u64 A m (by omega),beq_iff_eq]at c;rw[f,Qo]at hc;refine⟨_,_,rfl,rfl,?_⟩;rw[p,f,Qo,<-d,o,n,c];omega
theorem Vu (hk: 1<=k)(d: 0<=a/\a<=9223372036854775808)(f: 0<=b/\b<=9223372036854775808)(h1: 0<=hi)(g:hi<18446744073709551616)(h: 0<=lo)(i:lo<18446744073709551616)
  (hv:hi*18446744073709551616+lo=(a / 2 ^ k)*b)(j:(bits BinOp.and IntKind.u64 (a / 2 ^ (k-1)) 1==1)=jA):
  ∃hi' lo':Int,hi'=bits BinOp.or IntKind.u64 (IntKind.u64.wrap (hi*2)) (lo / 9223372036854775808)/\lo'=IntKind.u64.wrap (lo*2)/\
   0<=hi'/\hi'<18446744073709551616/\0<=lo'/\lo'<18446744073709551616/\hi'*18446744073709551616+lo'=(a / 2 ^ (k-1))*b:=by
 obtain⟨q,t,A,c,l,r,m,s,u,n,o,p⟩:=JP hk d f h1 g h i hv;rw[<-c,and_one_u64 A l (by omega),beq_eq_false_iff_ne]at j;have h0:A % 2=0:=by omega
 refine⟨_,_,rfl,rfl,?_⟩;rw[o,p,<-c,n,m,h0];omega
end
end Go.Proofs.YtppafecmccdplaaGreat
