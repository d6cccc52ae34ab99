import Derived.Test.YtppafecmccdplaaGreatMXAO
import Derived.Test.YtppafecmccdplaaGreatOQE
import Derived.Test.YtppafecmccdplaaGreatRVR
open Go.Proofs.Tryz
open Option renaming none->T,some->Y
open Go.Value renaming int->U,slice->X,string->Q,agg->jE,pointer->jH
open Go.IntKind renaming i64->V
open Go renaming World->Z,Value->jB,Addr->jD
open Bool renaming true->R,false->jA
open Go.Obj renaming cells->jC
open ByteArray renaming empty->jK
open Go.Proofs.Tryz renaming prog->jL
namespace Go.Proofs.YtppafecmccdplaaGreat
open Go.RowKit
set_option linter.unusedVariables false
set_option maxRecDepth 100000
set_option maxHeartbeats 3200000
variable {s:AI}{g:Array jB}{nm:ByteArray}{st:Cs}{c:Ex}{a i t:Int}{ns:List ByteArray}{Es:List Ex}{ts tt:List Int}{B b k j d:Nat}{ka:Option jD}{f lv:jB}{v u:Vv}{w w':Z}
section
def Wq (k:Nat):ByteArray:= [⟨#[118]⟩,⟨#[119]⟩,⟨#[98,97,115,101]⟩,⟨#[120,95,49]⟩].getD k ⟨#[]⟩
def Wp (k:Nat):ByteArray:= [⟨#[118,48]⟩,⟨#[97,115,107,101,100]⟩,⟨#[110,111,119]⟩].getD k ⟨#[]⟩
def MG (wild:Bool) (x:Int) (m:Nat):ByteArray:=if wild=R/\245<x then Wp (x % 3).toNat else Wq (x / 12 % 4).toNat++In m
abbrev Lts:=List (ByteArray×Int)
def Pw (zs:List Int) (wild:Bool) (L:Lts) (x:Int) (p:Nat) (N:List Nd) (q:Nat) (M:List Nd):Prop:=
 if x=254 then DpX zs L (64-(nx zs p).1 % 2).toNat (nx zs p).2 N q M else Ng zs L wild 5 1 p N q M
def Px (zs:List Int) (wild:Bool) (m:Nat) (L:Lts) (x:Int) (p:Nat) (N:List Nd) (q:Nat) (M:List Nd) (s:St) (K:Lts):Prop:=
 if x % 3=0 then Ng zs L wild 4 (1+x / 3 % 4) p N q M/\s=⟨1,MG wild x m,Fn M,-1⟩/\K=L++[(MG wild x m,1+x / 3 % 4)]
 else if x % 3=1 then ∃q1 N1,Pw zs wild L x p N q1 N1/\Ng zs L wild 4 4 q1 N1 q M/\s=⟨2,⟨#[]⟩,Fn N1,Fn M⟩/\K=L
 else Pw zs wild L x p N q M/\s=⟨2,⟨#[]⟩,Fn M,-1⟩/\K=L
theorem Pw.unique {zs:List Int}{wild:Bool}{L:Lts}{x:Int}{p q a:Nat}{N M b:List Nd}(h:Pw zs wild L x p N q M)(h':Pw zs wild L x p N a b):q=a/\M=b:=by
 unfold Pw at h h';split at h
 ·rename_i c;rw[if_pos c]at h';exact h.unique h'
 ·rename_i c;rw[if_neg c]at h';exact Ng.unique _ _ _ _ _ _ _ _ _ _ _ h h'
theorem Px.unique {zs:List Int}{wild:Bool}{m:Nat}{L K a:Lts}{x:Int}{p q b:Nat}{N M d:List Nd}{s f:St}(h:Px zs wild m L x p N q M s K)(h':Px zs wild m L x p N b d f a):q=b/\M=d/\s=f/\K=a:=by
 unfold Px at h h';split at h
 ·rename_i c;rw[if_pos c]at h';obtain⟨rfl,rfl⟩:=Ng.unique _ _ _ _ _ _ _ _ _ _ _ h.1 h'.1;exact⟨rfl,rfl,by rw[h.2.1,h'.2.1],by rw[h.2.2,h'.2.2]⟩
 ·rename_i c;rw[if_neg c]at h';split at h
  ·rename_i c;rw[if_pos c]at h';obtain⟨g,i,a1,a2,a3,a4⟩:=h;obtain⟨j,k,b1,b2,b3,b4⟩:=h';obtain⟨rfl,rfl⟩:=a1.unique b1;obtain⟨rfl,rfl⟩:=Ng.unique _ _ _ _ _ _ _ _ _ _ _ a2 b2;exact⟨rfl,rfl,by rw[a3,b3],by rw[a4,b4]⟩
  ·rename_i c;rw[if_neg c]at h';obtain⟨rfl,rfl⟩:=h.1.unique h'.1;exact⟨rfl,rfl,by rw[h.2.1,h'.2.1],by rw[h.2.2,h'.2.2]⟩
def MF (zs:List Int) (wild:Bool):Nat->Nat->List Nd->List St->Lts->Nat->List Nd->List St->Lts->Prop
 |0,p,N,S,L,q,M,Tt,K=>q=p/\M=N/\Tt=S/\K=L
 |k+1,p,N,S,L,q,M,Tt,K=>
  if 4<(zs.length:Int)-(p:Int)then ∃p1 N1 s L1,Px zs wild S.length L (nx zs p).1 (nx zs p).2 N p1 N1 s L1/\MF zs wild k p1 N1 (S++[s]) L1 q M Tt K
  else q=p/\M=N/\Tt=S/\K=L
theorem MF.unique {zs:List Int}{wild:Bool} :∀{k p q a:Nat} {N M b:List Nd} {S T d:List St} {L K f:Lts},MF zs wild k p N S L q M T K->MF zs wild k p N S L a b d f->q=a/\M=b/\T=d/\K=f
 |0,_,_,_,_,_,_,_,_,_,_,_,_,h,h'=>⟨by rw[h.1,h'.1],by rw[h.2.1,h'.2.1],by rw[h.2.2.1,h'.2.2.1],by rw[h.2.2.2,h'.2.2.2]⟩
 |k+1,_,_,_,_,_,_,_,_,_,_,_,_,h,h'=>by
  unfold MF at h h';split at h
  ·rename_i c;rw[if_pos c]at h';obtain⟨g,i,s,j,a1,a2⟩:=h;obtain⟨l,m,n,o,b1,b2⟩:=h';obtain⟨rfl,rfl,rfl,rfl⟩:=a1.unique b1;exact MF.unique a2 b2
  ·rename_i c;rw[if_neg c]at h';exact⟨by rw[h.1,h'.1],by rw[h.2.1,h'.2.1],by rw[h.2.2.1,h'.2.2.1],by rw[h.2.2.2,h'.2.2.2]⟩
def Ae3 (zs:List Int) (wild:Bool) (L:Lts) (x:Int) (p:Nat) (N:List Nd) (S:List St) (M:List Nd) (T:List St):Prop:=
 if 0<x % 3 then ∃q,Ng zs L wild 3 4 p N q M/\T=S++[⟨3,⟨#[]⟩,-1,Fn M⟩]else M=N/\T=S++[⟨3,⟨#[]⟩,-1,-1⟩]
def XJ (zs:List Int) (wild:Bool) (p:Nat) (M:List Nd) (T:List St):Prop:=
 ∃q N S L,MF zs wild 14 p [] [] [] q N S L/\Ae3 zs wild L (nx zs q).1 (nx zs q).2 N S M T
theorem XJ.unique {zs:List Int}{wild:Bool}{p:Nat}{M a:List Nd}{T b:List St}(h:XJ zs wild p M T)(h':XJ zs wild p a b):M=a/\T=b:=by
 obtain⟨q,N,S,L,a1,a2⟩:=h;obtain⟨d,f,g,i,b1,b2⟩:=h';obtain⟨rfl,rfl,rfl,rfl⟩:=a1.unique b1;unfold Ae3 at a2 b2;split at a2
 ·rename_i c;rw[if_pos c]at b2;obtain⟨r,c1,c2⟩:=a2;obtain⟨j,d1,d2⟩:=b2;obtain⟨rfl,rfl⟩:=Ng.unique _ _ _ _ _ _ _ _ _ _ _ c1 d1;exact⟨rfl,by rw[c2,d2]⟩
 ·rename_i c;rw[if_neg c]at b2;exact⟨by rw[a2.1,b2.1],by rw[a2.2,b2.2]⟩
section
variable {zs : List Int} {wild : Bool} {L : Lts} {x : Int} {p p1 q q1 m : Nat} {N N1 M : List Nd} {S : List St}
theorem Ae2 (e:x % 3=0)(h:Ng zs L wild 4 (1+x / 3 % 4) p N q M)(a:nm=MG wild x m):Px zs wild m L x p N q M ⟨1,nm,Fn M,-1⟩ (L++[(nm,1+x / 3 % 4)]):=by
 unfold Px;rw[if_pos e,a];exact⟨h,rfl,rfl⟩
theorem Aa2 (e:x % 3=1)(h:Pw zs wild L x p N q1 N1)(a:Ng zs L wild 4 4 q1 N1 q M):Px zs wild m L x p N q M ⟨2,⟨#[]⟩,Fn N1,Fn M⟩ L:=by
 unfold Px;rw[if_neg (by omega),if_pos e];exact⟨q1,N1,h,a,rfl,rfl⟩
theorem Ws (e0: ¬ x % 3=0)(e: ¬ x % 3=1)(h:Pw zs wild L x p N q M):Px zs wild m L x p N q M ⟨2,⟨#[]⟩,Fn M,-1⟩ L:=by
 unfold Px;rw[if_neg e0,if_neg e];exact⟨h,rfl,rfl⟩
theorem Adb {y:Int}{a t:Nat}(e:x=254)(X:Hid (nx zs p=(y,a)))(b:(t:Int)=64-y % 2)(h:DpX zs L t a N q M):Pw zs wild L x p N q M:=by
 unfold Pw;rw[if_pos e,Aa X];dsimp only;rw[show(64-y % 2).toNat=t by omega];exact h
theorem Wt (e: ¬ x=254)(h:Ng zs L wild 5 1 p N q M):Pw zs wild L x p N q M:=by
 unfold Pw;rw[if_neg e];exact h
theorem Ky {s:St}{K a:Lts}{b:Nat}{c:List Nd}{T:List St}(hk:S.length<14)(hy: 4<(zs.length:Int)-(p:Int))(X:Hid (nx zs p=(x,p1)))(h:Px zs wild S.length L x p1 N q M s a)(d:MF zs wild (14-(S++[s]).length) q M (S++[s]) a b c T K):MF zs wild (14-S.length) p N S L b c T K:=by
 obtain⟨j,f⟩:∃j,14-S.length=j+1:=⟨14-S.length-1,by omega⟩
 rw[f];unfold MF;rw[if_pos hy];refine⟨q,M,s,a,by rw[Aa X];exact h,?_⟩;rw[show 14-(S++[s]).length=j by rw[zB,zg];omega]at d;exact d
theorem Wu (h: ¬ S.length<14\/¬ 4<(zs.length:Int)-(p:Int)):MF zs wild (14-S.length) p N S L p N S L:=by
 cases a: 14-S.length with
 |zero=>exact⟨rfl,rfl,rfl,rfl⟩
 |succ j=>
  unfold MF;rw[if_neg (by rcases h with h|h;{ omega };{ exact h })];exact⟨rfl,rfl,rfl,rfl⟩
end
end
theorem Zn {a:List Dc}{e:Ex}{ys:List Int}(h:Gp a e= .ok ys):∃t,BF a e= .ok t/\ys=Ds a e:=by
 unfold Gp at h;cases b:BF a e with
 |error f=>rw[b]at h;cases h
 |ok t=>rw[b]at h;cases h;exact⟨t,rfl,rfl⟩
theorem VW {a:List Dc}{e:Ex}{f:Int×Int}(h:Gp a e= .error f):BF a e= .error f:=by
 unfold Gp at h;cases b:BF a e with
 |error g=>rw[b]at h;cases h;rfl
 |ok t=>rw[b]at h;cases h
theorem Zo {i t:Int}{ys:List Int}(h:JR st.1 nm=T):FZ 1 nm st i (.ok t) ys= .ok (st.1++[⟨nm,R,st.2.1.length,t⟩],st.2.1++[t],st.2.2++ys):=by
 simp[FZ,Acq,h]
theorem NA {i t:Int}{ys:List Int}(h:(JR st.1 nm).isSome):FZ 1 nm st i (.ok t) ys= .error (8,i):=by
 simp[FZ,Acq,h]
theorem VX {ys:List Int}(hk:a≠1):FZ a nm st i (.ok 1) ys= .ok (st.1,st.2.1,st.2.2++ys):=by
 simp[FZ,Jw,hk]
theorem Tv {ys:List Int}(hk:a≠1)(b:t≠1):FZ a nm st i (.ok t) ys= .error (9,i):=by
 simp[FZ,Jw,hk,b]
theorem Zp {f:Int×Int}{ys:List Int} :FZ a nm st i (.error f) ys= .error f:=by
 unfold FZ;split<;>rfl
theorem Tw {c:Int}{a:List Dc}{ys:List Int} :Jw c a ts tt i (.ok c) ys= .ok (a,ts,tt++ys):=by
 simp[Jw]
def Ic (Es:List Ex) (st:Cs) (s:St):Except (Int×Int) Cs:=OM st ⟨0,s.kind,s.name,BV Es s.cond,BV Es s.grant⟩
def DL (Es:List Ex) (st:Cs) (s:St):Except (Int×Int) Cs:=Il st ⟨0,s.kind,s.name,BV Es s.cond,BV Es s.grant⟩
def ER (Es:List Ex) (st:Cs) (s:St):Except (Int×Int) Cs:=(Ic Es st s).bind fun s1=>DL Es s1 s
def EW (Es:List Ex):Cs->List St->Except (Int×Int) Cs
 |st,[]=> .ok st
 |st,s ::L=>(ER Es st s).bind fun s1=>EW Es s1 L
theorem Zq (Es:List Ex):∀(L:List St) (i:Nat) (st:Cs),Yd st (Nf Es i L)=EW Es st L
 |[],i,st=>rfl
 |s ::L,i,st=>by
  rw[Nf,Yd,EW];show(ER Es st s).bind _=_
  congr 1
  funext s1
  exact Zq Es L (i+1) s1
theorem QE (Es:List Ex):∀(L M:List St) (st:Cs),EW Es st (L++M)=(EW Es st L).bind fun a=>EW Es a M
 |[],M,st=>rfl
 |x ::L,M,st=>by
  rw[List.cons_append,EW,EW];cases ER Es st x with
  |error f=>rfl
  |ok a=>exact QE Es L M a
theorem NB (Es:List Ex)(s:St)(L:List St)(st:Cs):EW Es st (L++[s])=(EW Es st L).bind fun a=>ER Es a s:=by
 rw[QE]
 congr 1
 funext a
 rw[EW];cases ER Es a s<;>rfl
theorem Yi (Es:List Ex)(L:List St)(st:Cs)(k:Nat){f:Int×Int}(h:EW Es st (L.take k)= .error f):EW Es st L= .error f:=by
 have e:=QE Es (L.take k) (L.drop k) st;rw[Z9,h]at e;exact e
theorem JV {L:List St}{a:Cs}(h:EW Es st L= .ok a):a.2.2.length=st.2.2.length+Dq Es L/\a.2.1.length<=st.2.1.length+L.length/\(Wst st->Wst a):=by
 rw[<-Zq Es L 0]at h;have:=VN h;rw[Uy,Ux]at this;exact this
theorem QF {b:Int}{a:Nat}{c:Int}{e:Ex}(he:Es[a]? =Y e):Ic Es st ⟨b,nm,a,c⟩=FZ b nm st e.pos (BF st.1 e) (Ds st.1 e):=by
 have:BV Es (a:Int)=Y e:=by rw[BV,if_neg (by omega),zb,he]
 simp only[Ic,OM,this]
theorem OO  :DL Es st ⟨a,nm,i,-1⟩= .ok st:=by
 have:BV Es (-1)=T:=rfl;simp only[DL,Il,this]
theorem IM {b:Int}{a:Nat}{e:Ex}(he:Es[a]? =Y e):DL Es st ⟨b,nm,i,a⟩=Jw 4 st.1 st.2.1 st.2.2 e.pos (BF st.1 e) (Ds st.1 e):=by
 have:BV Es (a:Int)=Y e:=by rw[BV,if_neg (by omega),zb,he]
 simp only[DL,Il,this]
theorem Zr (h:nm∈(Bm:List ByteArray)):(JR (CJ ns ts) nm).isSome:=by
 have h0:=(Eb nm Bm 0 (zq 0)).2 h;rw[CJ,Ku];rcases PC nm with⟨h1,_⟩|⟨j,_,_,a⟩
 ·rw[h1]at h0;omega
 ·rw[a];rfl
theorem Zs (a:ns.length=ts.length)(h:nm∈ns):(JR (CJ ns ts) nm).isSome:=by
 have h0:=(Eb nm ns 0 (zq 0)).2 h;rw[CJ,Ku];cases f:JR JE nm with
 |some d=>rfl
 |none=>
  rcases Qw nm ns ts 0 a with⟨h1,_⟩|⟨j,t,_,_,b⟩
  ·have c:AD nm ns 0= -1:=h1;rw[c]at h0;omega
  ·show(JR (Uz 0 ns ts) nm).isSome;rw[b];rfl
theorem Zt (a:ns.length=ts.length)(h1:nm ∉ (Bm:List ByteArray))(b:nm ∉ ns):JR (CJ ns ts) nm=T:=by
 rw[CJ,Ku];rcases PC nm with⟨_,e1⟩|⟨j,_,e1,_⟩
 ·rw[e1];rcases Qw nm ns ts 0 a with⟨_,e2⟩|⟨j,t,e2,_,_⟩
  ·exact e2
  ·exact absurd ((Eb nm ns 0 (zq 0)).1 (by have c:AD nm ns 0=((0+j:Nat):Int):=e2;rw[c];omega)) b
 ·exact absurd ((Eb nm Bm 0 (zq 0)).1 (by rw[e1];omega)) h1
theorem VY (nm:ByteArray)(t:Int):∀(ns:List ByteArray) (ts:List Int) (k:Nat),ns.length=ts.length->Uz k (ns++[nm]) (ts++[t])=Uz k ns ts++[⟨nm,R,((k+ts.length:Nat):Int),t⟩]
 |[],[],k,_=>rfl
 |n ::ns,x ::ts,k,h=>by
  rw[List.cons_append,List.cons_append,Uz,Uz,VY nm t ns ts (k+1) (by simpa using h),List.cons_append,List.length_cons]
  congr 4
  omega
 |[],_ ::_,_,h=>by cases h
 |_ ::_,[],_,h=>by cases h
theorem QG {t:Int}(a:ns.length=ts.length):CJ ns ts++[⟨nm,R,ts.length,t⟩]=CJ (ns++[nm]) (ts++[t]):=by
 rw[CJ,CJ,VY nm t ns ts 0 a,zJ,zP]
theorem Zu:CJ [] []=JE:=by simp[CJ,Uz]
theorem Lm.readX {d:Nat}{a:Option jD}(h:Lm B d ns ts tt f lv (X a k j) w){i:Nat}{t:Int}(b:tt[i]? =Y t):∃g,a=Y ⟨g,0,T⟩/\w.cell? ⟨g,i,T⟩=Y (U V t)/\(i:Int)<k:=by
 have hi:=(zZ.1 b).1;obtain⟨x,c,e,hx⟩:=Ae h.types;cases e;obtain⟨g,hg,_,hc⟩:=hx (by omega);exact⟨g,hg,hc i _ (by rw[Aw,zk,b];rfl),by omega⟩
theorem Lm.nmsAtX {a:Nat}{x:Option jD}{n c:Nat}{lv b:jB}(h:Lm B a ns ts tt (X x n c) lv b w):Nms w x ns/\w.cell? ⟨a,0,T⟩=Y (X x n c):=by
 obtain⟨y,c',e,hx⟩:=Ae h.names;cases e;refine⟨fun j d=>?_,h.row.cell 0⟩;obtain⟨g,hg,_,hc⟩:=hx (by omega);have f:=(h.names.lt g (by rw[hg];rfl)).2;exact⟨g,0,hg,f,by rw[zP];exact hc j _ (by rw[zk,zL d];rfl)⟩
theorem Lm.nmsX {a d:jB}(h:Lm B b ns ts tt a lv d w):∃x c,a=X x ns.length c/\Nms w x ns:=by
 obtain⟨x,c,e,hx⟩:=Ae h.names;refine⟨x,c,e,fun j f=>?_⟩;obtain⟨g,hg,_,hc⟩:=hx (by omega);have i:=(h.names.lt g (by rw[e,hg];rfl)).2;exact⟨g,0,hg,i,by rw[zP];exact hc j _ (by rw[zk,zL f];rfl)⟩
theorem Ls.sizeX {a b c:Nat}{g:jB}{S:Array jB}{fc:Int}{w0 w:Z}(h:Ls B a b c d ns ts tt f lv g S fc i w0 w):B<=w.heap.size:=by have:=h.S.lt;have:=h.ord;omega
def CkM (o:Except (Int×Int) Cs) (w:Z) (r:Ending) (w':Z):Prop:=
 (∃ (B lb:Nat) (ns:List ByteArray) (ts tt:List Int) (nv lv tv:jB),o= .ok (CJ ns ts,ts,tt)/\ns.length=ts.length/\r= .returned (.tuple #[tv,jH (Y ⟨lb,0,T⟩),jE #[U V 0,U V 0]])/\Lm B lb ns ts tt nv lv tv w'/\w.heap.size<=lb/\An w w')\/
 (∃f:Int×Int,o= .error f/\r= .returned (.tuple #[X T 0 0,jH T,jE #[U V f.1,U V f.2]])/\f.1≠0/\An w w')
theorem AaJ (a:Option jD)(n c:Nat)(N:List Nd)(m:∀x∈N,FdX x)(w0:Z)(o:IY w0 a n c N)(B:Nat)(p:w0.heap.size<=B)(Es:List Ex)(q:Es.length=n)(r:∀j,(h:j<Es.length)->Bu N j Es[j])(s:n<=4000)
  (k:Nat)(ns:List ByteArray)(ts tt:List Int)(t lv l:jB)(u:∀d∈CJ ns ts,1<=d.typ/\d.typ<=4)(v:ns.length=ts.length)(G:ts.length<=1000)(w:tt.length<=4000)(i:Nat)(e:Ex)(he:Es[i]? =Y e)(h1:tt.length+e.cnt=i+1)(hs:AcB Es tt.length e)(f:Z)(y:An w0 f)(b:Lm B k ns ts tt t lv l f)(z:B<=f.heap.size):
  Calls jL 75 #[X a n c,U V tt.length,U V i,jH (Y ⟨k,0,T⟩),l] f (TrX B l tt (Gp (CJ ns ts) e) f):=by
 obtain⟨A,C,rfl,D⟩:=Ae b.lets;obtain⟨E,cn,rfl,F⟩:=b.nmsX;have H:i<Es.length:=(zZ.1 he).1;have e1:(i:Int)=((tt.length+e.cnt:Nat):Int)-1:=by omega
 rw[<-hs (CJ ns ts),e1];refine VU a n c N m w0 o B p k E ns.length cn ns A ts.length C ts u Es q r tt.length e.cnt (by omega) (by omega) s l tt w f y z ⟨b.row.cell 0,b.row.cell 1,b.row.lt,F,rfl,by omega,JT b.lets (by omega),v⟩ (fun e=>Ac b.row b.types (by decide) e.symm) (fun x hx e=>?_) (fun x hx e=>Ak b.names b.types (by decide) x.block (by rw[hx];rfl) e.symm) b.types;by_cases h0:ts.length=0
 ·have I:k<f.heap.size:=b.row.lt;rcases b.lets.2 with⟨hv,_⟩|⟨g,cap,J,hv,_⟩
  ·rw[hx]at hv;cases hv
  ·rw[hx]at hv;cases hv;exact b.apart g (by rw[hx];rfl) e.symm
 ·obtain⟨g,hg,_⟩:=D (by omega);rw[hg]at hx;cases hx;exact b.apart g (by rw[hg];rfl) e.symm
set_option maxRecDepth 100000
set_option maxHeartbeats 1600000
theorem NU {e:Ex}(h:e.cv=Y v):e.con=R:=by rw[Ex.con,h];rfl
theorem NV (R:Rq)(ls:List Vv){e:Ex}(h:e.cv=Y v):H4 R ls e= .ok v:=by
 cases e<;>simp only[Ex.cv]at h<;>first|(cases h;rfl)|cases h
theorem Afp (i op:Int){a:Ex}(h:a.cv=Y v):AP (.un i op a)=match KV op v with| .ok u=>Y u.ex| .err _=>T:=by
 unfold AP;rw[if_neg (by simp[Ex.kids]),if_pos (by simp[Ex.kids,NU h]),H4,NV _ _ h];dsimp only;cases KV op v<;>rfl
theorem WT (i op:Int){a b:Ex}(h:a.cv=Y v)(h':b.cv=Y u):AP (.bin i op a b)=if SE op v then Y v.ex else if op=25\/op=26 then Y u.ex else match Eu op v u with| .ok u=>Y u.ex| .err _=>T:=by
 unfold AP;rw[if_neg (by simp[Ex.kids]),if_pos (by simp[Ex.kids,NU h,NU h']),H4,NV _ _ h,NV _ _ h'];dsimp only;by_cases hd:SE op v=R
 ·rw[if_pos hd,if_pos hd]
 ·rw[if_neg hd,if_neg hd];by_cases c:op=25\/op=26
  ·rw[if_pos c,if_pos c]
  ·rw[if_neg c,if_neg c];cases Eu op v u<;>rfl
theorem AdE (i:Int){a b:Ex}{x:Bool}(hc:c.cv=Y (.bool x))(h:a.cv=Y v)(h':b.cv=Y u):AP (.ite i c a b)=Y (if x then v.ex else u.ex):=by
 unfold AP;rw[if_neg (by simp[Ex.kids]),if_pos (by simp[Ex.kids,NU hc,NU h,NU h']),H4,NV _ _ hc,NV _ _ h,NV _ _ h'];cases x<;>rfl
theorem Pm {e:Ex}{k:K5}(hv:e.cv=Y v)(h:Tq w e k):Tq w v.ex k:=by
 cases e<;>simp only[Ex.cv]at hv<;>first|(cases hv;exact h)|cases hv
theorem Bp {a:List K5}(h:AO w ka a)(h0: 0<a.length):∃g o,ka=Y ⟨g,o,T⟩/\g<w.heap.size/\∀j,(b:j<a.length)->w.cell? ⟨g,o+j*5,T⟩=Y (U V a[j].op)/\w.cell? ⟨g,o+j*5+1,T⟩=Y (U V a[j].num)/\w.cell? ⟨g,o+j*5+2,T⟩=Y (Q a[j].text)/\w.cell? ⟨g,o+j*5+3,T⟩=Y (X a[j].an a[j].nn a[j].cn)/\w.cell? ⟨g,o+j*5+4,T⟩=Y (X a[j].ka a[j].kn a[j].kc):=by
 obtain⟨g,o,rfl,hg,_⟩:=h 0 h0;refine⟨g,o,rfl,hg,fun j b=>?_⟩;obtain⟨c,d,e,_,hc⟩:=h j b;cases e;exact⟨hc 0 (by decide),hc 1 (by decide),hc 2 (by decide),hc 3 (by decide),hc 4 (by decide)⟩
def zK:K5:=⟨0,0,⟨#[]⟩,T,0,0,T,0,0⟩
theorem Abb (op:Int)(E:op=25\/op=26)(i:Int){a b:Ex}{x y:Bool}{c d:K5}{kc:Nat}(h0:Tq w a c)(h1:Tq w b d)(r:a.cv=Y (.bool x))(s:b.cv=Y (.bool y))(C:AO w ka [c,d]):
  Calls jL 100 #[U V op,X ka 2 kc] w (PrA (AP (.bin i op a b)) w):=by
 obtain⟨g,o,rfl,hg,hc⟩:=Bp C (by simp);have F:=AN w Gm;have t:=Pm r h0;have D:=Pm s h1;have j:c.num=if x then 1 else 0:=t.num;obtain⟨v,a1,a2,a3,a4⟩:=hc 0 (by simp);obtain⟨A,b1,b2,b3,b4⟩:=hc 1 (by simp);simp only[z3,yF,zw,Nat.one_mul,ze]at v a1 a2 a3 a4 A b1 b2 b3 b4;have f:∀{p:Nat} {u:jB},w.cell? ⟨g,p,T⟩=Y u->(w.alloc Gm).cell? ⟨g,p,T⟩=Y u:=fun {p u} h=>(F.cell (p:=⟨g,p,T⟩) hg).trans h;replace v:=f v;replace a1:=f a1;replace a2:=f a2;replace a3:=f a3;replace a4:=f a4;replace A:=f A;replace b1:=f b1;replace b2:=f b2;replace b3:=f b3;replace b4:=f b4;have m:=Ab (WT i op r s);have n:=Ab (AN w (CZ c));have q:=Ab (AN w (CZ d));clear f hc C h0 h1 r s;rcases E with rfl|rfl
 ·cases x with
  |false=>
   have k:=Ab (show AP (.bin i 25 a b)=Y (Vv.ex (.bool jA)) by rw[Aa m];rfl);have B:(c.num==0)=R:=by rw[j];rfl
   clear j;go_enter func100,ntmps100
   go_wp2
   exact bodyPost_ret (Ce results100 rfl rfl (Ah.new w #[U V c.op,U V c.num,Q c.text,X c.an c.nn c.cn,X c.ka c.kn c.kc] 101)) rfl (by rw[Aa k];exact⟨⟨c,R,rfl,rfl,fun z l=>by cases l;exact t.below (Aa n) NLN⟩,Aa n⟩)
  |true=>
   have k:=Ab (show AP (.bin i 25 a b)=Y (Vv.ex (.bool y)) by rw[Aa m];rfl);have B:(c.num==0)=jA:=by rw[j];rfl
   clear j;go_enter func100,ntmps100
   go_wp2
   exact bodyPost_ret (Ce results100 rfl rfl (Ah.new w #[U V d.op,U V d.num,Q d.text,X d.an d.nn d.cn,X d.ka d.kn d.kc] 101)) rfl (by rw[Aa k];exact⟨⟨d,R,rfl,rfl,fun z l=>by cases l;exact D.below (Aa q) NLN⟩,Aa q⟩)
 ·cases x with
  |false=>
   have k:=Ab (show AP (.bin i 26 a b)=Y (Vv.ex (.bool y)) by rw[Aa m];rfl);have B:(c.num==1)=jA:=by rw[j];rfl
   clear j;go_enter func100,ntmps100
   go_wp2
   exact bodyPost_ret (Ce results100 rfl rfl (Ah.new w #[U V d.op,U V d.num,Q d.text,X d.an d.nn d.cn,X d.ka d.kn d.kc] 101)) rfl (by rw[Aa k];exact⟨⟨d,R,rfl,rfl,fun z l=>by cases l;exact D.below (Aa q) NLN⟩,Aa q⟩)
  |true=>
   have k:=Ab (show AP (.bin i 26 a b)=Y (Vv.ex (.bool R)) by rw[Aa m];rfl);have B:(c.num==1)=R:=by rw[j];rfl
   clear j;go_enter func100,ntmps100
   go_wp2
   exact bodyPost_ret (Ce results100 rfl rfl (Ah.new w #[U V c.op,U V c.num,Q c.text,X c.an c.nn c.cn,X c.ka c.kn c.kc] 101)) rfl (by rw[Aa k];exact⟨⟨c,R,rfl,rfl,fun z l=>by cases l;exact t.below (Aa n) NLN⟩,Aa n⟩)
theorem WU (i:Int){a b:Ex}{x:Bool}{k f j:K5}{kc:Nat}(h0:Tq w c k)(h1:Tq w a f)(y:Tq w b j)(l:c.cv=Y (.bool x))(m:a.cv=Y v)(n:b.cv=Y u)(A:AO w ka [k,f,j]):
  Calls jL 100 #[U V 27,X ka 3 kc] w (PrA (AP (.ite i c a b)) w):=by
 obtain⟨g,o,rfl,hg,hc⟩:=Bp A (by simp);have F:=AN w Gm;have B:=Pm l h0;have G:=Pm m h1;have H:=Pm n y;have I:k.num=if x then 1 else 0:=B.num;obtain⟨q,a1,a2,a3,a4⟩:=hc 0 (by simp);obtain⟨r,b1,b2,b3,b4⟩:=hc 1 (by simp);obtain⟨s,d1,d2,d3,d4⟩:=hc 2 (by simp);simp only[z3,yF,zw,Nat.one_mul,ze,Nat.reduceMul]at q a1 a2 a3 a4 r b1 b2 b3 b4 s d1 d2 d3 d4;have d:∀{p:Nat} {u:jB},w.cell? ⟨g,p,T⟩=Y u->(w.alloc Gm).cell? ⟨g,p,T⟩=Y u:=fun {p u} h=>(F.cell (p:=⟨g,p,T⟩) hg).trans h;replace q:=d q;replace a1:=d a1;replace a2:=d a2;replace a3:=d a3;replace a4:=d a4;replace r:=d r;replace b1:=d b1;replace b2:=d b2;replace b3:=d b3;replace b4:=d b4;replace s:=d s;replace d1:=d d1;replace d2:=d d2;replace d3:=d d3;replace d4:=d d4;have C:=Ab (AdE i l m n);have D:=Ab (AN w (CZ f));have E:=Ab (AN w (CZ j));clear d hc A h0 h1 y m n l B;rw[I]at a1;cases x with
 |false=>
  go_enter func100,ntmps100
  go_wp2
  exact bodyPost_ret (Ce results100 rfl rfl (Ah.new w #[U V j.op,U V j.num,Q j.text,X j.an j.nn j.cn,X j.ka j.kn j.kc] 101)) rfl (by rw[Aa C];exact⟨⟨j,R,rfl,rfl,fun z t=>by cases t;exact H.below (Aa E) NLN⟩,Aa E⟩)
 |true=>
  go_enter func100,ntmps100
  go_wp2
  exact bodyPost_ret (Ce results100 rfl rfl (Ah.new w #[U V f.op,U V f.num,Q f.text,X f.an f.nn f.cn,X f.ka f.kn f.kc] 101)) rfl (by rw[Aa C];exact⟨⟨f,R,rfl,rfl,fun z t=>by cases t;exact G.below (Aa D) NLN⟩,Aa D⟩)
def evX:Ev->Option Ex
 |.ok v=>Y v.ex
 |.err _=>T
def vC (k:K5):List jB:= [U V 0,U V k.num,Q k.text,X k.an k.nn k.cn]
theorem AgC:(jL.info? 149).map (fun i=>(i.zero,i.size,i.bytes))=Y (Y (jE #[U V 0,U V 0,Q jK,X T 0 0]),4,56):=by kernel_rfl
theorem Fm (k:K5)(w:Z):Calls jL 101 #[jE #[U V k.op,U V k.num,Q k.text,X k.an k.nn k.cn,X k.ka k.kn k.kc]] w fun r w'=>r= .returned (jE #[U V 0,U V k.num,Q k.text,X k.an k.nn k.cn])/\An w w':=by
 have a:=(AN w (CZ k)).alloc (by simp) (jC #[U V 0,U V k.num,Q k.text,X k.an k.nn k.cn] 149);go_enter func101,ntmps101
 go_wp2_with fail
 first
 |(go_ret;exact⟨rfl,a⟩)
 |exact bodyPost_ret (v:= jE #[U V 0,U V k.num,Q k.text,X k.an k.nn k.cn]) (by simp[results,results101,go_sem]) rfl ⟨rfl,a⟩
theorem YG {a:Option jD}{n c:Nat}{ss:List ByteArray}(h:AJ w a n c ss)(f:ZS w a c){F:Nat}{t:TypeId}(R:Ah w F g t)(k:t≠9)(j:Nat)(u:jB):AJ (w.setCell ⟨F,j,T⟩ u) a n c ss:=
 ⟨h.len,h.cap,h.small,h.sizes,fun i hi=>by
  obtain⟨b,l,d,m,hc⟩:=h.cells i hi;obtain⟨p,r⟩:=f.2 _ d;refine⟨b,l,d,by simpa using m,?_⟩;rw[World.cell?_setCell_other _ _ _ _ (fun q=>k (by
   have o:F=b:=congrArg Addr.block q;subst o;have e:=R.out.symm.trans r.out;simp only[Option.some.injEq,Obj.cells.injEq]at e;exact e.2.1))]
  exact hc⟩
theorem IU {a:Z}{m:K5}(E:An w a)(R:Ah a w.heap.size #[U V 0,U V 0,Q ⟨#[]⟩,X T 0 0,X T 0 0] 101)(g:Tq a v.ex m):
  An w (zW (a.alloc (CZ m)) w.heap.size m)/\Ah (zW (a.alloc (CZ m)) w.heap.size m) w.heap.size #[U V m.op,U V m.num,Q m.text,X m.an m.nn m.cn,X m.ka m.kn m.kc] 101/\Tq (zW (a.alloc (CZ m)) w.heap.size m) v.ex m:=by
 have i:=g.below (AN a (CZ m)) NLN;have b:=R.alloc (CZ m);have z:=RH m (E.alloc E.size (CZ m)) b NLN;refine⟨z.1,z.2,?_⟩;have c:∀(j:Nat) (u:jB) (d:Z) (f:Array jB),Ah d w.heap.size f 101->Tq d v.ex m->Tq (d.setCell ⟨w.heap.size,j,T⟩ u) v.ex m:=fun j u d f r h=>by
  cases v<;>exact⟨h.1,h.2.1,h.2.2.1,h.2.2.2.1,YG h.2.2.2.2.1 h.2.2.2.2.2.2 r (by decide) j u,h.2.2.2.2.2.1,h.2.2.2.2.2.2.setCell _ _ _⟩
 have k:=c 0 (U V m.op) _ _ b i;have l:=c 1 (U V m.num) _ _ (b.set 0 _) k;have n:=c 2 (Q m.text) _ _ ((b.set 0 _).set 1 _) l;have o:=c 3 (X m.an m.nn m.cn) _ _ (((b.set 0 _).set 1 _).set 2 _) n;exact c 4 (X m.ka m.kn m.kc) _ _ ((((b.set 0 _).set 1 _).set 2 _).set 3 _) o
theorem YH (w:Z)(n:Int):Tq w (Vv.ex (.int n)) ⟨1,n,⟨#[]⟩,T,0,0,T,0,0⟩:=
 ⟨rfl,rfl,rfl,rfl,⟨rfl,NLN,zE _,fun j h=>absurd h (by simp),fun j h=>absurd h (by simp)⟩,zE _,fun _=>rfl,fun a e=>by cases e⟩
theorem AgD {num:Int}{a:Option jD}{n c:Nat}{ss:List ByteArray}(h:MVs w num nm a n c (.set ss)):Tq w (Vv.ex (.set ss)) ⟨4,0,⟨#[]⟩,a,n,c,T,0,0⟩:=
 ⟨rfl,rfl,rfl,rfl,h.2.2.1,h.2.2.2.1,h.2.2.2.2⟩
theorem RL (op:Int)(a9: 8<=op/\op<=24)(t:List K5)(m:Nat)(hm:t.length=m)(h1: 1<=m)(ba:m<=2){kc:Nat}(al:AO w ka t)(o:Ev)(ao:∀v,o= .ok v->v.ty=if op=8\/op=10\/(11<=op/\op<=15)then 2 else if 16<=op/\op<=18 then 4 else 1)
  (ap:∀y g cap,An w y->y.ownsRow w.heap.size 149 4 (X (Y ⟨g,0,T⟩) m cap) m (t.flatMap vC)->Calls jL 116 #[U V op,X (Y ⟨g,0,T⟩) m cap] y (VE o y)):
  Calls jL 100 #[U V op,X ka m kc] w (PrA (evX o) w):=by
 obtain⟨g,O,rfl,hg,hc⟩:=Bp al (by omega);have ab:=AN w Gm;have ac:=Ah.new w #[U V 0,U V 0,Q ⟨#[]⟩,X T 0 0,X T 0 0] 101;have bb:(op==25)=jA:=zA.2 (by omega);have bc:(op==26)=jA:=zA.2 (by omega);have bd:(op==27)=jA:=zA.2 (by omega);go_enter func100,ntmps100
 go_wp2_with fail
 have aq:w.heap.size<(w.alloc Gm).heap.size:=by simp
 generalize w.alloc Gm=P at ab ac aq|-;obtain⟨aM,aN,aO,aP,aQ⟩:=info_parts AgC;have aR:=Ab hc;have ar:=Ab ap;have au:=Ab ao;clear hc ap al ao;have av:=Ab hm;clear hm;go_loopw [6,50] (fun v i wr=>∃j:Nat,j<=m/\i=U V j/\wr.ownsRow P.heap.size 149 4 v j ((t.take j).flatMap vC)/\An P wr) (fun _ i _=>m-(intOf i).toNat)
 case atStart=>exact⟨0,zE _,rfl,World.ownsRow_nil _ _ _ _,BRN⟩
 case round=>
  obtain⟨j,bf,rfl,C,D⟩:=hrel;have x:=ab.trans (D.mono ab.size);have aS:=D.size;obtain⟨aw,ax,rfl,-⟩:=Ae C;by_cases ad:j<m
  ·have bg:(j:Int)<(m:Int):=by omega
   have ae:j<t.length:=by rw[Aa av];exact ad
   obtain⟨af,a1,a2,a3,a4⟩:=Aa aR j ae;have ay:=Ab (show(t.take (j+1)).flatMap vC=(t.take j).flatMap vC++vC t[j] by rw[zc ae,Z3];simp);generalize t[j]=k at af a1 a2 a3 a4 ay;replace af:=(x.cell (p:=⟨g,O+j*5,T⟩) hg).trans af;replace a1:=(x.cell (p:=⟨g,O+j*5+1,T⟩) hg).trans a1;replace a2:=(x.cell (p:=⟨g,O+j*5+2,T⟩) hg).trans a2;replace a3:=(x.cell (p:=⟨g,O+j*5+3,T⟩) hg).trans a3;replace a4:=(x.cell (p:=⟨g,O+j*5+4,T⟩) hg).trans a4;have az:=Ab ad;clear ad ae;go_wp2_with fail
   refine(Fm k _).mono ?_;rintro r aA ⟨rfl,ag⟩;have ah:=(D.alloc aS (CZ k)).trans (ag.mono (by simp;omega));have ai:=Af (World.ownsRow.alloc C (CZ k)) ag NLN;have aB:=World.ownsRow.alloc ai (jC #[U V 0,U V k.num,Q k.text,X k.an k.nn k.cn] 149);have aC:=World.news_of_block (heap_alloc_new aA (jC #[U V 0,U V k.num,Q k.text,X k.an k.nn k.cn] 149));have aT:=ah.size;clear C D ag;dsimp only;go_wp2_with (at_builtin;refine wpList_append_lies _ rfl _ _ 169 rfl P.heap.size 149 aM (jE #[U V 0,U V 0,Q jK,X T 0 0]) 4 56 underlying169 aN aO aP aQ rfl (by decide) (X aw j ax) j _ rfl aB ⟨aA.heap.size,0,T⟩ 1 1 (vC k) rfl rfl aC (by intro u hu;simp[vC]at hu;rcases hu with rfl|rfl|rfl|rfl<;>rfl) (by decide) (by unfold maxLen;omega) (by omega) (by simp;omega) _ rfl ?_)
   intro g7 c7 aU aD aE hat aV;have aW:=(ah.alloc aT (jC #[U V 0,U V k.num,Q k.text,X k.an k.nn k.cn] 149)).grown aE (by simp;omega) (fun q aX=>(ai.lt q aX).1);have aY:=Ab (show aU.ownsRow P.heap.size 149 4 (X (Y ⟨g7,0,T⟩) (j+1) c7) (j+1) ((t.take (j+1)).flatMap vC) by rw[Aa ay];exact aD);clear aD aE hat aV aB aC ai ah;go_wp2
   go_roundw
   case rel=>exact⟨j+1,Aa az,by go_num,Aa aY,aW⟩
   case measure=>have:=Aa az;simp[intOf];omega
  ·have e:j=m:=by omega
   have bh: ¬ ((j:Int)<(m:Int)):=by omega
   obtain⟨S,aZ⟩:∃S,aw=Y ⟨S,0,T⟩:=by
    rcases C.2 with⟨hv,h0⟩|⟨S,cap,bi,hv,_⟩
    ·omega
    ·simp only[Value.slice.injEq]at hv;exact⟨S,hv.1⟩
   subst aZ;subst e;have aj:=Aj C (show w.heap.size<=P.heap.size by omega);rw[zf (by rw[Aa av];exact NLN)]at aj;have aF:=Ab (Aa ar wr S ax x aj);have aG:=ac.below D aq;clear C aj ar;go_wp2_with fail
   refine(Aa aF).mono ?_;rintro r a0 ⟨⟨W,num,text,l,n,s,rfl,aH⟩,ak⟩;have E:=x.trans (ak.mono x.size);have F:=aG.after ak NLN;clear x D ak aG aF ac ab;dsimp only;cases o with
   |err c=>
    obtain⟨rfl,aI⟩:=aH;have bj:(W !=0)=R:=zp.2 aI;have a:=Ab (RH zK (E.alloc E.size (jC #[U V W,U V num,Q text,X l n s] 149)) (F.alloc (jC #[U V W,U V num,Q text,X l n s] 149)) NLN);obtain⟨G,H,I,J,K,-⟩:=Aq (F.alloc (jC #[U V W,U V num,Q text,X l n s] 149));obtain⟨L,f1,f2,M,N⟩:=Fl (F.alloc (jC #[U V W,U V num,Q text,X l n s] 149));clear E F aI;go_wp2
    exact bodyPost_ret (Ce results100 rfl rfl (Aa a).2) rfl ⟨⟨zK,jA,rfl,rfl,fun z f=>by cases f⟩,(Aa a).1⟩
   |ok v=>
    obtain⟨rfl,hv⟩:=aH;have A:=Aa au v rfl;have aa:=Ab hv;have B:=Ab (hv.below (AN a0 (jC #[U V 0,U V num,Q text,X l n s] 149)) NLN);have h:=E.alloc E.size (jC #[U V 0,U V num,Q text,X l n s] 149);have d:=F.alloc (jC #[U V 0,U V num,Q text,X l n s] 149);clear hv au E F;by_cases c1:op=8\/op=10\/(11<=op/\op<=15)
    ·rw[if_pos c1]at A;obtain⟨nn,rfl⟩:=Vv.int_of A;obtain⟨⟨bk,-⟩,rfl,rfl,rfl,rfl⟩:=Aa aa;subst num;clear aa;rcases c1 with rfl|rfl|⟨l1,aJ⟩
     ·skip;have a:=Ab (IU (m:=⟨1,nn,⟨#[]⟩,T,0,0,T,0,0⟩) h d (YH _ nn));obtain⟨G,H,I,J,K,-⟩:=Aq (d.alloc (jC #[U V 1,U V nn,Q ⟨#[]⟩,X T 0 0,X T 0 0] 101));obtain⟨L,f1,f2,M,N⟩:=Fl (d.alloc (jC #[U V 1,U V nn,Q ⟨#[]⟩,X T 0 0,X T 0 0] 101));clear h d B;go_wp2
      exact bodyPost_ret (Ce results100 rfl rfl (Aa a).2.1) rfl ⟨⟨⟨1,nn,⟨#[]⟩,T,0,0,T,0,0⟩,R,rfl,rfl,fun z f=>by cases f;exact(Aa a).2.2⟩,(Aa a).1⟩
     ·skip;have a:=Ab (IU (m:=⟨1,nn,⟨#[]⟩,T,0,0,T,0,0⟩) h d (YH _ nn));obtain⟨G,H,I,J,K,-⟩:=Aq (d.alloc (jC #[U V 1,U V nn,Q ⟨#[]⟩,X T 0 0,X T 0 0] 101));obtain⟨L,f1,f2,M,N⟩:=Fl (d.alloc (jC #[U V 1,U V nn,Q ⟨#[]⟩,X T 0 0,X T 0 0] 101));clear h d B;go_wp2
      exact bodyPost_ret (Ce results100 rfl rfl (Aa a).2.1) rfl ⟨⟨⟨1,nn,⟨#[]⟩,T,0,0,T,0,0⟩,R,rfl,rfl,fun z f=>by cases f;exact(Aa a).2.2⟩,(Aa a).1⟩
     ·have a5:(op==8)=jA:=zA.2 (by omega);have a6:(op==10)=jA:=zA.2 (by omega);have a:=Ab (IU (m:=⟨1,nn,⟨#[]⟩,T,0,0,T,0,0⟩) h d (YH _ nn));obtain⟨G,H,I,J,K,-⟩:=Aq (d.alloc (jC #[U V 1,U V nn,Q ⟨#[]⟩,X T 0 0,X T 0 0] 101));obtain⟨L,f1,f2,M,N⟩:=Fl (d.alloc (jC #[U V 1,U V nn,Q ⟨#[]⟩,X T 0 0,X T 0 0] 101));clear h d B;go_wp2
      exact bodyPost_ret (Ce results100 rfl rfl (Aa a).2.1) rfl ⟨⟨⟨1,nn,⟨#[]⟩,T,0,0,T,0,0⟩,R,rfl,rfl,fun z f=>by cases f;exact(Aa a).2.2⟩,(Aa a).1⟩
    ·rw[if_neg c1]at A;have a5:(op==8)=jA:=zA.2 (by omega);have a6:(op==10)=jA:=zA.2 (by omega);by_cases c2: 16<=op/\op<=18
     ·rw[if_pos c2]at A;obtain⟨ss,rfl⟩:=Vv.set_of A;obtain⟨rfl,rfl,-⟩:=Aa aa;have l1: 11<=op:=by omega
      have aJ: ¬ op<=15:=by omega
      obtain⟨a7,a8⟩:=c2;have a:=Ab (IU (m:=⟨4,0,⟨#[]⟩,l,n,s,T,0,0⟩) h d (AgD (Aa B)));obtain⟨G,H,I,J,K,-⟩:=Aq (d.alloc (jC #[U V 4,U V 0,Q ⟨#[]⟩,X l n s,X T 0 0] 101));obtain⟨L,f1,f2,M,N⟩:=Fl (d.alloc (jC #[U V 4,U V 0,Q ⟨#[]⟩,X l n s,X T 0 0] 101));clear h d B;go_wp2
      exact bodyPost_ret (Ce results100 rfl rfl (Aa a).2.1) rfl ⟨⟨⟨4,0,⟨#[]⟩,l,n,s,T,0,0⟩,R,rfl,rfl,fun z f=>by cases f;exact(Aa a).2.2⟩,(Aa a).1⟩
     ·rw[if_neg c2]at A;obtain⟨b,rfl⟩:=Vv.bool_of A;obtain⟨aK,rfl,rfl,rfl,rfl⟩:=Aa aa;have aL:=Ab (show ∀y,Tq y (Vv.ex (.bool b)) ⟨3,num,⟨#[]⟩,T,0,0,T,0,0⟩from fun y=>by rw[aK];exact ZT y b);clear aa aK;rcases Int.lt_or_le op 11 with l1|l1
      ·have e:op=9:=by omega
       subst e;have a:=Ab (IU (v:= .bool b) (m:=⟨3,num,⟨#[]⟩,T,0,0,T,0,0⟩) h d (Aa aL _));obtain⟨G,H,I,J,K,-⟩:=Aq (d.alloc (jC #[U V 3,U V num,Q ⟨#[]⟩,X T 0 0,X T 0 0] 101));obtain⟨L,f1,f2,M,N⟩:=Fl (d.alloc (jC #[U V 3,U V num,Q ⟨#[]⟩,X T 0 0,X T 0 0] 101));clear h d B;go_wp2
       exact bodyPost_ret (Ce results100 rfl rfl (Aa a).2.1) rfl ⟨⟨⟨3,num,⟨#[]⟩,T,0,0,T,0,0⟩,R,rfl,rfl,fun z f=>by cases f;exact(Aa a).2.2⟩,(Aa a).1⟩
      ·have aJ: ¬ op<=15:=by omega
       have a7: 16<=op:=by omega
       have a8: ¬ op<=18:=by omega
       have a:=Ab (IU (v:= .bool b) (m:=⟨3,num,⟨#[]⟩,T,0,0,T,0,0⟩) h d (Aa aL _));obtain⟨G,H,I,J,K,-⟩:=Aq (d.alloc (jC #[U V 3,U V num,Q ⟨#[]⟩,X T 0 0,X T 0 0] 101));obtain⟨L,f1,f2,M,N⟩:=Fl (d.alloc (jC #[U V 3,U V num,Q ⟨#[]⟩,X T 0 0,X T 0 0] 101));clear h d B;go_wp2
       exact bodyPost_ret (Ce results100 rfl rfl (Aa a).2.1) rfl ⟨⟨⟨3,num,⟨#[]⟩,T,0,0,T,0,0⟩,R,rfl,rfl,fun z f=>by cases f;exact(Aa a).2.2⟩,(Aa a).1⟩
section
open Go.RowKit Go.Lib
theorem Wr.alloc {w:Z}{g:Nat}{h0 h1 a:Int}{v:jB}{O:List Int}(h:Wr w g h0 h1 a v O)(o:Obj):Wr (w.alloc o) g h0 h1 a v O:=⟨h.row.alloc o,h.own.alloc o⟩
theorem WK.from {g:Nat}{v v':jB}{o:Obj}(h:WK g (w.alloc o) v w' v'):WK g w v w' v':=
 ⟨fun k hk hg a=>(h.1 k (by simp;omega) hg a).trans (Below.heap_alloc w o k hk),fun q b=>by
  rcases h.2.1 q b with e|e
  ·exact .inl e
  ·right;simp at e;omega,by have:=h.2.2;simp at this;omega⟩
theorem AaP (g:Nat)(h0 h1 a:Int)(v:jB)(O:List Int)(x:Vl)(an:Option jD)(nn cn:Nat)(w:Z)(F:Wr w g h0 h1 a v O)(ar:O.length<=90000000)(hx:CH x=R)(w0:Z)(C:AJ w0 an nn cn x.names)(ad:w0.heap.size<=g)(ae:An w0 w)(hs:x.text.size<=1048576):
  Calls jL 35 #[jH (Y ⟨g,0,T⟩),jE #[U V x.kind,U V x.num,Q x.text,X an nn cn]] w fun e w'=>VI w g h0 h1 a v (O++Cw x) e w':=by
 have u:=F.alloc (jC #[U V x.kind,U V x.num,Q x.text,X an nn cn] 44);have r:=Ah.new w #[U V x.kind,U V x.num,Q x.text,X an nn cn] 44;have au:=F.row.lt;have t:v.ownBlock≠Y w.heap.size:=fun e=>by have:=(F.own.lt _ e).2;omega
 have z:=(Below.refl g w).alloc (by omega) (jC #[U V x.kind,U V x.num,Q x.text,X an nn cn] 44);have af:=Ab hx;have D:=Ab (show Cw x=BS x.kind 1++(if x.kind=1 then BS x.num 1 else if x.kind=2 then BS x.num 8 else if x.kind=3 then Bn x.text else if x.kind=4 then BS x.names.length 1++x.names.flatMap Bn else [])from rfl);have ag:(O++BS x.kind 1).length<=90000001:=by rw[zB,AZ];omega
 obtain⟨d,f⟩:∃d,Hid (O++BS x.kind 1=d):=⟨_,Ab rfl⟩
 rw[Aa f]at ag;rcases IE hx with hk|hk|hk|hk
 ·have o:=Ab (show O++Cw x=d++BS x.num 1 by rw[Aa D,if_pos hk,<-zJ,Aa f]);have e1:(x.kind==1)=R:=zF.2 hk;clear hx hk;go_enter func35,ntmps35
  go_wp2_with (first
   |(go_at_call 36;refine(Cy g h0 h1 a p d _ 1 _ c (by omega) (by omega)).mono ?_;rintro e G ⟨rfl,q,j,h,l⟩)
   |(go_at_call 36;refine(Cy g h0 h1 a v O _ 1 _ u (by omega) (by omega)).mono ?_;rintro e w2 ⟨rfl,p,c,K2,m⟩;rw[Aa f]at c;obtain⟨H,I,J,K⟩:=AC (r.wk K2 (by omega) t)))
  exact bodyPost_end (by simp[results,results35,go_sem]) rfl ⟨rfl,q,by rw[Aa o];exact j,(K2.trans h).from,z.trans (m.trans l)⟩
 ·have o:=Ab (show O++Cw x=d++BS x.num 8 by rw[Aa D,if_neg (by omega),if_pos hk,<-zJ,Aa f]);have e1:(x.kind==1)=jA:=zA.2 (by omega);have e2:(x.kind==2)=R:=zF.2 hk;clear hx hk;go_enter func35,ntmps35
  go_wp2_with (first
   |(go_at_call 36;refine(Cy g h0 h1 a p d _ 8 _ c (by omega) (by omega)).mono ?_;rintro e G ⟨rfl,q,j,h,l⟩)
   |(go_at_call 36;refine(Cy g h0 h1 a v O _ 1 _ u (by omega) (by omega)).mono ?_;rintro e w2 ⟨rfl,p,c,K2,m⟩;rw[Aa f]at c;obtain⟨H,I,J,K⟩:=AC (r.wk K2 (by omega) t)))
  exact bodyPost_end (by simp[results,results35,go_sem]) rfl ⟨rfl,q,by rw[Aa o];exact j,(K2.trans h).from,z.trans (m.trans l)⟩
 ·have o:=Ab (show O++Cw x=d++Bn x.text by rw[Aa D,if_neg (by omega),if_neg (by omega),if_pos hk,<-zJ,Aa f]);have e1:(x.kind==1)=jA:=zA.2 (by omega);have e2:(x.kind==2)=jA:=zA.2 (by omega);have e3:(x.kind==3)=R:=zF.2 hk;clear hx hk;go_enter func35,ntmps35
  go_wp2_with (first
   |(go_at_call 59;refine(V5 g h0 h1 a p d _ _ c (by omega) hs).mono ?_;rintro e G ⟨rfl,q,j,h,l⟩)
   |(go_at_call 36;refine(Cy g h0 h1 a v O _ 1 _ u (by omega) (by omega)).mono ?_;rintro e w2 ⟨rfl,p,c,K2,m⟩;rw[Aa f]at c;obtain⟨H,I,J,K⟩:=AC (r.wk K2 (by omega) t)))
  exact bodyPost_end (by simp[results,results35,go_sem]) rfl ⟨rfl,q,by rw[Aa o];exact j,(K2.trans h).from,z.trans (m.trans l)⟩
 ·have o:=Ab (show O++Cw x=d++(BS x.names.length 1++x.names.flatMap Bn) by rw[Aa D,if_neg (by omega),if_neg (by omega),if_neg (by omega),if_pos hk,<-zJ,Aa f]);have e1:(x.kind==1)=jA:=zA.2 (by omega);have e2:(x.kind==2)=jA:=zA.2 (by omega);have e3:(x.kind==3)=jA:=zA.2 (by omega);have e4:(x.kind==4)=R:=zF.2 hk;clear hx hk;go_enter func35,ntmps35
  go_wp2_with (first
   |(go_at_call 36;refine(Cy g h0 h1 a p d _ 1 _ c (by omega) (by omega)).mono ?_;rintro e G ⟨rfl,q,j,h,l⟩;obtain⟨av,aw,ax,ay⟩:=AC ((r.wk K2 (by omega) t).wk h (by omega) (fun e=>by rcases K2.2.1 _ e with y|y;exact t y;simp at y;omega)))
   |(go_at_call 36;refine(Cy g h0 h1 a v O _ 1 _ u (by omega) (by omega)).mono ?_;rintro e w2 ⟨rfl,p,c,K2,m⟩;rw[Aa f]at c;obtain⟨H,I,J,K⟩:=AC (r.wk K2 (by omega) t)))
  have ah:=(K2.trans h).from;have ai:=z.trans (m.trans l);obtain⟨A,L⟩:∃A,Hid (d++BS (nn:Int) 1=A):=⟨_,Ab rfl⟩
  have az:A.length<=90000002:=by rw[<-Aa L,zB,AZ];omega
  rw[Aa L]at j;have B:=Ab (show A++(x.names.drop 0).flatMap Bn=O++Cw x by rw[Aa o,List.drop_zero,<-Aa L,zJ,C.len]);have P:=Ab (Gz (show AR x.names=R by have:=Aa af;unfold CH at this;simp[beq_iff_eq.1 e4]at this;exact this.1.1));have S:=Ab C.len;have aA:nn<=64:=by rw[C.len];exact(Aa P).1
  clear K2 h m l u r c z;go_loopw [40] (fun i wr=>∃ (k:Nat) (v':jB) (n:List Int),k<=nn/\i=U V k/\Hid (n++(x.names.drop k).flatMap Bn=O++Cw x)/\n.length<=90000002+33*k/\Wr wr g h0 h1 a v' n/\WK g w v wr v'/\Below g w wr) (fun i _=>nn-(intOf i).toNat)
  case atStart=>exact⟨0,q,A,zE _,rfl,B,by omega,j,ah,ai⟩
  case round=>
   obtain⟨k,v',n,hk,rfl,B,aB,W,aa,M⟩:=hrel;by_cases N:k<nn
   ·have aC:(k:Int)<(nn:Int):=by omega
    have E:k<x.names.length:=by rw[<-Aa S];exact N
    obtain⟨b,aD,rfl,_,hc⟩:=(C.below (ae.trans (M.mono ad)) NLN).cells k N;have aj:=(Aa P).2 (Ck x.names k) (by rw[BM _ _ E];exact zH E);have ab:=Ab (show(n++Bn (Ck x.names k))++(x.names.drop (k+1)).flatMap Bn=O++Cw x by
     rw[<-Aa B,Z4 E,zm,BM _ _ E,zJ])
    have ac:=Ab N;clear B;generalize Ck x.names k=s at hc aj ab;have ak:(n++Bn s).length<=90000002+33*(k+1):=by rw[zB,Bn,zB,AZ,IB];omega
    go_wp2_with (go_at_call 59;refine(V5 g h0 h1 a v' n s _ W (by omega) (by omega)).mono ?_;rintro e aE ⟨rfl,al,ao,K5,ap⟩)
    go_roundw
    case rel=>exact⟨k+1,al,_,Aa ac,by go_num,ab,ak,ao,aa.trans K5,M.trans ap⟩
    case measure=>have:=Aa ac;simp[intOf];omega
   ·have e:k=nn:=by omega
    subst e;have aq:=Ab (show n=O++Cw x by
     have:=Aa B;rw[yG (by rw[<-Aa S];exact NLN)]at this;simpa using this)
    go_wp2_with fail
    exact bodyPost_end (by simp[results,results35,go_sem]) rfl ⟨rfl,v',by rw[<-Aa aq];exact W,aa,M⟩
end
theorem XQ:(jL.info? 44).map (fun i=>(i.zero,i.size,i.bytes))=Y (Y (jE #[U V 0,U V 0,Q jK,X T 0 0]),4,56):=by kernel_rfl
theorem Ah.ne_type {k:Nat}{a c:Array jB}{t T:TypeId}(R:Ah w k a t)(Q:Ah w b c T)(h:t≠T):k≠b:=fun e=>by
 subst e;have:=R.out.symm.trans Q.out;simp at this;exact h this.2
set_option maxHeartbeats 800000
theorem MC {n c:Nat}{a:Option jD}{L:List Int}(h:KQ w B a n c L):(convert 22 9 (X a n c)).run jL w= .ok (Q (Fr L)) w:=by
 have f:=h.len;cases a with
 |none=>
  cases L with
  |nil=>
   have:=run_convert_bytes_nil (P:=jL) w 22 5 underlying22 underlying5 n c 9 underlying9;rw[this];rfl
  |cons x L=>
   obtain⟨b,g,d,_⟩:=h.cells 0 (by simp);cases d
 |some k=>
  cases L with
  |nil=>
   have d:n=0:=by simpa using f.symm
   subst d;rw[run_convert_bytes_string _ _ _ _ _ _ _ underlying22 underlying5 underlying9,run_bytesToString _ _ _ _ [] (by simp[loadCells,loadCellsFrom,go_sem])]
   rfl
  |cons x L=>
   obtain⟨b,g,d,_⟩:=h.cells 0 (by simp);cases d;refine run_convert_bytes_arg (P:=jL) w 22 5 underlying22 underlying5 b g n c (x ::L) f (fun i hi=>?_) 9 underlying9;obtain⟨l,m,j,_,_,hc⟩:=h.cells i (by omega);cases j;rw[hc];rw[List.getD,zL (show i<(x ::L).length by omega)];rfl
theorem QS (L:List Int)(ok:AB L)(h:L.length<=1): 0<=CL L/\CL L<256:=by
 match L,h with
 |[],_=>exact⟨by decide,by decide⟩
 |[x],_=>
  have:=ok x (zS ..);rw[QQ x this.1 this.2];exact this
theorem Pb (L:List Int)(ok:AB L)(h:L.length<=2): 0<=CL L/\CL L<65536:=by
 match L,h with
 |[],_=>exact⟨by decide,by decide⟩
 |[x],_=>
  have:=ok x (zS ..);rw[QQ x this.1 this.2];omega
 |[x,y],_=>
  have a:=ok x (zS ..);have b:=ok y (za _ (zS ..));rw[Wj x y a b];omega
theorem NK (k:Nat)(s:AI):(Be k s).1.length<=k:=by
 unfold Be;split<;>simp;omega
theorem BG (k:Nat)(s:AI)(h:AB s.1):AB (Be k s).1/\AB (Be k s).2.1:=by
 unfold Be;split
 ·exact⟨(fun x hx=>by cases hx),h⟩
 ·exact⟨h.take k,h.drop k⟩
theorem Fz (s:AI)(h:AB s.1): 0<=(AG 1 s).1/\(AG 1 s).1<256:=QS _ (BG 1 s h).1 (NK 1 s)
theorem FC (s:AI)(h:AB s.1): 0<=(AG 2 s).1/\(AG 2 s).1<65536:=Pb _ (BG 2 s h).1 (NK 2 s)
theorem EN.ok {w:Z}{g:Nat}{h0 h1 b:Int}{s:AI}(h:EN w g h0 h1 b s):AB s.1:=by
 obtain⟨a,n,c,R⟩:=h;exact R.bys.ok
theorem AaS (g:Nat)(h0 h1 a:Int)(s:AI)(x:Int)(w:Z)(h:EN w g h0 h1 a s)(hx: 0<=x)(hk:x<=65535):
  Calls jL 39 #[jH (Y ⟨g,0,T⟩),U V x] w fun e w'=>AfV w g h0 h1 a (Be x.toNat s) e w':=by
 obtain⟨k,rfl⟩:=Z5 hx;exact QR g h0 h1 a s k w h (by omega)
theorem J6 (g:Nat)(h0 h1 a:Int)(s:AI)(w:Z)(h:EN w g h0 h1 a s):
  Calls jL 42 #[jH (Y ⟨g,0,T⟩),U V 1] w fun e w'=>Wk w g h0 h1 a (AG 1 s) e w':=J4 g h0 h1 a s 1 w h (by omega)
theorem AcS (g:Nat)(h0 h1 a:Int)(s:AI)(w:Z)(h:EN w g h0 h1 a s):
  Calls jL 42 #[jH (Y ⟨g,0,T⟩),U V 2] w fun e w'=>Wk w g h0 h1 a (AG 2 s) e w':=J4 g h0 h1 a s 2 w h (by omega)
theorem AcT (g:Nat)(h0 h1 a:Int)(s:AI)(w:Z)(h:EN w g h0 h1 a s):
  Calls jL 42 #[jH (Y ⟨g,0,T⟩),U V 8] w fun e w'=>Wk w g h0 h1 a (AG 8 s) e w':=J4 g h0 h1 a s 8 w h (by omega)
theorem Jj (g:Nat)(h0 h1 a:Int)(s:AI)(w:Z)(h:EN w g h0 h1 a s):
  Calls jL 40 #[jH (Y ⟨g,0,T⟩)] w fun e w'=>Wk w g h0 h1 a (AG 2 s) e w':=by
 have c:=Ab (AcS g h0 h1 a s w h);have b:=FC s h.ok;have d:=b.1;have f:=b.2;generalize AG 2 s=r at c d f;clear b;go_enter func40,ntmps40
 go_wp2_with (go_at_call 42;refine(Aa c).mono ?_;rintro e k ⟨rfl,i,j⟩)
 go_ret
 exact⟨rfl,i,j⟩
def Ahn (w:Z) (g:Nat) (h0 h1 h2:Int) (r:ByteArray×AI) (e:Ending) (w':Z):Prop:=e= .returned (Q r.1)/\EN w' g h0 h1 h2 r.2/\Al g (g+1) w w'
theorem TC (g:Nat)(h0 h1 b:Int)(s:AI)(w:Z)(h:EN w g h0 h1 b s):
  Calls jL 62 #[jH (Y ⟨g,0,T⟩)] w fun e w'=>Ahn w g h0 h1 b (DF s) e w':=by
 have f:=Ab (J6 g h0 h1 b s w h);have d:=Fz s h.ok;have i:=d.1;have j:=d.2;have l:=Ab (show DF s=(Fr (Be (AG 1 s).1.toNat (AG 1 s).2).1,(Be (AG 1 s).1.toNat (AG 1 s).2).2)from rfl);generalize AG 1 s=r at f l i j;obtain⟨k,s1⟩:=r;simp only at i j;clear d h;go_enter func62,ntmps62
 go_wp2_with (first
  |(go_at_call 42;refine(Aa f).mono ?_;rintro e o ⟨rfl,m,p⟩;simp only at m)
  |(go_at_call 39;refine(AaS g h0 h1 b s1 k o m (by omega) (by omega)).mono ?_;rintro e w2 ⟨a,n,c,rfl,q,t,u⟩;have v:=MC q))
 go_ret
 rw[Aa l];exact⟨rfl,t,p.trans u⟩
set_option maxRecDepth 100000
set_option maxHeartbeats 1600000
def AcU:jB->Nat|X _ n _=>n|_=>0
theorem KQ.blocks {n c:Nat}{a:Option jD}{L:List Int}(h:KQ w B a n c L)(g:∀k,k<B->k<w.heap.size->w'.heap[k]? =w.heap[k]?)(hs:w.heap.size<=w'.heap.size):KQ w' B a n c L:=
 ⟨h.len,h.cap,h.small,h.ok,fun j i=>by
  obtain⟨b,l,m,d,f,hc⟩:=h.cells j i;exact⟨b,l,m,d,zR f hs,(World.cell?_of_block (g b d f)).trans hc⟩⟩
theorem EN.blocks {w w':Z}{g:Nat}{h0 h1 b:Int}{s:AI}(h:EN w g h0 h1 b s)(d:∀k,k<=g->w'.heap[k]? =w.heap[k]?)(hs:w.heap.size<=w'.heap.size):EN w' g h0 h1 b s:=by
 obtain⟨a,n,c,R,f⟩:=h;exact⟨a,n,c,⟨(d g NLN).trans R.out⟩,f.blocks (fun k hk _=>d k (Nat.le_of_lt hk)) hs⟩
theorem EN.lt {w:Z}{g:Nat}{h0 h1 b:Int}{s:AI}(h:EN w g h0 h1 b s):g<w.heap.size:=by
 obtain⟨a,n,c,R,d⟩:=h;exact R.lt
theorem EN.grown {g:Nat}{h0 a:Int}{row:Option Nat}(h:EN w g h0 i a s)(hg:w.grownBy w' row)(b:∀k,row=Y k->g<k):EN w' g h0 i a s:=
 h.blocks (fun k hk=>hg.block k (Nat.lt_of_le_of_lt hk h.lt) (fun e=>by have:=b k e.symm;omega)) hg.size
theorem EN.alloc {w:Z}{g:Nat}{h0 h1 a:Int}{s:AI}(h:EN w g h0 h1 a s)(o:Obj):EN (w.alloc o) g h0 h1 a s:=
 h.blocks (fun k hk=>Below.heap_alloc w o k (Nat.lt_of_le_of_lt hk h.lt)) (by simp)
theorem EN.setFar {g:Nat}{h0 a:Int}(h:EN w g h0 i a s)(p:jD)(u:jB)(hp:g<p.block):EN (w.setCell p u) g h0 i a s:=
 h.blocks (fun k hk=>heap_setCell_other w p k u (by omega)) (by simp)
theorem FE {lo hi base:Nat}{e:TypeId}{size n:Nat}{v:jB}{a:List jB}(h:w.ownsRow base e size v n a)(T:Al lo hi w w')(hd:∀q,v.ownBlock=Y q->q<lo\/hi<=q):w'.ownsRow base e size v n a:=by
 refine⟨h.1,?_⟩;rcases h.2 with b|⟨g,cap,c,hv,d,hg,f⟩
 ·exact .inl b
 ·refine .inr ⟨g,cap,c,hv,d,?_,f⟩;rw[<-hg];refine T.block g (Array.getElem?_eq_some_iff.1 hg).1 (hd g ?_);rw[hv];rfl
theorem GN {a:Type}(f:AI->a×AI)(k:Nat)(s:AI)(h:s.2=R):Av f k s=([],s):=by
 cases k with
 |zero=>rfl
 |succ k=>rw[Av,if_pos h]
theorem GP {a:Type}(f:AI->a×AI)(k:Nat)(s:AI)(h:s.2=jA)(b:List a):(b++(Av f (k+1) s).1,(Av f (k+1) s).2)=((b++[(f s).1])++(Av f k (f s).2).1,(Av f k (f s).2).2):=by
 rw[Av,if_neg (by rw[h];decide)];simp
theorem QT (s:AI)(h:AB s.1):(DF s).1.size<=255/\AB (DF s).2.1:=by
 have h1:=Fz s h;have b:=NK (AG 1 s).1.toNat (AG 1 s).2;have a:=BG (AG 1 s).1.toNat (AG 1 s).2 (BG 1 s h).2;refine⟨?_,a.2⟩;show(Fr (Be (AG 1 s).1.toNat (AG 1 s).2).1).size<=255;rw[NJ];omega
def Aho (w:Z) (g:Nat) (h0 h1 h2:Int) (r:List ByteArray×AI) (e:Ending) (w':Z):Prop:=∃a c,e= .returned (X a r.1.length c)/\w'.ownsRow w.heap.size 9 1 (X a r.1.length c) r.1.length (r.1.map Value.string)/\EN w' g h0 h1 h2 r.2/\Al g (g+1) w w'
def NM:AI->List ByteArray×AI:=Bl (AG 1) fun n=>Av DF n.toNat
theorem AaT (g:Nat)(h0 h1 j:Int)(s:AI)(w:Z)(h:EN w g h0 h1 j s):
  Calls jL 63 #[jH (Y ⟨g,0,T⟩)] w fun e w'=>Aho w g h0 h1 j (NM s) e w':=by
 obtain⟨i,hi,P,S,W⟩:=info_parts JH;have hg:=h.lt;have E:=Ab (J6 g h0 h1 j s w h);have z:=Fz s h.ok;have p:=z.1;have A:=z.2;have l:=Ab (show NM s=Av DF (AG 1 s).1.toNat (AG 1 s).2 from rfl);generalize AG 1 s=r at E l p A;obtain⟨k,s1⟩:=r;simp only at p A;obtain⟨K,rfl⟩:=Z5 p;have l:=Ab (show NM s=Av DF K s1 from Aa l);have ak:K<=255:=by omega
 clear z h p A;go_enter func63,ntmps63
 go_wp2_with (go_at_call 42;refine(Aa E).mono ?_;rintro e al ⟨rfl,F,aa⟩;simp only at F)
 go_loopw [3] (fun v wr=>∃ (x:Option jD) (cx:Nat) (a:List ByteArray) (st:AI) (k:Nat),v=X x a.length cx/\wr.ownsRow w.heap.size 9 1 (X x a.length cx) a.length (a.map Value.string)/\a.length+k=K/\EN wr g h0 h1 j st/\Hid ((a++(Av DF k st).1,(Av DF k st).2)=Av DF K s1)/\Al g (g+1) w wr) (fun v _=>K-AcU v)
 case atStart=>exact⟨T,0,[],s1,K,rfl,World.ownsRow_nil _ _ _ _,by simp,F,Ab (by simp),aa⟩
 case round=>
  obtain⟨x,cx,a,⟨st,ab⟩,k,rfl,m,hk,f,t,n⟩:=hrel;have ao:=n.size;obtain⟨a1,n1,c1,G,ac⟩:=id f;obtain⟨ap,aq,ar,au,ad⟩:=DM G;simp only at ad;clear G ac;cases k with
  |zero=>
   have ae: ¬ ((a.length:Int)<(K:Int)):=by omega
   have b:=Aa t;rw[Av,zd]at b;have c:=Ab b;clear b;go_wp2
   go_ret
   rw[Aa l,<-Aa c];exact⟨x,cx,rfl,m,f,n⟩
  |succ k=>
   have ae:(a.length:Int)<(K:Int):=by omega
   cases ab with
   |true=>
    have b:=Aa t;rw[GN _ _ _ rfl,zd]at b;have c:=Ab b;clear b;go_wp2
    go_ret
    rw[Aa l,<-Aa c];exact⟨x,cx,rfl,m,f,n⟩
   |false=>
    have b:=Aa t;rw[GP _ _ _ rfl]at b;have c:=Ab b;clear b t;have H:=QT (st,jA) f.ok;have I:=Ab (TC g h0 h1 j (st,jA) wr f);generalize DF (st,jA)=r at c I H;obtain⟨d,s2⟩:=r;simp only at c H;have J:=Ab hk;have av:a.length<=255:=by omega
    clear hk;have B:∀q,(Value.slice x a.length cx).ownBlock=Y q->w.heap.size<=q:=fun q o=>(m.lt q o).1;go_wp2_with (first
     |(go_at_call 62;refine(Aa I).mono ?_;rintro e w2 ⟨rfl,C,y⟩;simp only at C;have L:=FE m y (fun q o=> .inr (by have:=B q o;omega));have M:=n.trans y;have aw:=y.size)
     |(at_builtin;refine wpList_append_lies _ rfl _ _ 42 rfl w.heap.size 9 i (Q jK) 1 16 underlying42 hi P S W rfl (by decide) (X x a.length cx) a.length (a.map Value.string) rfl (World.ownsRow.alloc L _) ⟨w2.heap.size,0,T⟩ 1 1 [Q d] rfl rfl ?a1 ?a2 (by decide) ?a3 ?a4 ?a5 _ rfl ?_))
    case a1=>exact World.news_of_block (heap_alloc_new w2 _)
    case a2=>intro u hu;simp at hu;subst hu;rfl
    case a3=>unfold maxLen;omega
    case a4=>omega
    case a5=>simp;omega
    intro N cap af O D hat ag;have ah:=(M.trans (Al.of_below (AN w2 (jC #[Q d] 9)) NLN)).grown D B;have ai:=(C.alloc (jC #[Q d] 9)).grown D (fun q o=>by have:=B q o;omega);have aj:af.ownsRow w.heap.size 9 1 (X (Y ⟨N,0,T⟩) (a++[d]).length cap) (a++[d]).length ((a++[d]).map Value.string):=by
     rw[zB,zg,zl];exact O
    clear D hat O ag M C L m n y f;go_wp2
    go_roundw
    case rel=>exact⟨Y ⟨N,0,T⟩,cap,a++[d],s2,k,by rw[zB,zg],aj,by have:=Aa J;rw[zB,zg];omega,ai,c,ah⟩
    case measure=>have:=Aa J;simp[AcU];omega
end Go.Proofs.YtppafecmccdplaaGreat
