import Derived.ProofKit
import Derived.OpenShut
import Derived.Test.YtppafecmccdplaaGreatMXAD
import Derived.Lib.ItoaNum
import Derived.Laws.AppendOwnNone
import Derived.Deep.RegionLaw
import Derived.Deep.AppendLies
open Go.Proofs.Tryz
open Option renaming none->T,some->Y
open Go.Value renaming int->U,slice->X,string->Q,pointer->jH
open Go.IntKind renaming i64->V
open Go renaming World->Z,Value->jB,Addr->jD,TypeId->jI
open Bool renaming true->R,false->jA
open Go.Obj renaming cells->jC
open Go.Ending renaming returned->jF
open ByteArray renaming empty->jK
open Go.Proofs.Tryz renaming prog->jL
namespace Go.Proofs.YtppafecmccdplaaGreat
set_option linter.unusedVariables false
set_option maxRecDepth 100000
set_option maxHeartbeats 3200000
variable {d:Array jB}{first:Bool}{s:ByteArray}{K M:List ByteArray}{zs:List Int}{N:List Nd}{b:List jB}{base n c cx p:Nat}{a:Option jD}{t u:jI}{v:jB}{w w' w2:Z}{P:Z->Prop}
section
open Go.RowKit Go.ChangeShapes
structure Rd (w:Z) (R:Nat) (a:Option jD) (n c p:Nat):Prop where
 row:Ah w R #[X a n c,U V (p:Int)] 56
 le:p<=n
 small:n<=1048576
 cells:∀j,j<n->∃b off z,a=Y ⟨b,off,T⟩/\b<R/\w.cell? ⟨b,off+j,T⟩=Y (U .u8 z)/\0<=z/\z<=255
end
section
open Go.RowKit
def eqS (a b:ByteArray):Bool:=a.toList==b.toList
theorem KI (a b:ByteArray):eqS a b=R↔a=b:=by
 rw[eqS,zF,zy,zy];exact⟨IN,fun h=>by rw[h]⟩
def Oe (ss:List ByteArray) (s:ByteArray):Bool:=ss.any fun x=>eqS x s
theorem Sa (ss:List ByteArray)(s:ByteArray):Oe ss s=R↔s∈ss:=by
 rw[Oe,List.any_eq_true];constructor
 ·rintro⟨x,hx,he⟩;rw[KI]at he;subst he;exact hx
 ·intro h;exact⟨s,h,(KI _ _).2 rfl⟩
theorem PN (ss:List ByteArray)(s:ByteArray):s∈ss↔∃j,j<ss.length/\Ck ss j=s:=by
 constructor
 ·intro h;obtain⟨j,a,rfl⟩:=z9 h;exact⟨j,a,BM ss j a⟩
 ·rintro⟨j,a,rfl⟩;rw[BM ss j a];exact zH a
theorem AfD (ss:List ByteArray)(s:ByteArray)(j:Nat)(a:j<ss.length)(h:eqS (Ck ss j) s=R):Oe ss s=R:=by
 rw[Sa,PN];exact⟨j,a,(KI _ _).1 h⟩
theorem Abe (ss:List ByteArray)(s:ByteArray)(h:∀j,j<ss.length->eqS (Ck ss j) s=jA):Oe ss s=jA:=by
 rw[Z0];intro k;rw[Sa,PN]at k;obtain⟨j,a,e⟩:=k;have:=h j a;rw[(KI _ _).2 e]at this;cases this
def ED (ss tt:List ByteArray) (b:Bool):List ByteArray:=ss.filter fun s=>Oe tt s==b
theorem Iw (ss:List ByteArray)(k:Nat)(h:k<ss.length):ss.take (k+1)=ss.take k++[Ck ss k]:=by
 rw[BM ss k h,zc h]
theorem AdQ (ss tt:List ByteArray)(b:Bool)(k:Nat)(h:k<ss.length)(hv:(Oe tt (Ck ss k)==b)=R):ED (ss.take (k+1)) tt b=ED (ss.take k) tt b++[Ck ss k]:=by
 rw[Iw ss k h,ED,ED,List.filter_append];simp[hv]
theorem AfE (ss tt:List ByteArray)(b:Bool)(k:Nat)(h:k<ss.length)(hv:(Oe tt (Ck ss k)==b)=jA):ED (ss.take (k+1)) tt b=ED (ss.take k) tt b:=by
 rw[Iw ss k h,ED,ED,List.filter_append];simp[hv]
theorem IP (ss tt:List ByteArray)(b:Bool):(ED ss tt b).length<=ss.length:=List.length_filter_le _ _
theorem Au {e n:Nat}{a:List jB}(h:w.ownsRow base e 1 v n a):∃x c,v=X x n c:=by
 rcases h.2 with⟨rfl,rfl⟩|⟨g,cap,b,rfl,_⟩
 ·exact⟨_,_,rfl⟩
 ·exact⟨_,_,rfl⟩
theorem Rb (ss tt:List ByteArray)(b:Bool)(h:∀j,j<ss.length->(Ck ss j).size<=maxLen):∀j,j<(ED ss tt b).length->(Ck (ED ss tt b) j).size<=maxLen:=by
 intro j a;have hm:Ck (ED ss tt b) j∈ss:=by
  rw[BM _ j a];exact(List.mem_filter.1 (zH a)).1
 obtain⟨i,hi,e⟩:=(PN _ _).1 hm;rw[<-e];exact h i hi
def Zd (x:Int):ByteArray:=ByteArray.empty.push (UInt8.ofNat x.toNat)
theorem Qc (x:Int):(Zd x).size=1:=rfl
theorem Ahg (a:Z)(x:Int):(convert 22 9 (X (Y ⟨a.heap.size,0,T⟩) 1 1)).run jL (a.alloc (jC #[U .u8 x] 5))= .ok (Q (Zd x)) (a.alloc (jC #[U .u8 x] 5)):=by
 rw[run_convert_bytes_string _ _ _ _ _ _ _ underlying22 underlying5 underlying9];rw[run_bytesToString _ _ _ _ [x]]
 ·rfl
 ·have h:(a.alloc (jC #[U .u8 x] 5)).cell? ⟨a.heap.size,0,T⟩=Y (U .u8 x):=by simp
  simp[loadCells,h,go_sem]
theorem GD (a b:ByteArray):(a++b).size=a.size+b.size:=ByteArray.size_append
structure Al (lo hi:Nat) (w w':Z):Prop where
 os:w'.os=w.os
 tape:w'.tape=w.tape
 output:w'.output=w.output
 size:w.heap.size<=w'.heap.size
 block:∀k,k<w.heap.size->(k<lo\/hi<=k)->w'.heap[k]? =w.heap[k]?
theorem Al.refl (lo hi:Nat)(w:Z):Al lo hi w w:=⟨rfl,rfl,rfl,NLN,fun _ _ _=>rfl⟩
theorem Al.trans {lo hi:Nat}{a b c:Z}(h:Al lo hi a b)(k:Al lo hi b c):Al lo hi a c:=
 ⟨k.os.trans h.os,k.tape.trans h.tape,k.output.trans h.output,zC h.size k.size,fun i hi h'=>(k.block i (zR hi h.size) h').trans (h.block i hi h')⟩
theorem Al.of_below {lo hi B:Nat}(h:Below B w w')(a:w.heap.size<=B):Al lo hi w w':=
 ⟨h.os,h.tape,h.output,h.size,fun k hk _=>h.block k (by omega)⟩
theorem Al.setCell {lo hi:Nat}(w:Z)(p:jD)(u:jB)(h1:lo<=p.block)(a:p.block<hi):Al lo hi w (w.setCell p u):=
 ⟨rfl,rfl,rfl,by simp,fun k _ hk=>heap_setCell_other w p k u (by omega)⟩
theorem AT {B lo hi:Nat}{a:Z}(h:Below B w a)(t:Al lo hi a w2)(b:B<=lo)(hs:B<=a.heap.size):Below B w w2:=
 h.trans ⟨t.os,t.tape,t.output,t.size,fun k hk=>t.block k (by omega) (.inl (by omega))⟩
theorem Ll {lo:Nat}(h:w.ownsRow lo 9 1 (X a n c) n b)(d:∀x,a=Y x->w'.heap[x.block]? =w.heap[x.block]?):w'.ownsRow lo 9 1 (X a n c) n b:=by
 refine⟨h.1,?_⟩;rcases h.2 with f|⟨g,cap,i,hv,j,hg,k⟩
 ·exact .inl f
 ·refine .inr ⟨g,cap,i,hv,j,?_,k⟩;simp only[Value.slice.injEq]at hv;rw[<-hg];exact d ⟨g,0,T⟩ hv.1
theorem Nu {base' e n:Nat}{a:List jB}(h:w.ownsRow base e 1 v n a)(b:base'<=base):w.ownsRow base' e 1 v n a:=by
 refine⟨h.1,?_⟩;rcases h.2 with c|⟨g,cap,d,hv,f,i⟩
 ·exact .inl c
 ·exact .inr ⟨g,cap,d,hv,zC b f,i⟩
theorem Al.grown {lo hi:Nat}{a:Z}{row:Option Nat}(T:Al lo hi w a)(h:a.grownBy w2 row)(b:∀k,row=Y k->w.heap.size<=k):Al lo hi w w2:=
 ⟨h.os.trans T.os,h.tape.trans T.tape,h.output.trans T.output,zC T.size h.size,fun k hk hd=>(h.block k (zR hk T.size) (fun e=>by have:=b k e.symm;omega)).trans (T.block k hk hd)⟩
set_option maxHeartbeats 1600000
def okB (first:Bool) (s x:ByteArray):Bool:=first||sl s x
structure El (names:List ByteArray) (first:Bool) (s best:ByteArray) (found:Bool):Prop where
 yes:found=R->best∈names/\okB first s best=R/\∀x∈names,okB first s x=R->sl x best=jA
 no:found=jA->∀x∈names,okB first s x=jA
theorem El.start (first:Bool)(s a:ByteArray):El [] first s a jA:=⟨(fun h=>by cases h),(fun _ x hx=>by cases hx)⟩
theorem El.skip {c x:ByteArray}{d:Bool}(h:El K first s c d)(hx:okB first s x=jA):El (K++[x]) first s c d:=by
 refine⟨fun a=>?_,fun a y hy=>?_⟩
 ·obtain⟨h1,f,g⟩:=h.yes a;refine⟨Z8 _ h1,f,fun y hy b=>?_⟩;rcases zM.1 hy with hy|hy
  ·exact g y hy b
  ·simp only[zO]at hy;subst hy;rw[hx]at b;cases b
 ·rcases zM.1 hy with hy|hy
  ·exact h.no a y hy
  ·simp only[zO]at hy;subst hy;exact hx
theorem El.keep {a x:ByteArray}(h:El K first s a R)(hx:sl x a=jA):El (K++[x]) first s a R:=by
 obtain⟨h1,b,c⟩:=h.yes rfl;refine⟨fun _=>⟨Z8 _ h1,b,fun y hy d=>?_⟩,fun f=>by cases f⟩;rcases zM.1 hy with hy|hy
 ·exact c y hy d
 ·simp only[zO]at hy;subst hy;exact hx
theorem El.take {c x:ByteArray}{a:Bool}(h:El K first s c a)(hx:okB first s x=R)(f:a=R->sl x c=R):El (K++[x]) first s x R:=by
 refine⟨fun _=>⟨by simp,hx,fun y hy b=>?_⟩,fun g=>by cases g⟩;rcases zM.1 hy with hy|hy
 ·cases a with
  |false=>rw[h.no rfl y hy]at b;cases b
  |true=>
   have d:=(h.yes rfl).2.2 y hy b;rw[Z0]at d|-;intro hk;exact d (MV hk (f rfl))
 ·simp only[zO]at hy;subst hy;exact FI _
theorem AfF (first:Bool)(s x:ByteArray)(a:first=jA)(h:(Op.bytesLess x.toList s.toList||x.toList==s.toList)=R):okB first s x=jA:=by
 subst a;simp only[okB,Bool.false_or];rw[Bool.or_eq_true]at h;rcases h with h|h
 ·exact Xi h
 ·have:x=s:=(KI x s).1 h;subst this;exact FI _
theorem AgV (first:Bool)(s x:ByteArray)(h:(Op.bytesLess x.toList s.toList||x.toList==s.toList)=jA):okB first s x=R:=by
 rw[Bool.or_eq_false_iff]at h;have h1:sl x s=jA:=h.1;have a:eqS x s=jA:=h.2;have:sl s x=R:=by
  cases hk:sl s x with
  |true=>rfl
  |false=>
   have:=AdW _ _ h1 hk;rw[(KI _ _).2 this]at a;cases a
 simp[okB,this]
def AfG (ss:List ByteArray) (first:Bool) (s:ByteArray) (e:Ending):Prop:=∃best found,e=jF (.tuple #[Q best,.bool found])/\El ss first s best found
theorem Sc (a:Option jD)(n c:Nat)(ss:List ByteArray)(s:ByteArray)(first:Bool)(w:Z)(h:AJ w a n c ss):
  Calls jL 132 #[X a n c,Q s,.bool first] w fun e w'=>AfG ss first s e/\w'=w:=by
 have u:n<=9223372036854775807:=by have:=h.cap;have:=h.small;unfold maxLen at this;omega
 have p:=Ab h.len;go_enter func132,ntmps132
 go_wp2
 go_loop [8,9,11,14] (fun b f _ i=>∃ (k:Nat) (l:ByteArray) (d:Bool),k<=n/\i=U V k/\b=Q l/\f= .bool d/\El (ss.take k) first s l d) (fun _ _ _ i=>n-(intOf i).toNat)
 case atStart=>exact⟨0,_,jA,zE _,rfl,rfl,rfl,El.start _ _ _⟩
 case round=>
  obtain⟨k,l,d,hk,rfl,rfl,rfl,hi⟩:=hrel;by_cases r:k<n
  ·obtain⟨b,v,t,_,hc⟩:=h.cells k r;subst t;have g:=Ab (Iw ss k (by have:=Aa p;omega));cases q:(Op.bytesLess (Ck ss k).toList s.toList||(Ck ss k).toList==s.toList)
   ·have m:=AgV first s (Ck ss k) q
    have j:=Ab m;clear m;cases d
    ·cases first
     all_goals
      go_wp2
      go_round
      case rel=>exact⟨k+1,_,R,by omega,by go_num,rfl,rfl,by rw[Aa g];exact hi.take (Aa j) (fun h=>by cases h)⟩
      case measure=>simp[intOf];omega
    ·cases o:Op.bytesLess (Ck ss k).toList l.toList
     ·cases first
      all_goals
       go_wp2
       go_round
       case rel=>exact⟨k+1,_,R,by omega,by go_num,rfl,rfl,by rw[Aa g];exact hi.keep o⟩
       case measure=>simp[intOf];omega
     ·cases first
      all_goals
       go_wp2
       go_round
       case rel=>exact⟨k+1,_,R,by omega,by go_num,rfl,rfl,by rw[Aa g];exact hi.take (Aa j) (fun _=>o)⟩
       case measure=>simp[intOf];omega
   ·cases first
    ·have j:=Ab (AfF jA s (Ck ss k) rfl q);go_wp2
     go_round
     case rel=>exact⟨k+1,_,d,by omega,by go_num,rfl,rfl,by rw[Aa g];exact hi.skip (Aa j)⟩
     case measure=>simp[intOf];omega
    ·have m:okB R s (Ck ss k)=R:=rfl;have j:=Ab m;clear m;cases d
     ·go_wp2
      go_round
      case rel=>exact⟨k+1,_,R,by omega,by go_num,rfl,rfl,by rw[Aa g];exact hi.take (Aa j) (fun h=>by cases h)⟩
      case measure=>simp[intOf];omega
     ·cases o:Op.bytesLess (Ck ss k).toList l.toList
      ·go_wp2
       go_round
       case rel=>exact⟨k+1,_,R,by omega,by go_num,rfl,rfl,by rw[Aa g];exact hi.keep o⟩
       case measure=>simp[intOf];omega
      ·go_wp2
       go_round
       case rel=>exact⟨k+1,_,R,by omega,by go_num,rfl,rfl,by rw[Aa g];exact hi.take (Aa j) (fun _=>o)⟩
       case measure=>simp[intOf];omega
  ·have e1:ss.take k=ss:=zf (by have:=Aa p;omega);rw[e1]at hi;go_wp2
   go_ret2
   exact⟨⟨l,d,rfl,hi⟩,rfl⟩
theorem Sd (h:Fo K=R):K.Nodup:=by
 rw[Fo,zG]at h;exact h.imp (fun {a b} hab e=>by subst e;rw[FI]at hab;cases hab)
theorem Se:∀(K l:List ByteArray),K.Nodup->(∀x∈K,x∈l)->K.length<=l.length
 |[],_,_,_=>zE _
 |x ::K,l,hn,hs=>by
  obtain⟨l1,a,rfl⟩:=List.append_of_mem (hs x (by simp));rw[List.nodup_cons]at hn;have:=Se K (l1++a) hn.2 (fun y hy=>by
   have b:y≠x:=fun e=>hn.1 (by rw[<-e];exact hy);have hm:=hs y (by simp[hy]);simp only[zM,zT]at hm|-;rcases hm with h|h|h
   ·exact .inl h
   ·exact absurd h b
   ·exact .inr h)
  simp only[zB,List.length_cons]at this|-;omega
theorem Pq:∀(K M:List ByteArray),Fo K=R->Fo M=R->(∀x,x∈K↔x∈M)->K=M
 |[],[],_,_,_=>rfl
 |[],y ::M,_,_,h=>by have:=(h y).2 (by simp);cases this
 |x ::K,[],_,_,h=>by have:=(h x).1 (by simp);cases this
 |x ::K,y ::M,hK,hM,h=>by
  rw[Fo,zG,List.pairwise_cons]at hK hM;have c:x=y:=by
   rcases zT.1 ((h x).1 (by simp))with e|hx
   ·exact e
   ·rcases zT.1 ((h y).2 (by simp))with e|hy
    ·exact e.symm
    ·have h1:=hM.1 x hx;have b:=hK.1 y hy;rw[Xi h1]at b;cases b
  subst c
  congr 1
  refine Pq K M (by rw[Fo,zG];exact hK.2) (by rw[Fo,zG];exact hM.2) fun z=>?_;constructor
  ·intro a;rcases zT.1 ((h z).1 (by simp[a]))with e|hz'
   ·subst e;have:=hK.1 z a;rw[FI]at this;cases this
   ·exact hz'
  ·intro a;rcases zT.1 ((h z).2 (by simp[a]))with e|hz'
   ·subst e;have:=hM.1 z a;rw[FI]at this;cases this
   ·exact hz'
structure Cu (l K:List ByteArray):Prop where
 rise:Fo K=R
 mem:∀x,x∈K↔x∈l
theorem Cu.unique {l K M:List ByteArray}(h:Cu l K)(k:Cu l M):K=M:=Pq K M h.rise k.rise fun x=>(h.mem x).trans (k.mem x).symm
theorem Cu.len {l K:List ByteArray}(h:Cu l K):K.length<=l.length:=Se K l (Sd h.rise) fun x hx=>(h.mem x).1 hx
structure UW (l K:List ByteArray) (s:ByteArray) (ok:Bool):Prop where
 rise:Fo K=R
 yes:ok=R->s∈l/\∀x,x∈K↔x∈l/\sl x s=R
 no:ok=jA->∀x,x∈K↔x∈l
theorem UW.start {l:List ByteArray}{t s:ByteArray}(h:El l R t s first):UW l [] s first:=by
 refine⟨rfl,fun hk=>⟨(h.yes hk).1,fun x=>⟨(fun hx=>by cases hx),fun ⟨hx,a⟩=>?_⟩⟩,fun hk x=>⟨(fun hx=>by cases hx),fun hx=>?_⟩⟩
 ·have:=(h.yes hk).2.2 x hx rfl;rw[this]at a;cases a
 ·have:=h.no hk x hx;cases this
theorem Xl (x s:ByteArray):sl x s=R\/x=s\/sl s x=R:=by
 cases h1:sl x s with
 |true=>exact .inl rfl
 |false=>cases a:sl s x with
  |true=>exact .inr (.inr rfl)
  |false=>exact .inr (.inl (AdW _ _ h1 a))
theorem UW.step {l K:List ByteArray}{a:ByteArray}(h:UW l K s R)(k:El l jA s a first):UW l (K++[s]) a first:=by
 obtain⟨hs,hm⟩:=h.yes rfl;have rise:Fo (K++[s])=R:=by
  rw[Fo,zG,List.pairwise_append];refine⟨by have:=h.rise;rwa[Fo,zG]at this,by simp,fun x hx y hy=>?_⟩;simp only[zO]at hy;subst hy;exact((hm x).1 hx).2
 refine⟨rise,fun hk=>?_,fun hk=>?_⟩
 ·obtain⟨h1,d,f⟩:=k.yes hk;have b:sl s a=R:=by simpa[okB]using d
  refine⟨h1,fun x=>⟨fun hx=>?_,fun ⟨hx,c⟩=>?_⟩⟩
  ·rcases zM.1 hx with hx|hx
   ·exact⟨((hm x).1 hx).1,MV ((hm x).1 hx).2 b⟩
   ·simp only[zO]at hx;subst hx;exact⟨hs,b⟩
  ·rcases Xl x s with hc|hc|hc
   ·exact Z8 _ ((hm x).2 ⟨hx,hc⟩)
   ·subst hc;simp
   ·have:=f x hx (by simpa[okB]using hc);rw[this]at c;cases c
 ·intro x;constructor
  ·intro hx;rcases zM.1 hx with hx|hx
   ·exact((hm x).1 hx).1
   ·simp only[zO]at hx;subst hx;exact hs
  ·intro hx;rcases Xl x s with hc|hc|hc
   ·exact Z8 _ ((hm x).2 ⟨hx,hc⟩)
   ·subst hc;simp
   ·have:=k.no hk x hx;simp[okB,hc]at this
theorem UW.lt {l K:List ByteArray}(h:UW l K s R):K.length<l.length:=by
 obtain⟨hs,hm⟩:=h.yes rfl;have a:s ∉ K:=fun hk=>by have:=((hm s).1 hk).2;rw[FI]at this;cases this
 have:=Se (s ::K) l (List.nodup_cons.2 ⟨a,Sd h.rise⟩) (fun x hx=>by
  rcases zT.1 hx with e|hx
  ·subst e;exact hs
  ·exact((hm x).1 hx).1)
 simp only[List.length_cons]at this;omega
def Jz:jB->Nat|X _ n _=>n|_=>0
theorem UX {l K:List ByteArray}(h:Cu l K)(hs:∀j,j<l.length->(Ck l j).size<=maxLen):∀j,j<K.length->(Ck K j).size<=maxLen:=by
 intro j a;have hm:Ck K j∈l:=by
  rw[BM _ j a];exact(h.mem _).1 (zH a)
 obtain⟨i,hi,e⟩:=(PN _ _).1 hm;rw[<-e];exact hs i hi
def AfH (w:Z) (ss:List ByteArray) (e:Ending) (w':Z):Prop:=
 ∃x cx K,e=jF (X x K.length cx)/\w'.ownsRow w.heap.size 9 1 (X x K.length cx) K.length (K.map Value.string)/\An w w'/\Cu ss K
theorem Je (a:Option jD)(n c:Nat)(ss:List ByteArray)(w:Z)(h:AJ w a n c ss)(M:n<=1048576):
  Calls jL 122 #[X a n c] w fun e w'=>AfH w ss e w':=by
 obtain⟨i,hi,y,z,A⟩:=info_parts JH;have B:=Ab h.len;go_enter func122,ntmps122
 go_wp2_with fail
 refine(Sc _ _ _ _ _ _ _ h).mono ?_;rintro e j ⟨⟨C,D,rfl,b⟩,l⟩;rw[l];clear l;have E:=UW.start b;clear b;go_wp2_with fail
 go_loopw [3,4,5] (fun v s ok wr=>∃ (K:List ByteArray) (t:ByteArray) (q:Bool) (x:Option jD) (cx:Nat),s=Q t/\ok= .bool q/\v=X x K.length cx/\wr.ownsRow w.heap.size 9 1 (X x K.length cx) K.length (K.map Value.string)/\UW ss K t q/\An w wr) (fun v _ _ _=>n-Jz v)
 case atStart=>exact⟨[],C,D,T,0,rfl,rfl,rfl,World.ownsRow_nil _ _ _ _,E,BRN⟩
 case round=>
  obtain⟨K,t,q,x,cx,rfl,rfl,rfl,d,hu,f⟩:=hrel;cases q
  ·go_wp2
   go_ret
   exact⟨x,cx,K,rfl,d,f,⟨hu.rise,hu.no rfl⟩⟩
  ·have N:K.length<n:=by have:=hu.lt;have:=Aa B;omega
   have F:=f.size;go_wp2_with (at_builtin;refine wpList_append_own _ rfl _ _ 42 rfl w.heap.size 9 i (Q jK) 1 16 underlying42 hi y z A rfl (by decide) _ _ _ rfl (d.alloc _) ⟨wr.heap.size,0,T⟩ 1 1 [Q t] rfl rfl ?c1 ?c2 ?c3 ?c4 ?c5 ?_)
   case c1=>exact cell_one_new _ _ _
   case c2=>intro u hu;simp at hu;subst hu;rfl
   case c3=>unfold maxLen;omega
   case c4=>omega
   case c5=>simp;omega
   intro v' j g m _;have o:An w j:=(f.alloc F _).grown m (by simp;omega) (fun k hk=>(d.lt k hk).1);obtain⟨G,H,p⟩:=Au g;rw[p]at g|-;clear m d p;go_wp2_with fail
   refine(Sc _ _ _ _ _ _ _ (h.below o NLN)).mono ?_;rintro e w2 ⟨⟨I,J,rfl,b⟩,r⟩;rw[r];clear r;have L:=hu.step b;clear b hu;go_wp2
   go_roundw
   case rel=>exact⟨K++[t],I,J,G,H,rfl,rfl,by rw[zB];rfl,by rw[zl,zB];exact g,L,o⟩
   case measure=>simp[Jz];omega
set_option maxRecDepth 100000
set_option maxHeartbeats 800000
def In (k:Nat):ByteArray:=⟨(Lib.decDigits k).toArray⟩
theorem LF {k:Nat}(h:k<10):In k=Zd (48+(k:Int)):=by
 have e:(48+(k:Int)).toNat=48+k:=by omega
 unfold In Zd;rw[Lib.decDigits,dif_pos h,e];rfl
theorem We {k:Nat}(h: 10<=k):In k=In (k / 10)++In (k % 10):=by
 apply IN;rw[ByteArray.data_append];unfold In;rw[Lib.decDigits,dif_neg (by omega)]
 conv=>rhs;rw[Lib.decDigits.eq_def (k % 10),dif_pos (by omega)]
 simp
theorem Fw (k:Nat):(In k).size<=k+1:=by
 induction k using Nat.strongRecOn with
 |_ k a=>
  by_cases h:k<10
  ·rw[LF h,Qc];omega
  ·rw[We (by omega),GD,LF (k:=k % 10) (by omega),Qc];have:=a (k / 10) (by omega);omega
theorem QM (m:Nat)(x:Int){Q:Ending->Z->Prop}(h:Calls jL 66 #[U V m] w Q)(e:x=m):Calls jL 66 #[U V x] w Q:=by rw[e];exact h
theorem SF (k:Nat)(w:Z)(hk:k<=9999999):
  Calls jL 66 #[U V k] w fun e w'=>e=jF (Q (In k))/\An w w':=by
 induction k using Nat.strongRecOn generalizing w with
 |_ k b=>
  by_cases h:k<10
  ·have d:(k:Int)<10:=by omega
   have i:=Ahg;have a:=Ab (LF h);go_enter func66,ntmps66
   go_wp2
   go_ret
   exact⟨by rw[Aa a];rfl,BRN.alloc NLN _⟩
  ·have d:(10 :Int)<=(k:Int):=by omega
   have a:=Ab (We (k:=k) (by omega));have j:=Fw (k / 10);have l:=Fw (k % 10);have Hi:Hid (∀(m:Nat),m<k->∀(w:Z),m<=9999999->Calls jL 66 #[U V m] w fun e w'=>e=jF (Q (In m))/\An w w'):=b;clear b;go_enter func66,ntmps66
   go_wp2_with fail
   refine(QM (k / 10) _ (Aa Hi (k / 10) (by omega) w (by omega)) (by omega)).mono ?_;rintro e f ⟨rfl,c⟩;go_wp2_with fail
   refine(QM (k % 10) _ (Aa Hi (k % 10) (by omega) f (by omega)) (by omega)).mono ?_;rintro e w2 ⟨rfl,g⟩;go_wp2
   go_ret
   exact⟨by rw[Aa a];rfl,c.trans (g.mono c.size)⟩
theorem Ey (x:Int)(w:Z)(h0: 0<=x)(hk:x<=9999999):
  Calls jL 66 #[U V x] w fun e w'=>e=jF (Q (In x.toNat))/\An w w':=by
 obtain⟨k,rfl⟩:=Z5 h0;exact SF k w (by omega)
set_option linter.unusedVariables false
theorem Al.drewN {lo hi:Nat}(w:Z)(k:Nat):Al lo hi w (w.drewN k):=Al.of_below (below_drewN (Brw w) k) NLN
theorem Al.then_below {lo hi B:Nat}{a:Z}(t:Al lo hi w a)(h:Below B a w2)(b:w.heap.size<=B):Al lo hi w w2:=
 ⟨h.os.trans t.os,h.tape.trans t.tape,h.output.trans t.output,zC t.size h.size,fun k hk h'=>(h.block k (by omega)).trans (t.block k hk h')⟩
structure DJ (w:Z) (base:Nat) (x:Option jD) (K:List ByteArray) (cx:Nat):Prop where
 own:w.ownsRow base 9 1 (X x K.length cx) K.length (K.map Value.string)
 small:∀s∈K,s.size<=1000
theorem DJ.sizes {cx:Nat}{x:Option jD}(h:DJ w base x K cx):∀j,j<K.length->(Ck K j).size<=maxLen:=fun j a=>by
 rw[BM K j a];have:=h.small _ (zH a);unfold maxLen;omega
theorem DJ.strs {cx:Nat}{x:Option jD}(h:DJ w base x K cx):AJ w x K.length cx K:=AJ.of_owns h.own h.sizes
theorem DJ.nil (w:Z)(base:Nat):DJ w base T [] 0:=⟨World.ownsRow_nil _ _ _ _,by simp⟩
theorem DJ.touch {lo hi:Nat}{x:Option jD}(h:DJ w base x K cx)(t:Al lo hi w w')(a:hi<=base):DJ w' base x K cx:=
 ⟨Ll h.own (fun y hy=>by subst hy;have:=h.own.lt _ rfl;exact t.block _ this.2 (.inr (by omega))),h.small⟩
theorem DJ.below {B cx:Nat}{x:Option jD}(h:DJ w base x K cx)(a:Below B w w')(b:w.heap.size<=B):DJ w' base x K cx:=
 ⟨Ll h.own (fun y hy=>by subst hy;have:=h.own.lt _ rfl;exact a.block _ (by omega)),h.small⟩
theorem Mo (h:Cu K M)(hs:∀s∈K,s.size<=1000):∀s∈M,s.size<=1000:=fun s hm=>hs s ((h.mem s).1 hm)
theorem DJ.snoc {cx:Nat}{x:Option jD}(h:w.ownsRow base 9 1 (X x (K.length+1) cx) (K.length+1) (K.map Value.string++[Q s]))(a:∀u∈K,u.size<=1000)(hs:s.size<=1000):DJ w base x (K++[s]) cx:=
 ⟨by rw[zl,zB];exact h,fun u hu=>by
  rcases zM.1 hu with hu|hu
  ·exact a u hu
  ·simp only[zO]at hu;subst hu;exact hs⟩
end
section
open Go.RowKit Go.ChangeShapes
structure Eh (w:Z) (a:Option jD) (n c:Nat) (zs:List Int):Prop where
 len:n=zs.length
 cap:n<=c
 small:c<=maxLen
 cells:∀j,j<n->∃b off,a=Y ⟨b,off,T⟩/\b<w.heap.size/\w.cell? ⟨b,off+j,T⟩=Y (U .u8 (zs.getD j 0))/\0<=zs.getD j 0/\zs.getD j 0<=255
theorem Eh.below {B:Nat}(h:Eh w a n c zs)(d:Below B w w')(i:w.heap.size<=B):Eh w' a n c zs:=
 ⟨h.len,h.cap,h.small,fun j k=>by
  obtain⟨b,f,l,g,hc,m⟩:=h.cells j k;exact⟨b,f,l,zR g d.size,by rw[<-hc];exact d.cell (p:=⟨b,f+j,T⟩) (zR g i),m⟩⟩
theorem Eh.of_trod {i:Type}{enc:jI×jB->i}{P:Program}{o:Bool}{e:jI}{p:Nat}{x:DataW i×List MemPlace}
  (q:P.underlying t=Y (.slice e))(he:P.underlying e=Y (.int .u8))(hc:P.cellsOf e=1)
  (h:DataW.trod enc P w 0 (fun _=>R) o p t [X a n c]=Y x):∃zs,Eh w a n c zs:=by
 rcases open_ints q he hc h with⟨d,_⟩|⟨r,len,cap,zs,d,_,s,hm,u,_,k,v⟩
 ·simp only[List.cons.injEq,Value.slice.injEq,and_true]at d;obtain⟨rfl,rfl,rfl⟩:=d;exact⟨[],rfl,NLN,zE _,fun j l=>by omega⟩
 ·simp only[List.cons.injEq,Value.slice.injEq,and_true]at d;obtain⟨rfl,rfl,rfl⟩:=d;simp only[if_true]at u;refine⟨zs.take n,by simp;omega,s,hm,fun j l=>?_⟩;have hg:(zs.take n).getD j 0=zs.getD j 0:=by simp[List.getD,l]
  rw[hg];have hs:=World.cell?_spot (k 0 (by omega));obtain⟨b,f,A⟩:=r;simp only[Addr.add,if_true]at hs;subst hs;have g:=k j (by omega);have y:(⟨b,f,T⟩:jD).add j=⟨b,f+j,T⟩:=by
   by_cases e:j=0<;>simp[Addr.add,e]
  rw[y]at g;have m:=bounds_u8 (v (zs.getD j 0) (by simp[List.getD,show j<zs.length from by omega]));refine⟨b,f,rfl,?_,g,m.1,m.2⟩;by_cases z:b<w.heap.size
  ·exact z
  ·have:w.heap[b]? =T:=Array.getElem?_eq_none (by omega);simp[World.cell?,this]at g
structure KL (w:Z) (R:Nat) (a:Option jD) (n c:Nat) (zs:List Int) (p:Nat):Prop where
 row:Ah w R #[X a n c,U V (p:Int)] 56
 len:n=zs.length
 le:p<=n
 small:n<=1048576
 cells:∀j,j<n->∃b off,a=Y ⟨b,off,T⟩/\b<R/\w.cell? ⟨b,off+j,T⟩=Y (U .u8 (zs.getD j 0))/\0<=zs.getD j 0/\zs.getD j 0<=255
theorem KL.after {B R:Nat}{n c:Nat}(h:KL w R a n c zs p)(d:Below B w w')(g:R<B):KL w' R a n c zs p:=
 ⟨h.row.below d g,h.len,h.le,h.small,fun j i=>by
  obtain⟨b,f,k,l,hc,m⟩:=h.cells j i;exact⟨b,f,k,l,by rw[<-hc];exact d.cell (p:=⟨b,f+j,T⟩) (by show b<B;omega),m⟩⟩
theorem KL.step {R:Nat}{p:Nat}(h:KL w R a n c zs p)(hp:p<n):KL (w.setCell ⟨R,1,T⟩ (U V ((p+1 :Nat):Int))) R a n c zs (p+1):=
 ⟨by simpa using h.row.set 1 (U V ((p+1 :Nat):Int)),h.len,hp,h.small,fun j d=>by
  obtain⟨b,f,g,i,hc,k⟩:=h.cells j d;refine⟨b,f,g,i,?_,k⟩;rw[<-hc];exact World.cell?_of_block (heap_setCell_other w ⟨R,1,T⟩ b _ (by show b≠R;omega))⟩
theorem KL.lt {w:Z}{R:Nat}{a:Option jD}{n c:Nat}{zs:List Int}{p:Nat}(h:KL w R a n c zs p):R<w.heap.size:=h.row.lt
def nx (zs:List Int) (p:Nat):Int×Nat:=if p<zs.length then (zs.getD p 0,p+1)else (0,p)
theorem BH (R:Nat)(a:Option jD)(n c:Nat)(zs:List Int)(p:Nat)(w:Z)(h:KL w R a n c zs p):
  Calls jL 20 #[jH (Y ⟨R,0,T⟩)] w fun e w'=>∃ (r:Int) (q:Nat),e=jF (U V r)/\Hid (nx zs p=(r,q))/\0<=r/\r<=255/\KL w' R a n c zs q/\Al R (R+1) w w':=by
 have c0:=h.row.cell 0;have c1:=h.row.cell 1;have f1:=h.row.frozen 1;simp at c0 c1;have l:=h.small;by_cases hp:p<n
 ·obtain⟨b,m,i,o,j,f,g⟩:=h.cells p hp;have d:=Ab (show nx zs p=(zs.getD p 0,p+1) by rw[nx,if_pos (by have:=h.len;omega)]);generalize zs.getD p 0=z at j f g d;subst i;have k:(p:Int)<(n:Int):=by omega
  go_enter func20,ntmps20
  go_wp2
  go_quiet (fail)
  go_wp2
  go_quiet (fail)
  go_wp2
  go_ret
  refine⟨_,p+1,rfl,d,f,g,?_,?_⟩
  ·rw[show((p:Int)+1)=((p+1 :Nat):Int)from by omega];exact(h.after (below_drewN (Below.refl (R+1) w) _) (by omega)).step hp
  ·exact(Al.drewN w _).trans (Al.setCell _ ⟨R,1,T⟩ _ (z0 R) (z5 R))
 ·have d:=Ab (show nx zs p=(0,p) by rw[nx,if_neg (by have:=h.len;omega)]);have k:(n:Int)<=(p:Int):=by omega
  go_enter func20,ntmps20
  go_wp2
  go_quiet (fail)
  go_wp2
  go_ret
  exact⟨_,p,rfl,d,by omega,by omega,h.after (below_drewN (Below.refl (R+1) w) _) (by omega),Al.drewN w _⟩
def Wa (k:Nat):ByteArray:= [⟨#[114,101,97,100]⟩,⟨#[119,114,105,116,101]⟩,⟨#[97,100,109,105,110]⟩,⟨#[109,97,105,108]⟩,⟨#[97]⟩,⟨#[98]⟩,⟨#[99,46,100]⟩,⟨#[122,95,57]⟩].getD k ⟨#[]⟩
theorem AcI (w:Z)(k:Nat)(hk:k<8):(Wa k).size<=10/\(w.alloc (jC #[Q ⟨#[114,101,97,100]⟩,Q ⟨#[119,114,105,116,101]⟩,Q ⟨#[97,100,109,105,110]⟩,Q ⟨#[109,97,105,108]⟩,Q ⟨#[97]⟩,Q ⟨#[98]⟩,Q ⟨#[99,46,100]⟩,Q ⟨#[122,95,57]⟩] 9)).cell? ⟨w.heap.size,k,T⟩=Y (Q (Wa k)):=by
 have h:=(Ah.new w #[Q ⟨#[114,101,97,100]⟩,Q ⟨#[119,114,105,116,101]⟩,Q ⟨#[97,100,109,105,110]⟩,Q ⟨#[109,97,105,108]⟩,Q ⟨#[97]⟩,Q ⟨#[98]⟩,Q ⟨#[99,46,100]⟩,Q ⟨#[122,95,57]⟩] 9).cell k
 match k,hk with
 |0,_=>exact⟨by decide,h⟩
 |1,_=>exact⟨by decide,h⟩
 |2,_=>exact⟨by decide,h⟩
 |3,_=>exact⟨by decide,h⟩
 |4,_=>exact⟨by decide,h⟩
 |5,_=>exact⟨by decide,h⟩
 |6,_=>exact⟨by decide,h⟩
 |7,_=>exact⟨by decide,h⟩
def Hb (zs:List Int) (p:Nat):ByteArray×Nat:=
 if (nx zs p).1 % 8=6 then ((((⟨#[115]⟩:ByteArray)++In ((nx zs p).1 / 8).toNat)++⟨#[58]⟩)++In (nx zs (nx zs p).2).1.toNat,(nx zs (nx zs p).2).2)
 else if (nx zs p).1 % 8=7 then
  if 240<(nx zs p).1 then (⟨#[97,45,110,97,109,101,45,116,104,97,116,45,105,115,45,116,104,105,114,116,121,45,116,119,111,45,98,121,116,101,115,46]⟩,(nx zs p).2)
  else ((⟨#[120,46]⟩:ByteArray)++In ((nx zs (nx zs p).2).1 % 90).toNat,(nx zs (nx zs p).2).2)
 else (Wa ((nx zs p).1 / 8 % 8).toNat,(nx zs p).2)
def Ahk (R:Nat) (a:Option jD) (n c:Nat) (zs:List Int) (p:Nat) (w:Z) (e:Ending) (w':Z):Prop:=
 ∃ (s:ByteArray) (q:Nat),e=jF (Q s)/\Hid (Hb zs p=(s,q))/\s.size<=1000/\KL w' R a n c zs q/\Al R (R+1) w w'
theorem PU (R:Nat)(a:Option jD)(n c:Nat)(zs:List Int)(p:Nat)(w:Z)(h:KL w R a n c zs p):
  Calls jL 106 #[jH (Y ⟨R,0,T⟩)] w fun e w'=>Ahk R a n c zs p w e w':=by
 go_enter func106,ntmps106
 go_wp2_with fail
 refine(BH R a n c zs p w h).mono ?_;rintro e o ⟨x,i,rfl,k,G,H,h1,b⟩;by_cases e6:x % 8=6
 ·have t:(x % 8==6)=true:=zF.2 e6;have f:=Ab e6;clear e6;go_wp2_with fail
  refine(BH R a n c zs i _ h1).mono ?_;rintro e w2 ⟨y,q,rfl,r,A,B,j,g⟩;go_wp2_with fail
  refine(Ey _ _ (by omega) (by omega)).mono ?_;rintro e C ⟨rfl,d⟩;have D:=Fw (x / 8).toNat;have I:(⟨#[115]⟩:ByteArray).size=1:=rfl;have J:(⟨#[58]⟩:ByteArray).size=1:=rfl;go_wp2_with fail
  refine(Ey _ _ (by omega) (by omega)).mono ?_;rintro e K ⟨rfl,u⟩;have L:=Fw y.toNat;have l:=j.lt;go_wp2
  go_ret
  refine⟨_,q,rfl,Ab ?_,?_,(j.after d l).after u (zR l d.size),((b.trans g).then_below d (zC b.size g.size)).then_below u (zC (zC b.size g.size) d.size)⟩
  ·rw[Hb,Aa k,if_pos (Aa f),Aa r]
  ·rw[GD,GD,GD];omega
 by_cases e7:x % 8=7
 ·have t:(x % 8==6)=jA:=zA.2 e6;have E:(x % 8==7)=true:=zF.2 e7;have f:=Ab e6;have m:=Ab e7;clear e6 e7;by_cases v: 240<x
  ·go_wp2
   go_ret
   exact⟨_,i,rfl,Ab (by rw[Hb,Aa k,if_neg (Aa f),if_pos (Aa m),if_pos v]),by decide,h1,b⟩
  ·have M: ¬ (240<x):=v;go_wp2_with fail
   refine(BH R a n c zs i _ h1).mono ?_;rintro e w2 ⟨y,q,rfl,r,A,B,j,g⟩;go_wp2_with fail
   refine(Ey _ _ (by omega) (by omega)).mono ?_;rintro e C ⟨rfl,d⟩;have D:=Fw (y % 90).toNat;have l:=j.lt;go_wp2
   go_ret
   refine⟨_,q,rfl,Ab ?_,?_,j.after d l,(b.trans g).then_below d (zC b.size g.size)⟩
   ·rw[Hb,Aa k,if_neg (Aa f),if_pos (Aa m),if_neg (by omega),Aa r]
   ·rw[GD];have:(⟨#[120,46]⟩:ByteArray).size=2:=rfl;omega
 have t:(x % 8==6)=jA:=zA.2 e6;have E:(x % 8==7)=jA:=zA.2 e7;have f:=Ab e6;have m:=Ab e7;clear e6 e7;obtain⟨hs,hc⟩:=AcI o (x / 8 % 8).toNat (by omega);have F:=h1.lt;have z:=Ab (show Hb zs p=(Wa (x / 8 % 8).toNat,i) by rw[Hb,Aa k,if_neg (Aa f),if_neg (Aa m)]);generalize Wa (x / 8 % 8).toNat=s at hs hc z;go_wp2
 go_ret
 exact⟨s,i,rfl,z,by omega,h1.after (AN o _) F,b.then_below (AN o _) b.size⟩
end
section
open Go.RowKit
def Tz (m:Nat) (f:Int):List ByteArray:=(List.range m).map fun (i:Nat)=>(⟨#[119]⟩:ByteArray)++In (f+(i:Int)).toNat
theorem Yo (m:Nat)(f:Int):Tz (m+1) f=Tz m f++[(⟨#[119]⟩:ByteArray)++In (f+(m:Int)).toNat]:=by
 simp[Tz,List.range_succ]
def AfT (w:Z) (m:Nat) (f:Int) (e:Ending) (w':Z):Prop:=∃x cx K,e=jF (X x K.length cx)/\Hid (K=Tz m f)/\K.length<=m/\DJ w' w.heap.size x K cx/\An w w'
theorem AcM (m:Nat)(f:Int)(w:Z)(hm:m<=64)(E: 0<=f)(f1:f<=200):
  Calls jL 123 #[U V m,U V f] w fun e w'=>AfT w m f e w':=by
 obtain⟨i,hi,q,r,s⟩:=info_parts JH;go_enter func123,ntmps123
 go_wp2_with fail
 go_loopw [5,6] (fun v b wr=>∃ (k:Nat) (K:List ByteArray) (x:Option jD) (cx:Nat),k<=m/\b=U V k/\v=X x K.length cx/\Hid (K=Tz k f)/\K.length<=k/\DJ wr w.heap.size x K cx/\An w wr) (fun _ b _=>m-(intOf b).toNat)
 case atStart=>exact⟨0,[],T,0,zE _,rfl,rfl,Ab rfl,NLN,DJ.nil _ _,BRN⟩
 case round=>
  obtain⟨k,K,x,cx,hk,rfl,rfl,h,t,c,a⟩:=hrel;by_cases F:k<m
  ·have y:(k:Int)<(m:Int):=by omega
   go_wp2_with fail
   refine(Ey _ _ (by omega) (by omega)).mono ?_;rintro e z ⟨rfl,d⟩;have G:=Fw (f+(k:Int)).toNat;have H:(⟨#[119]⟩:ByteArray).size=1:=rfl;have j:=a.trans (d.mono a.size);have l:=c.below d NLN;have n:=l.own;have A:=j.size;clear c d a;go_wp2_with (at_builtin;refine wpList_append_own _ rfl _ _ 42 rfl w.heap.size 9 i (Q jK) 1 16 underlying42 hi q r s rfl (by decide) _ _ _ rfl (n.alloc _) ⟨z.heap.size,0,T⟩ 1 1 [Q (⟨#[119]⟩++In (f+(k:Int)).toNat)] rfl rfl ?c1 ?c2 ?c3 ?c4 ?c5 ?_)
   case c1=>exact cell_one_new _ _ _
   case c2=>intro u hu;simp at hu;subst hu;rfl
   case c3=>unfold maxLen;omega
   case c4=>omega
   case c5=>simp;omega
   intro v' w2 g o _;have B:An w w2:=(j.alloc A _).grown o (by simp;omega) (fun k hk=>(n.lt k hk).1);obtain⟨C,D,p⟩:=Au g;rw[p]at g|-;clear o p;go_wp2
   go_roundw
   case rel=>exact⟨k+1,K++[⟨#[119]⟩++In (f+(k:Int)).toNat],C,D,by omega,by go_num,by rw[zB];rfl,Ab (by rw[Yo,Aa h]),by simp;omega,DJ.snoc g l.small (by rw[GD];omega),B⟩
   case measure=>simp[intOf]<;>omega
  ·have y: ¬ ((k:Int)<(m:Int)):=by omega
   obtain rfl:k=m:=by omega
   go_wp2
   go_ret
   exact⟨x,cx,K,rfl,h,t,c,a⟩
theorem AaQ (m f:Int)(w:Z)(m0: 0<=m)(hm:m<=64)(a: 0<=f)(f1:f<=200):
  Calls jL 123 #[U V m,U V f] w fun e w'=>AfT w m.toNat f e w':=by
 obtain⟨k,rfl⟩:=Z5 m0;exact AcM k f w (by omega) a f1
def Ei (zs:List Int):Nat->Nat->List ByteArray×Nat
 |0,p=>([],p)
 |k+1,p=>((Hb zs p).1 ::(Ei zs k (Hb zs p).2).1,(Ei zs k (Hb zs p).2).2)
def XC (zs:List Int) (p:Nat) (K:List ByteArray) (q:Nat):Prop:=
 ((nx zs p).1 % 13=12->Cu (Tz (64-(nx zs p).1 / 13 % 3).toNat ((nx zs (nx zs p).2).1 % 40)) K/\q=(nx zs (nx zs p).2).2)/\
 ((nx zs p).1 % 13≠12->Cu (Ei zs ((nx zs p).1 % 13 % 7).toNat (nx zs p).2).1 K/\q=(Ei zs ((nx zs p).1 % 13 % 7).toNat (nx zs p).2).2)
theorem XC.unique {zs:List Int}{p q a:Nat}{K b:List ByteArray}(h:XC zs p K q)(h':XC zs p b a):K=b/\q=a:=by
 by_cases e:(nx zs p).1 % 13=12
 ·obtain⟨a1,a2⟩:=h.1 e;obtain⟨b1,b2⟩:=h'.1 e;exact⟨a1.unique b1,by rw[a2,b2]⟩
 ·obtain⟨a1,a2⟩:=h.2 e;obtain⟨b1,b2⟩:=h'.2 e;exact⟨a1.unique b1,by rw[a2,b2]⟩
def Ah1 (R:Nat) (a:Option jD) (n c:Nat) (zs:List Int) (S:List ByteArray->Nat->Prop) (w:Z) (top:Nat) (e:Ending) (w':Z):Prop:=
 ∃x cx K q,e=jF (X x K.length cx)/\Hid (S K q)/\K.length<=top/\DJ w' w.heap.size x K cx/\KL w' R a n c zs q/\Al R (R+1) w w'
theorem Y4 (R:Nat)(a:Option jD)(n c:Nat)(zs:List Int)(p:Nat)(w:Z)(h:KL w R a n c zs p):
  Calls jL 107 #[jH (Y ⟨R,0,T⟩)] w fun e w'=>Ah1 R a n c zs (XC zs p) w 64 e w':=by
 obtain⟨i,hi,ad,ae,af⟩:=info_parts JH;have ag:=h.lt;go_enter func107,ntmps107
 go_wp2_with fail
 refine(BH R a n c zs p w h).mono ?_;rintro e ah ⟨x,b,rfl,o,ay,az,h1,C⟩;clear h;by_cases g:x % 13=12
 ·have ai:(x % 13==12)=true:=zF.2 g;have D:=Ab g;clear g;go_wp2_with fail
  refine(BH R a n c zs b ah h1).mono ?_;rintro e w2 ⟨y,aj,rfl,ak,aA,aB,r,j⟩;have l:=C.trans j;clear h1 C j;go_wp2_with fail
  refine(AaQ _ _ _ (by omega) (by omega) (by omega) (by omega)).mono ?_;rintro e M ⟨aC,c3,al,rfl,ao,ap,N,b3⟩;have aD:al.length<=64:=by omega
  clear ap;go_wp2_with fail
  refine(Je _ _ _ _ _ N.strs (by omega)).mono ?_;rintro e aq ⟨E,c4,F,rfl,G,b4,f⟩;have O:=b3.trans (b4.mono b3.size);have ar:=f.len;go_wp2
  go_ret
  refine⟨E,c4,F,aj,rfl,Ab ⟨fun _=>?_,fun P=>?_⟩,by omega,⟨Nu G (zC l.size b3.size),Mo f N.small⟩,r.after O r.lt,l.then_below O l.size⟩
  ·rw[Aa o,Aa ak,<-Aa ao];exact⟨f,rfl⟩
  ·rw[Aa o]at P;exact absurd (Aa D) P
 ·have ai:(x % 13==12)=jA:=zA.2 g;have D:=Ab g;clear g;go_wp2_with fail
  go_loopw [4,5] (fun v H wr=>∃ (k:Int) (K:List ByteArray) (y:Option jD) (I:Nat) (q:Nat),0<=k/\k<=6/\(K.length:Int)+k<=6/\H=U V k/\v=X y K.length I/\Hid (K++(Ei zs k.toNat q).1=(Ei zs (x % 13 % 7).toNat b).1/\(Ei zs k.toNat q).2=(Ei zs (x % 13 % 7).toNat b).2)/\DJ wr w.heap.size y K I/\KL wr R a n c zs q/\Al R (R+1) w wr) (fun _ H _=>(intOf H).toNat)
  case atStart=>exact⟨x % 13 % 7,[],T,0,b,by omega,by omega,by simp;omega,rfl,rfl,Ab ⟨rfl,rfl⟩,DJ.nil _ _,h1,C⟩
  case round=>
   obtain⟨k,K,y,I,q,aE,aF,aG,rfl,rfl,t,z,A,m⟩:=hrel;by_cases hk: 0<k
   ·go_wp2_with fail
    refine(PU R a n c zs q wr A).mono ?_;rintro e w2 ⟨s,J,rfl,S2,au,r,j⟩;have S:=z.touch j (by omega);have l:=m.trans j;have W:=S.own;have av:=l.size;have B:=Ab (show(K++[s])++(Ei zs (k-1).toNat J).1=(Ei zs (x % 13 % 7).toNat b).1/\(Ei zs (k-1).toNat J).2=(Ei zs (x % 13 % 7).toNat b).2 by
     have d:=Aa t;rw[show k.toNat=(k-1).toNat+1 by omega]at d;simp only[Ei,Aa S2]at d;exact⟨by rw[<-d.1];simp,d.2⟩)
    clear z A m j t;go_wp2_with (at_builtin;refine wpList_append_own _ rfl _ _ 42 rfl w.heap.size 9 i (Q jK) 1 16 underlying42 hi ad ae af rfl (by decide) _ _ _ rfl (W.alloc _) ⟨w2.heap.size,0,T⟩ 1 1 [Q s] rfl rfl ?c1 ?c2 ?c3 ?c4 ?c5 ?_)
    case c1=>exact cell_one_new _ _ _
    case c2=>intro u hu;simp at hu;subst hu;rfl
    case c3=>unfold maxLen;omega
    case c4=>omega
    case c5=>simp;omega
    intro v' M L aa _;have ab:Below w.heap.size w2 M:=((Below.refl w.heap.size w2).alloc av _).grown aa (by simp;omega) (fun k hk=>(W.lt k hk).1);obtain⟨aw,ax,ac⟩:=Au L;rw[ac]at L|-;clear aa ac;go_wp2
    go_roundw
    case rel=>exact⟨k-1,K++[s],aw,ax,J,by omega,by omega,by simp;omega,by go_num,by rw[zB];rfl,B,DJ.snoc L S.small au,r.after ab ag,l.then_below ab NLN⟩
    case measure=>simp[intOf]<;>omega
   ·have aH: ¬ (0<k):=hk;have aI:K.length<=6:=by omega
    have B:=Ab (show K=(Ei zs (x % 13 % 7).toNat b).1/\q=(Ei zs (x % 13 % 7).toNat b).2 by
     have d:=Aa t;rw[show k.toNat=0 by omega]at d;simp only[Ei,zd]at d;exact d)
    clear t;go_wp2_with fail
    refine(Je _ _ _ _ _ z.strs (by omega)).mono ?_;rintro e aq ⟨E,c4,F,rfl,G,b4,f⟩;have ar:=f.len;go_wp2
    go_ret
    refine⟨E,c4,F,q,rfl,Ab ⟨fun he=>?_,fun _=>?_⟩,by omega,⟨Nu G m.size,Mo f z.small⟩,A.after b4 A.lt,m.then_below b4 m.size⟩
    ·rw[Aa o]at he;exact absurd he (Aa D)
    ·rw[Aa o,<-(Aa B).1];exact⟨f,(Aa B).2⟩
structure Em (w:Z) (a:Option jD) (n c:Nat) (L:List Int):Prop where
 len:L.length=n
 small:n<=1048576
 cells:∀j,(h:j<L.length)->∃b off,a=Y ⟨b,off,T⟩/\b<w.heap.size/\w.cell? ⟨b,off+j,T⟩=Y (U V L[j])
theorem Em.below {B:Nat}{L:List Int}(h:Em w a n c L)(d:Below B w w')(l:w.heap.size<=B):Em w' a n c L:=
 ⟨h.len,h.small,fun j g=>by
  obtain⟨b,f,i,k,c0⟩:=h.cells j g;exact⟨b,f,i,zR k d.size,(d.cell (p:=⟨b,f+j,T⟩) (by show b<B;omega)).trans c0⟩⟩
theorem Ij {e:jI}{size:Nat}{x:Option jD}{n m c:Nat}{a:List jB}(h:w.ownsRow base e size (X x n c) n a)(hm:m<=n):w.ownsRow base e size (X x m c) m (a.take (m*size)):=by
 have j:m*size<=n*size:=Nat.mul_le_mul_right _ hm;refine⟨by rw[List.length_take,h.1];omega,?_⟩;rcases h.2 with⟨hv,k⟩|⟨g,cap,b,hv,h1,d,l,f,h5,i⟩
 ·cases hv;exact .inl ⟨by rw[show m=0 by omega],by omega⟩
 ·cases hv;refine .inr ⟨g,c,b,rfl,h1,d,by omega,f,h5,?_⟩;rw[<-i,List.take_take]
  congr 1
  omega
theorem Af {e:jI}{size:Nat}{n B:Nat}{a:List jB}(h:w.ownsRow base e size v n a)(c:Below B w w')(d:w.heap.size<=B):w'.ownsRow base e size v n a:=by
 refine⟨h.1,?_⟩;rcases h.2 with f|⟨g,cap,i,hv,h1,b,j⟩
 ·exact .inl f
 ·exact .inr ⟨g,cap,i,hv,h1,(c.block g (Nat.lt_of_lt_of_le (Array.getElem?_eq_some_iff.1 b).1 d)).trans b,j⟩
theorem Ae {e size n:Nat}{a:List jB}(h:w.ownsRow base e size v n a):∃x c,v=X x n c/\(0<n->∃g,x=Y ⟨g,0,T⟩/\base<=g/\∀j u,a[j]? =Y u->w.cell? ⟨g,j,T⟩=Y u):=by
 rcases h.2 with⟨rfl,rfl⟩|⟨g,cap,f,rfl,b,_⟩
 ·exact⟨_,_,rfl,fun h=>absurd h (by omega)⟩
 ·refine⟨_,_,rfl,fun _=>⟨g,rfl,b,fun j u hu=>?_⟩⟩;have:=h.cells (g:=g) rfl j u hu;have d:(⟨g,0,T⟩:jD).add j=⟨g,j,T⟩:=by unfold Addr.add;split<;>simp_all
  rwa[d]at this
theorem Ad {e:jI}{size n:Nat}{a:List jB}(h:w.ownsRow base e size v n a)(hd:∀q,v.ownBlock=Y q->w'.heap[q]? =w.heap[q]?):w'.ownsRow base e size v n a:=by
 refine⟨h.1,?_⟩;rcases h.2 with b|⟨g,cap,c,hv,d,hg,f⟩
 ·exact .inl b
 ·exact .inr ⟨g,cap,c,hv,d,(hd g (by rw[hv];rfl)).trans hg,f⟩
theorem Ai {e:jI}{size n:Nat}{a:List jB}(h:w.ownsRow base e size v n a)(p:jD)(u:jB)(hp:∀q,v.ownBlock=Y q->q≠p.block):(w.setCell p u).ownsRow base e size v n a:=
 Ad h (fun q b=>heap_setCell_other w p q u (hp q b))
theorem Ac {B b n size:Nat}{e T:jI}{c:List jB}(R:Ah w b d T)(h:w.ownsRow B e size v n c)(f:T≠e):v.ownBlock≠Y b:=fun a=>by
 rcases h.2 with⟨hv,_⟩|⟨g,cap,i,hv,_,hg,_⟩
 ·rw[hv]at a;cases a
 ·rw[hv]at a;obtain rfl:g=b:=by simpa[Value.ownBlock]using a
  have:=R.out.symm.trans hg;simp at this;exact f this.2
theorem JD {b:Nat}{a c d:jB}(R:Ah w b #[a,c,d] t):w.cell? ⟨b,0,T⟩=Y a/\w.cell? ⟨b,1,T⟩=Y c/\w.cell? ⟨b,2,T⟩=Y d/\∀j,w.frozen? ⟨b,j,T⟩=jA:=
 ⟨R.cell 0,R.cell 1,R.cell 2,fun j=>R.frozen j⟩
structure Vl where
 kind:Int
 num:Int
 text:ByteArray
 names:List ByteArray
structure Cg where
 op:Int
 arg:Int
def Nk (s:ByteArray):Bool:=decide (s.size<=32)&&IJ s.data.toList
def CH (v:Vl):Bool:=
 if v.kind=1 then decide (v.num=0\/v.num=1)&&decide (v.text.size=0)&&decide (v.names.length=0)
 else if v.kind=2 then decide (v.text.size=0)&&decide (v.names.length=0)
 else if v.kind=3 then Nk v.text&&decide (v.num=0)&&decide (v.names.length=0)
 else if v.kind=4 then AR v.names&&decide (v.num=0)&&decide (v.text.size=0)
 else jA
def VH (op:Int):Bool:=decide ((1<=op/\op<=4)\/op=22\/op=23)
def Gl (i:Cg):Bool:=decide (1<=i.op/\i.op<=25)&&(if VH i.op then decide (0<=i.arg/\i.arg<=65535)else decide (i.arg=0))
def Da (P:List Vl) (slots:Int) (I:List Cg):Bool:=decide (P.length<=4000/\I.length<=20000/\0<=slots/\slots<=600)&&P.all CH&&I.all Gl
def BQ (x:Int) (i:Nat):Int:=(x / 2 ^ (8*i)) % 256
def BS (x:Int):Nat->List Int
 |0=> []
 |w+1=>BQ x w ::BS x w
theorem AZ (x:Int):∀w,(BS x w).length=w
 |0=>rfl
 |w+1=>by rw[BS,List.length_cons,AZ x w]
def KM (s:ByteArray):List Int:=s.data.toList.map fun b=>(b.toNat:Int)
theorem IB (s:ByteArray):(KM s).length=s.size:=by
 rw[KM,zU];rfl
def Bn (s:ByteArray):List Int:=BS s.size 1++KM s
def Cw (v:Vl):List Int:=BS v.kind 1++
 (if v.kind=1 then BS v.num 1 else if v.kind=2 then BS v.num 8 else if v.kind=3 then Bn v.text else if v.kind=4 then BS v.names.length 1++v.names.flatMap Bn else [])
def I9 (i:Cg):List Int:=BS i.op 1++BS i.arg 2
def Fb (P:List Vl) (slots:Int) (I:List Cg):List Int:= [80,76,49]++BS P.length 2++P.flatMap Cw++BS slots 2++BS I.length 2++I.flatMap I9
def AA (L:List Int):List jB:=L.map (Value.int .u8)
theorem Ml (x:Int)(i:Nat): 0<=BQ x i/\BQ x i<256:=by unfold BQ;omega
theorem IE {v:Vl}(h:CH v=R):v.kind=1\/v.kind=2\/v.kind=3\/v.kind=4:=by
 unfold CH at h;by_cases h1:v.kind=1
 ·exact .inl h1
 ·by_cases a:v.kind=2
  ·exact .inr (.inl a)
  ·by_cases b:v.kind=3
   ·exact .inr (.inr (.inl b))
   ·by_cases c:v.kind=4
    ·exact .inr (.inr (.inr c))
    ·simp[h1,a,b,c]at h
theorem Gz {ss:List ByteArray}(h:AR ss=R):ss.length<=64/\∀s∈ss,s.size<=32:=by
 by_cases c: 64<ss.length
 ·rw[Nv ss c]at h;cases h
 ·have a:ss.length<=64:=by omega
  rw[Lz ss a,zD]at h;refine⟨a,fun s hs=>?_⟩;obtain⟨j,b,rfl⟩:=z9 hs;have:=(Qp ss).1 h.1 j b;rw[BM ss j b,vnB,zD]at this;exact(of_decide_eq_true this.1).2
theorem Qq {v:Vl}(h:CH v=R):(Cw v).length<=4000:=by
 rw[Cw,zB,AZ];rcases IE h with k|k|k|k
 ·rw[if_pos k,AZ];omega
 ·rw[if_neg (by omega),if_pos k,AZ];omega
 ·rw[if_neg (by omega),if_neg (by omega),if_pos k,Bn,zB,AZ,IB];have:Nk v.text=R:=by
   unfold CH at h;simp[k]at h;exact h.1.1
  rw[Nk,zD]at this;have:=of_decide_eq_true this.1;omega
 ·rw[if_neg (by omega),if_neg (by omega),if_neg (by omega),if_pos k,zB,AZ];have hs:AR v.names=R:=by
   unfold CH at h;simp[k]at h;exact h.1.1
  obtain⟨h1,b⟩:=Gz hs;have:∀(L:List ByteArray),(∀s∈L,s.size<=32)->(L.flatMap Bn).length<=33*L.length:=by
   intro L
   induction L with
   |nil=>intro _;simp
   |cons s L c=>
    intro a;have d:=c (fun x hx=>a x (za _ hx));have f:=a s (zS ..);rw[zm,zB,List.length_cons,Bn,zB,AZ,IB];omega
  have:=this v.names b;omega
inductive Ex where
 |int (i n:Int)
 |text (i:Int) (s:ByteArray)
 |bool (i:Int) (b:Bool)
 |set (i:Int) (a:Option jD) (n c:Nat) (ss:List ByteArray)
 |name (i:Int) (s:ByteArray)
 |attr (i n:Int)
 |lett (i n:Int)
 |un (i op:Int) (k:Ex)
 |bin (i op:Int) (l r:Ex)
 |ite (i:Int) (c t e:Ex)
def Ex.op:Ex->Int
 |.int .. =>1| .text .. =>2| .bool .. =>3| .set .. =>4| .name .. =>5| .attr .. =>6| .lett .. =>7
 |.un _ op _=>op| .bin _ op _ _=>op| .ite .. =>27
def Ex.cnt:Ex->Nat
 |.un _ _ k=>k.cnt+1
 |.bin _ _ l r=>l.cnt+r.cnt+1
 |.ite _ c t e=>c.cnt+t.cnt+e.cnt+1
 |_=>1
def Ex.fit (w:Z):Ex->Prop
 |.int _ n=>0<=n/\n<=9223372036854775807
 |.text _ s=>s.size<=32
 |.bool .. =>True
 |.set _ a n c ss=>AJ w a n c ss/\n<=64/\∀x∈ss,x.size<=32
 |.name _ s=>s.size<=32
 |.attr .. =>False
 |.lett .. =>False
 |.un _ op k=>(8<=op/\op<=10)/\k.fit w
 |.bin _ op l r=>(11<=op/\op<=26)/\l.fit w/\r.fit w
 |.ite _ c t e=>c.fit w/\t.fit w/\e.fit w
inductive Bu (N:List Nd):Nat->Ex->Prop
 |int {i:Nat} {x:Nd} (h:N[i]? =Y x) (ho:x.op=1) (hk:x.kids=[]):Bu N i (.int i x.num)
 |text {i:Nat} {x:Nd} (h:N[i]? =Y x) (ho:x.op=2) (hk:x.kids=[]):Bu N i (.text i x.text)
 |bool {i:Nat} {x:Nd} (h:N[i]? =Y x) (ho:x.op=3) (hk:x.kids=[]):Bu N i (.bool i (decide (x.num=1)))
 |set {i:Nat} {x:Nd} (h:N[i]? =Y x) (ho:x.op=4) (hk:x.kids=[]) (a:Option jD) (n c:Nat):Bu N i (.set i a n c x.names)
 |name {i:Nat} {x:Nd} (h:N[i]? =Y x) (ho:x.op=5) (hk:x.kids=[]):Bu N i (.name i x.text)
 |attr {i:Nat} {x:Nd} (h:N[i]? =Y x) (ho:x.op=6) (hk:x.kids=[]):Bu N i (.attr i x.num)
 |lett {i:Nat} {x:Nd} (h:N[i]? =Y x) (ho:x.op=7) (hk:x.kids=[]):Bu N i (.lett i x.num)
 |un {i k:Nat} {x:Nd} {e:Ex} (h:N[i]? =Y x) (ho: 8<=x.op/\x.op<=10) (hk:x.kids=[(k:Int)]) (hi:k<i) (t:Bu N k e):Bu N i (.un i x.op e)
 |bin {i k l:Nat} {x:Nd} {e f:Ex} (h:N[i]? =Y x) (ho: 11<=x.op/\x.op<=26) (hk:x.kids=[(k:Int),(l:Int)]) (hi:k<i/\l<i) (t:Bu N k e) (u:Bu N l f):Bu N i (.bin i x.op e f)
 |ite {i k l m:Nat} {x:Nd} {e f g:Ex} (h:N[i]? =Y x) (ho:x.op=27) (hk:x.kids=[(k:Int),(l:Int),(m:Int)]) (hi:k<i/\l<i/\m<i) (t:Bu N k e) (u:Bu N l f) (v:Bu N m g):Bu N i (.ite i e f g)
theorem Bu.lt {i:Nat}{e:Ex}(h:Bu N i e):i<N.length:=by
 cases h<;>exact(zZ.1 (by assumption)).1
def LI (Es:List Ex):Nat:=(Es.map Ex.cnt).sum
theorem Jf {a b:Nat}{B:List (Nat×Nat)}(h:Ay (N.map Nd.kids) a B b):∀(Es:List Ex),Es.length=B.length->(∀j,(h1:j<B.length)->(d:j<Es.length)->Bu N B[j].1 Es[j])->a+LI Es=b:=by
 induction h with
 |nil a=>
  intro Es C _;have:Es=[]:=zj C;subst this;simp[LI]
 |@cons a t b E B hk D P H I=>
  intro Es C G
  match Es,C with
  |e ::Es,C=>
   have he:Bu N t e:=G 0 (by simp) (by simp);have S:=I Es (by simpa using C) (fun j h1 d=>G (j+1) (by simpa using h1) (by simpa using d));have J:∃x,N[t]? =Y x/\x.kids=As E:=by
    rw[zk]at D;cases hx:N[t]? with
    |none=>rw[hx]at D;cases D
    |some x=>rw[hx]at D;exact⟨x,rfl,Option.some.inj D⟩
   obtain⟨x,hx,K⟩:=J;have W:a+e.cnt=t+1:=by
    have F:∀(s:List Ex) (w:List Nat),x.kids=w.map (fun (q:Nat)=>(q:Int))->s.length=w.length->(∀j,(h1:j<w.length)->(d:j<s.length)->Bu N w[j] s[j])->a+LI s=t:=by
     intro s w L M O;have e1:E.map (fun p=>p.1)=w:=by
      have:=K.symm.trans L;rw[As]at this;have d:=congrArg (List.map Int.toNat) this;simpa[List.map_map,Function.comp_def]using d
     have e2:E.length=s.length:=by rw[M,<-e1,zU]
     exact(H s e2.symm (fun j h1 d=>by
      have:=O j (by rw[<-e1,zU];exact h1) d;have e3:w[j]'(by rw[<-e1,zU];exact h1)=E[j].1:=by simp[<-e1]
      rw[<-e3];exact this))
    have o:∀{y:Nd},N[t]? =Y y->y=x:=fun h=>Option.some.inj (h.symm.trans hx);have A:x.kids=[]->a=t:=fun h0=>by
     have:=F [] [] (by rw[h0];rfl) rfl (fun j h=>absurd h (by simp));simpa[LI]using this
    cases he with
    |int h r hk=>rw[A (o h ▸ hk)];rfl
    |text h r hk=>rw[A (o h ▸ hk)];rfl
    |bool h r hk=>rw[A (o h ▸ hk)];rfl
    |set h r hk a n c=>rw[A (o h ▸ hk)];rfl
    |name h r hk=>rw[A (o h ▸ hk)];rfl
    |attr h r hk=>rw[A (o h ▸ hk)];rfl
    |lett h r hk=>rw[A (o h ▸ hk)];rfl
    |@un i k y e h r hk hi u=>
     have:=F [e] [k] (by rw[<-o h,hk];rfl) rfl (fun j h1 d=>by
      have:j=0:=by simpa using h1
      subst this;exact u)
     simp[LI]at this;simp only[Ex.cnt];omega
    |@bin i k l y e f h r hk hi u v=>
     have:=F [e,f] [k,l] (by rw[<-o h,hk];rfl) rfl (fun j h1 d=>by
      match j,h1 with
      |0,_=>exact u
      |1,_=>exact v)
     simp[LI]at this;simp only[Ex.cnt];omega
    |@ite i k l m y e f g h r hk hi u v z=>
     have:=F [e,f,g] [k,l,m] (by rw[<-o h,hk];rfl) rfl (fun j h1 d=>by
      match j,h1 with
      |0,_=>exact u
      |1,_=>exact v
      |2,_=>exact z)
     simp[LI]at this;simp only[Ex.cnt];omega
   have e5:LI (e ::Es)=e.cnt+LI Es:=by simp[LI]
   rw[e5];omega
def BL (n:Int):Int:=if n<2 then 3 else if n<4 then 2 else 4
def Ca (op:Int):List Int->Int
 |[a]=>if op=8/\a=2 then 2 else if op=9/\a=1 then 1 else if op=10/\a=4 then 2 else 0
 |[a,b]=>if (11<=op/\op<=15)/\a=2/\b=2 then 2 else if (16<=op/\op<=18)/\a=4/\b=4 then 4
  else if (op=19\/op=20)/\a=b then 1 else if (op=21\/op=22)/\a=2/\b=2 then 1 else if op=23/\a=3/\b=4 then 1
  else if op=24/\a=4/\b=4 then 1 else if (op=25\/op=26)/\a=1/\b=1 then 1 else 0
 |[a,b,c]=>if a=1/\b=c then b else 0
 |_=>0
def nz (t:Int):Option Int:=if t=0 then T else Y t
theorem Qt (n:Int): 1<=BL n/\BL n<=4:=by unfold BL;repeat' split<;>try decide
theorem H6 {t a:Int}(h:nz t=Y a):t=a/\a≠0:=by
 unfold nz at h;split at h
 ·cases h
 ·cases h;exact⟨rfl,by assumption⟩
def AE (ts:List Int):Ex->Option Int
 |.int .. =>Y 2
 |.text .. =>Y 3
 |.bool .. =>Y 1
 |.set .. =>Y 4
 |.name .. =>T
 |.attr _ n=>Y (BL n)
 |.lett _ n=>if 0<=n then ts[n.toNat]? else T
 |.un _ op k=>match AE ts k with
  |some a=>nz (Ca op [a])
  |none=>T
 |.bin _ op l r=>match AE ts l with
  |some a=>match AE ts r with
   |some b=>nz (Ca op [a,b])
   |none=>T
  |none=>T
 |.ite _ c t e=>match AE ts c with
  |some a=>match AE ts t with
   |some b=>match AE ts e with
    |some d=>nz (Ca 27 [a,b,d])
    |none=>T
   |none=>T
  |none=>T
def Ex.kids:Ex->List Ex
 |.un _ _ k=> [k]
 |.bin _ _ l r=> [l,r]
 |.ite _ c t e=> [c,t,e]
 |_=> []
def CB (ts:List Int):Ex->List Int
 |.un i op k=>CB ts k++[(AE ts (.un i op k)).getD 0]
 |.bin i op l r=>CB ts l++CB ts r++[(AE ts (.bin i op l r)).getD 0]
 |.ite i c t e=>CB ts c++CB ts t++CB ts e++[(AE ts (.ite i c t e)).getD 0]
 |e=> [(AE ts e).getD 0]
theorem Fg (ts:List Int):∀(e:Ex),(CB ts e).length=e.cnt
 |.int ..| .text ..| .bool ..| .set ..| .name ..| .attr ..| .lett .. =>rfl
 |.un _ _ k=>by simp[CB,Ex.cnt,Fg ts k]
 |.bin _ _ l r=>by simp[CB,Ex.cnt,Fg ts l,Fg ts r];omega
 |.ite _ c t e=>by simp[CB,Ex.cnt,Fg ts c,Fg ts t,Fg ts e];omega
def Ex.typed:Ex->Prop
 |.name .. =>False
 |.attr _ n=>0<=n/\n<6
 |.un _ op k=>(8<=op/\op<=10)/\k.typed
 |.bin _ op l r=>(11<=op/\op<=26)/\l.typed/\r.typed
 |.ite _ c t e=>c.typed/\t.typed/\e.typed
 |_=>True
structure Dm where
 pool:List Vl
 slots:Nat
 ins:List Cg
structure I5 where
 op:Int
 arg:Int
 val:Vl
def Ax:Vl:=⟨0,0,⟨#[]⟩,[]⟩
def exV:Ex->Vl
 |.int _ n=>⟨2,n,⟨#[]⟩,[]⟩
 |.text _ s=>⟨3,0,s,[]⟩
 |.bool _ b=>⟨1,if b then 1 else 0,⟨#[]⟩,[]⟩
 |.set _ _ _ _ ss=>⟨4,0,⟨#[]⟩,ss⟩
 |_=>Ax
open Classical in
noncomputable def FU (v:Vl):List Vl->Nat->Option Nat
 |[],_=>T
 |u ::r,k=>if u=v then Y k else FU v r (k+1)
noncomputable def Ur (P:List Vl) (v:Vl):Nat:=(FU v P 0).getD P.length
noncomputable def Qd (P:List Vl) (v:Vl):List Vl:=if (FU v P 0).isSome then P else P++[v]
noncomputable def A6 (s:Dm) (i:I5):Dm:=if i.op=1 then ⟨Qd s.pool i.val,s.slots,s.ins++[⟨1,Ur s.pool i.val⟩]⟩else ⟨s.pool,s.slots,s.ins++[⟨i.op,i.arg⟩]⟩
noncomputable def AY (s:Dm) (L:List I5):Dm:=L.foldl A6 s
theorem DZ (s:Dm)(L M:List I5):AY s (L++M)=AY (AY s L) M:=List.foldl_append ..
theorem Gt (s:Dm)(i:I5):AY s [i]=A6 s i:=rfl
theorem Ep (s:Dm)(i:I5):(A6 s i).ins.length=s.ins.length+1:=by unfold A6;split<;>simp
theorem Cf:∀(L:List I5) (s:Dm),(AY s L).ins.length=s.ins.length+L.length
 |[],s=>rfl
 |i ::L,s=>by
  show(AY (A6 s i) L).ins.length=_;rw[Cf L,Ep,List.length_cons];omega
def CM (s:Dm) (at_:Nat) (arg:Int):Dm:=⟨s.pool,s.slots,s.ins.modify at_ fun i=>⟨i.op,arg⟩⟩
theorem Qe (s:Dm)(k:Nat)(a:Int)(i:I5)(h:k<s.ins.length):A6 (CM s k a) i=CM (A6 s i) k a:=by
 unfold A6 CM;have q:∀x:Cg,(s.ins.modify k fun i=>⟨i.op,a⟩)++[x]=(s.ins++[x]).modify k fun i=>⟨i.op,a⟩:=fun x=>by
  apply List.ext_getElem?;intro j;rw[List.getElem?_modify];by_cases b:j<s.ins.length
  ·rw[z2 (by simpa using b),z2 b,List.getElem?_modify]
  ·rw[z8 (by simpa using b),z8 (by omega),List.length_modify];have: ¬ k=j:=by omega
   simp[this]
 split
 ·simp only[q]
 ·simp only[q]
theorem Hz:∀(L:List I5) (s:Dm) (k:Nat) (a:Int),k<s.ins.length->AY (CM s k a) L=CM (AY s L) k a
 |[],s,k,a,_=>rfl
 |i ::L,s,k,a,h=>by
  show AY (A6 (CM s k a) i) L=CM (AY (A6 s i) L) k a;rw[Qe s k a i h,Hz L (A6 s i) k a (by rw[Ep];omega)]
theorem Lv (s:Dm)(op:Int)(a:Int)(h:op≠1):CM (A6 s ⟨op,0,Ax⟩) s.ins.length a=A6 s ⟨op,a,Ax⟩:=by
 unfold A6 CM;rw[if_neg h,if_neg h];simp only[Dm.mk.injEq,true_and];apply List.ext_getElem?;intro j;rw[List.getElem?_modify];by_cases b:j<s.ins.length
 ·have: ¬ s.ins.length=j:=by omega
  rw[z2 b,z2 b];simp[this]
 ·rw[z8 (by omega),z8 (by omega)];by_cases e:j=s.ins.length
  ·subst e;simp
  ·have: ¬ s.ins.length=j:=fun q=>e q.symm;have:j-s.ins.length≠0:=by omega
   simp[*]
def Ar:Ex->Nat->List I5
 |.attr _ n,_=> [⟨2,n,Ax⟩]
 |.lett _ n,_=> [⟨3,n,Ax⟩]
 |.un _ op k,a=>Ar k a++[⟨op-3,0,Ax⟩]
 |.bin _ op l r,a=>
  let x:=(Ar l a).length
  if op=25 then
   let y:=(Ar r (a+x+1)).length
   Ar l a++[⟨23,(a+x+y+2 :Nat),Ax⟩]++Ar r (a+x+1)++[⟨22,(a+x+y+3 :Nat),Ax⟩]++[⟨1,0,⟨1,0,⟨#[]⟩,[]⟩⟩]
  else if op=26 then
   let y:=(Ar r (a+x+3)).length
   Ar l a++[⟨23,(a+x+3 :Nat),Ax⟩]++[⟨1,0,⟨1,1,⟨#[]⟩,[]⟩⟩]++[⟨22,(a+x+3+y:Nat),Ax⟩]++Ar r (a+x+3)
  else Ar l a++Ar r (a+x)++[⟨op-3,0,Ax⟩]
 |.ite _ c t e,a=>
  let x:=(Ar c a).length
  let y:=(Ar t (a+x+1)).length
  let z:=(Ar e (a+x+y+2)).length
  Ar c a++[⟨23,(a+x+y+2 :Nat),Ax⟩]++Ar t (a+x+1)++[⟨22,(a+x+y+2+z:Nat),Ax⟩]++Ar e (a+x+y+2)
 |e,_=> [⟨1,0,exV e⟩]
def Am:Ex->Nat
 |.un _ _ k=>1+Am k
 |.bin _ op l r=>if op=25\/op=26 then 1+Am l+Am r+2 else 1+Am l+Am r
 |.ite _ c t e=>1+Am c+Am t+Am e+1
 |_=>1
theorem AM:∀(e:Ex) (a:Nat),(Ar e a).length=Am e
 |.int ..,_=>rfl
 |.text ..,_=>rfl
 |.bool ..,_=>rfl
 |.set ..,_=>rfl
 |.name ..,_=>rfl
 |.attr ..,_=>rfl
 |.lett ..,_=>rfl
 |.un _ op k,a=>by simp only[Ar,Am,zB,AM k,List.length_cons,List.length_nil];omega
 |.bin _ op l r,a=>by
  simp only[Ar,Am];by_cases h1:op=25
  ·rw[if_pos h1,if_pos (.inl h1)];simp only[zB,AM l,AM r,List.length_cons,List.length_nil];omega
  rw[if_neg h1];by_cases b:op=26
  ·rw[if_pos b,if_pos (.inr b)];simp only[zB,AM l,AM r,List.length_cons,List.length_nil];omega
  rw[if_neg b,if_neg (by omega)];simp only[zB,AM l,AM r,List.length_cons,List.length_nil];omega
 |.ite _ c t e,a=>by simp only[Ar,Am,zB,AM c,AM t,AM e,List.length_cons,List.length_nil];omega
noncomputable def Jb (fc ft fe:Dm->Dm) (s:Dm):Dm:=
 let s1:=fc s
 let s2:=A6 s1 ⟨23,0,Ax⟩
 let s3:=ft s2
 let s4:=A6 s3 ⟨22,0,Ax⟩
 let s5:=CM s4 s1.ins.length s4.ins.length
 let s6:=fe s5
 CM s6 s3.ins.length s6.ins.length
noncomputable def Nl (v:Vl) (s:Dm):Dm:=A6 s ⟨1,0,v⟩
noncomputable def Iy:Ex->Dm->Dm
 |.attr _ n,s=>A6 s ⟨2,n,Ax⟩
 |.lett _ n,s=>A6 s ⟨3,n,Ax⟩
 |.un _ op k,s=>A6 (Iy k s) ⟨op-3,0,Ax⟩
 |.bin _ op l r,s=>if op=25 then Jb (Iy l) (Iy r) (Nl ⟨1,0,⟨#[]⟩,[]⟩) s else if op=26 then Jb (Iy l) (Nl ⟨1,1,⟨#[]⟩,[]⟩) (Iy r) s else A6 (Iy r (Iy l s)) ⟨op-3,0,Ax⟩
 |.ite _ c t e,s=>Jb (Iy c) (Iy t) (Iy e) s
 |e,s=>Nl (exV e) s
theorem Lw {fc ft fe:Dm->Dm}{C T E:List I5}(s:Dm)(hc:fc s=AY s C)(f:∀a,a.ins.length=s.ins.length+C.length+1->ft a=AY a T)(he:∀a,a.ins.length=s.ins.length+C.length+T.length+2->fe a=AY a E):
  Jb fc ft fe s=AY s (C++[⟨23,(s.ins.length+C.length+T.length+2 :Nat),Ax⟩]++T++[⟨22,(s.ins.length+C.length+T.length+2+E.length:Nat),Ax⟩]++E):=by
 unfold Jb;have l1:(fc s).ins.length=s.ins.length+C.length:=by rw[hc,Cf]
 have b:(A6 (fc s) ⟨23,0,Ax⟩).ins.length=s.ins.length+C.length+1:=by rw[Ep,l1]
 have e3:=f _ b;have d:(ft (A6 (fc s) ⟨23,0,Ax⟩)).ins.length=s.ins.length+C.length+1+T.length:=by rw[e3,Cf,b]
 have g:(A6 (ft (A6 (fc s) ⟨23,0,Ax⟩)) ⟨22,0,Ax⟩).ins.length=s.ins.length+C.length+T.length+2:=by rw[Ep,d];omega
 have e5:CM (A6 (ft (A6 (fc s) ⟨23,0,Ax⟩)) ⟨22,0,Ax⟩) (fc s).ins.length (s.ins.length+C.length+T.length+2 :Nat)=A6 (AY (A6 (fc s) ⟨23,(s.ins.length+C.length+T.length+2 :Nat),Ax⟩) T) ⟨22,0,Ax⟩:=by
  rw[e3,<-Qe _ _ _ _ (by rw[Cf,b];omega),<-Hz _ _ _ _ (by rw[b];omega),Lv _ _ _ (by decide)]
 have c:(A6 (AY (A6 (fc s) ⟨23,(s.ins.length+C.length+T.length+2 :Nat),Ax⟩) T) ⟨22,0,Ax⟩).ins.length=s.ins.length+C.length+T.length+2:=by
  rw[Ep,Cf,Ep,l1];omega
 simp only[g];rw[e5,he _ c,d];have h:(AY (A6 (AY (A6 (fc s) ⟨23,(s.ins.length+C.length+T.length+2 :Nat),Ax⟩) T) ⟨22,0,Ax⟩) E).ins.length=s.ins.length+C.length+T.length+2+E.length:=by rw[Cf,c]
 rw[h,<-Hz _ _ _ _ (by rw[c];omega)];have i:s.ins.length+C.length+1+T.length=(AY (A6 (fc s) ⟨23,(s.ins.length+C.length+T.length+2 :Nat),Ax⟩) T).ins.length:=by rw[Cf,Ep,l1]
 rw[i,Lv _ _ _ (by decide),hc];simp only[DZ,Gt]
theorem Fc:∀(e:Ex) (s:Dm),Iy e s=AY s (Ar e s.ins.length)
 |.int ..,s=>rfl
 |.text ..,s=>rfl
 |.bool ..,s=>rfl
 |.set ..,s=>rfl
 |.name ..,s=>rfl
 |.attr ..,s=>rfl
 |.lett ..,s=>rfl
 |.un _ op k,s=>by rw[Iy,Ar,Fc k,DZ,Gt]
 |.bin _ op l r,s=>by
  rw[Iy,Ar];by_cases h1:op=25
  ·rw[if_pos h1,if_pos h1,Lw (fc:=Iy l) (ft:=Iy r) (fe:=Nl ⟨1,0,⟨#[]⟩,[]⟩) (C:=Ar l s.ins.length) (T:=Ar r (s.ins.length+(Ar l s.ins.length).length+1)) (E:= [⟨1,0,⟨1,0,⟨#[]⟩,[]⟩⟩]) s (Fc l s) (fun a h=>by rw[Fc r a,h]) (fun a h=>rfl)];rfl
  rw[if_neg h1,if_neg h1];by_cases b:op=26
  ·rw[if_pos b,if_pos b,Lw (fc:=Iy l) (ft:=Nl ⟨1,1,⟨#[]⟩,[]⟩) (fe:=Iy r) (C:=Ar l s.ins.length) (T:= [⟨1,0,⟨1,1,⟨#[]⟩,[]⟩⟩]) (E:=Ar r (s.ins.length+(Ar l s.ins.length).length+3)) s (Fc l s) (fun a h=>rfl) (fun a h=>by rw[Fc r a,h];rfl)];rfl
  rw[if_neg b,if_neg b,Fc l,Fc r,Cf,DZ,DZ,Gt]
 |.ite _ c t e,s=>by
  rw[Iy,Ar,Lw (fc:=Iy c) (ft:=Iy t) (fe:=Iy e) (C:=Ar c s.ins.length) (T:=Ar t (s.ins.length+(Ar c s.ins.length).length+1)) (E:=Ar e (s.ins.length+(Ar c s.ins.length).length+(Ar t (s.ins.length+(Ar c s.ins.length).length+1)).length+2)) s (Fc c s) (fun a h=>by rw[Fc t a,h]) (fun a h=>by rw[Fc e a,h])]
def Dm.withS (s:Dm) (k:Nat):Dm:=⟨s.pool,k,s.ins⟩
theorem XO (s:Dm)(k:Nat)(i:I5):A6 (s.withS k) i=(A6 s i).withS k:=by
 unfold A6 Dm.withS;split<;>rfl
theorem OF:∀(L:List I5) (s:Dm) (k:Nat),AY (s.withS k) L=(AY s L).withS k
 |[],s,k=>rfl
 |i ::L,s,k=>by
  show AY (A6 (s.withS k) i) L=(AY (A6 s i) L).withS k;rw[XO,OF L]
theorem XP (s:Dm)(i:I5):(A6 s i).slots=s.slots:=by unfold A6;split<;>rfl
theorem JM:∀(L:List I5) (s:Dm),(AY s L).slots=s.slots
 |[],s=>rfl
 |i ::L,s=>by
  show(AY (A6 s i) L).slots=_;rw[JM L,XP]
def Dh (Es:List Ex) (c:Int):Ex:=Es.getD c.toNat (.int 0 0)
noncomputable def cpD (Es:List Ex) (g:Int) (s:Dm):Dm:=if g= -1 then A6 s ⟨24,0,Ax⟩else A6 (Iy (Dh Es g) s) ⟨25,0,Ax⟩
noncomputable def Vk (Es:List Ex) (s:Dm) (t:St):Dm:=
 if t.kind=1 then (A6 (Iy (Dh Es t.cond) s) ⟨4,(s.slots:Int),Ax⟩).withS (s.slots+1)
 else if t.kind=2 then
  let s1:=Iy (Dh Es t.cond) s
  let s3:=cpD Es t.grant (A6 s1 ⟨23,0,Ax⟩)
  CM s3 s1.ins.length s3.ins.length
 else cpD Es t.grant s
def hD (Es:List Ex) (g:Int) (a:Nat):List I5:=if g= -1 then [⟨24,0,Ax⟩]else Ar (Dh Es g) a++[⟨25,0,Ax⟩]
def KO (Es:List Ex) (k a:Nat) (t:St):List I5:=
 if t.kind=1 then Ar (Dh Es t.cond) a++[⟨4,(k:Int),Ax⟩]
 else if t.kind=2 then
  let x:=(Ar (Dh Es t.cond) a).length
  Ar (Dh Es t.cond) a++[⟨23,(a+x+1+(hD Es t.grant (a+x+1)).length:Nat),Ax⟩]++hD Es t.grant (a+x+1)
 else hD Es t.grant a
def KR (t:St):Nat:=if t.kind=1 then 1 else 0
theorem Ab5 (Es:List Ex)(g:Int)(s:Dm):cpD Es g s=AY s (hD Es g s.ins.length):=by
 unfold cpD hD;split
 ·rfl
 ·rw[Fc,DZ,Gt]
theorem Ab6 (Es:List Ex)(s:Dm)(t:St):Vk Es s t=(AY s (KO Es s.slots s.ins.length t)).withS (s.slots+KR t):=by
 unfold Vk KO KR;by_cases h1:t.kind=1
 ·rw[if_pos h1,if_pos h1,if_pos h1,Fc,DZ,Gt]
 rw[if_neg h1,if_neg h1,if_neg h1];have id:∀X:Dm,X.slots=s.slots->X.withS (s.slots+0)=X:=fun X h=>by cases X;simp only[Dm.withS,Dm.mk.injEq,true_and]at h|-;exact⟨by omega,trivial⟩
 by_cases a:t.kind=2
 ·rw[if_pos a,if_pos a,id _ (JM _ _)];have l1:(Iy (Dh Es t.cond) s).ins.length=s.ins.length+(Ar (Dh Es t.cond) s.ins.length).length:=by rw[Fc,Cf]
  have b:(A6 (Iy (Dh Es t.cond) s) ⟨23,0,Ax⟩).ins.length=s.ins.length+(Ar (Dh Es t.cond) s.ins.length).length+1:=by rw[Ep,l1]
  simp only[Ab5,b,Cf];rw[<-Hz _ _ _ _ (by rw[b];omega),Lv _ _ _ (by decide),Fc];simp only[DZ,Gt]
 ·rw[if_neg a,if_neg a,id _ (JM _ _),Ab5]
noncomputable def JN (Es:List Ex) (s:Dm) (L:List St):Dm:=L.foldl (Vk Es) s
def CC (Es:List Ex):Nat->Nat->List St->List I5
 |_,_,[]=> []
 |k,a,t ::L=>KO Es k a t++CC Es (k+KR t) (a+(KO Es k a t).length) L
def Db (L:List St):Nat:=(L.map KR).sum
theorem Qf (Es:List Ex):∀(L:List St) (s:Dm),JN Es s L=(AY s (CC Es s.slots s.ins.length L)).withS (s.slots+Db L)
 |[],s=>rfl
 |t ::L,s=>by
  show JN Es (Vk Es s t) L=_;rw[Qf Es L (Vk Es s t),Ab6];have l1:((AY s (KO Es s.slots s.ins.length t)).withS (s.slots+KR t)).ins.length=s.ins.length+(KO Es s.slots s.ins.length t).length:=Cf _ _;rw[l1,OF,CC,DZ];simp only[Dm.withS,Db,List.map_cons,List.sum_cons,Z1]
noncomputable def Lh (Es:List Ex) (L:List St):Dm:=JN Es ⟨[],0,[]⟩ L
theorem PX (Es:List Ex)(L:List St):Lh Es L=(AY ⟨[],0,[]⟩ (CC Es 0 0 L)).withS (Db L):=by
 rw[Lh,Qf];show Dm.withS _ (0+Db L)=_;rw[zP];rfl
theorem Qg {v:Vl} :∀{P:List Vl} {a k:Nat},FU v P a=Y k->a<=k/\∃h:k-a<P.length,P[k-a]=v
 |[],a,k,h=>by cases h
 |u ::r,a,k,h=>by
  rw[FU]at h;by_cases e:u=v
  ·rw[if_pos e]at h;cases h;exact⟨NLN,by simp,by simp[e]⟩
  ·rw[if_neg e]at h;obtain⟨h1,c,b⟩:=Qg h;refine⟨by omega,by simp;omega,?_⟩;have:k-a=(k-(a+1))+1:=by omega
   simp only[this,yF];exact b
structure GW (S:Nat->Prop) (w w':Z):Prop where
 os:w'.os=w.os
 tape:w'.tape=w.tape
 output:w'.output=w.output
 size:w.heap.size<=w'.heap.size
 block:∀k,k<w.heap.size->¬ S k->w'.heap[k]? =w.heap[k]?
theorem GW.of_below {S:Nat->Prop}(h:Below w.heap.size w w'):GW S w w':=⟨h.os,h.tape,h.output,h.size,fun k hk _=>h.block k hk⟩
theorem GW.refl (S:Nat->Prop)(w:Z):GW S w w:=⟨rfl,rfl,rfl,NLN,fun _ _ _=>rfl⟩
theorem GW.setCell {S:Nat->Prop}{a b:Z}(h:GW S a b){p:jD}(hp:p.block<a.heap.size->S p.block)(u:jB):GW S a (b.setCell p u):=
 ⟨h.os,h.tape,h.output,by simpa using h.size,fun q c d=>(heap_setCell_other b p q u (fun e=>d (by subst e;exact hp c))).trans (h.block q c d)⟩
theorem Cr {b:Nat}{a:Array jB}{row:Option Nat}(h:Ah w b a t)(g:w.grownBy w' row)(c:Y b≠row):Ah w' b a t:=⟨(g.block b h.lt c).trans h.out⟩
theorem IZ:(jL.info? 49).map (fun i=>(i.zero,i.size,i.bytes))=Y (Y (.agg #[U V 0,U V 0]),2,16):=by kernel_rfl
def Cm (I:List Cg):List jB:=I.flatMap fun i=> [U V i.op,U V i.arg]
theorem Nj (I:List Cg)(i:Cg):Cm (I++[i])=Cm I++[U V i.op,U V i.arg]:=by
 rw[Cm,Z3];rfl
theorem AC {b:Nat}{a c d f:jB}(R:Ah w b #[a,c,d,f] t):w.cell? ⟨b,0,T⟩=Y a/\w.cell? ⟨b,1,T⟩=Y c/\w.cell? ⟨b,2,T⟩=Y d/\w.cell? ⟨b,3,T⟩=Y f:=⟨R.cell 0,R.cell 1,R.cell 2,R.cell 3⟩
theorem Ot:∀(I:List Cg) (k:Nat) (a:Int),k<I.length->(Cm I).set (k*2+1) (U V a)=Cm (I.modify k fun i=>⟨i.op,a⟩)
 |[],k,a,h=>by simp at h
 |i ::I,0,a,_=>rfl
 |i ::I,k+1,a,h=>by
  have:=Ot I k a (by simpa using h);show(Value.int V i.op ::Value.int V i.arg ::Cm I).set ((k+1)*2+1) _=Value.int V i.op ::Value.int V i.arg ::Cm (I.modify k fun i=>⟨i.op,a⟩);rw[show(k+1)*2+1=(k*2+1)+1+1 by omega,zQ,zQ,this]
theorem Hm:∀(I:List Cg) (k:Nat) (h:k<I.length),(Cm I)[k*2]? =Y (U V I[k].op)/\(Cm I)[k*2+1]? =Y (U V I[k].arg)
 |[],k,h=>by simp at h
 |i ::I,0,_=>⟨rfl,rfl⟩
 |i ::I,k+1,h=>by
  have:=Hm I k (by simpa using h);rw[show(k+1)*2=k*2+1+1 by omega];exact this
theorem Gh {a:Array jB}(h:∀b:Z,Below w.heap.size w b->Ah b w.heap.size a t->P b):P (w.alloc (jC a t)):=
 h _ ((Below.refl w.heap.size w).alloc NLN _) (Ah.new w _ _)
theorem Vh {a b:Array jB}(h:∀c:Z,Below w.heap.size w c->Ah c w.heap.size a t->Ah c (w.heap.size+1) b u->P c):P ((w.alloc (jC a t)).alloc (jC b u)):=
 Gh (P:=P) fun c B R=>by
  have e:(w.alloc (jC a t)).heap.size=w.heap.size+1:=by simp
  exact h c (((Below.refl w.heap.size w).alloc NLN _).trans (B.mono (by simp))) ((Ah.new w _ _).after B NLN) (by rw[<-e];exact R)
theorem PW {a b c:Array jB}{v:jI}(h:∀d:Z,Below w.heap.size w d->Ah d w.heap.size a t->Ah d (w.heap.size+1) b u->Ah d (w.heap.size+1+1) c v->P d):P (((w.alloc (jC a t)).alloc (jC b u)).alloc (jC c v)):=
 Vh (P:=P) fun d B R S=>by
  have e:(w.alloc (jC a t)).heap.size=w.heap.size+1:=by simp
  rw[e]at R S;exact h d (((Below.refl w.heap.size w).alloc NLN _).trans (B.mono (by simp))) ((Ah.new w _ _).after B NLN) R S
structure Aih (p:Prop):Prop where
 out:p
theorem Aib {P Q:Prop}(h:Aih P->Q)(p:P):Q:=h ⟨p⟩
end
end Go.Proofs.YtppafecmccdplaaGreat
