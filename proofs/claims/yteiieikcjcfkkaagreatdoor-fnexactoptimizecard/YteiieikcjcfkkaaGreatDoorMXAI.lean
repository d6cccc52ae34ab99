import Derived.Test.YteiieikcjcfkkaaGreatDoorMXAG
import Derived.Test.YteiieikcjcfkkaaGreatDoorMXAJ
open Go.Proofs.Tryz
open Option renaming none->T,some->X
open Go.Value renaming int->U,slice->Y,string->Q,iface->jB,agg->jG,nilIface->jL,tuple->jO,ownBlock->ja
open Go.IntKind renaming i64->V
open Go renaming World->Z,Value->R,Calls->jE,TypeId->jJ,run_underlying->jl
open Go.Obj renaming cells->jF
open Go.Ending renaming returned->jH
open Go.World renaming size_alloc->jW
open Go.Instr renaming typeAssert->ji
open Go.Proofs.Tryz renaming prog->j4
namespace Go.Proofs.YteiieikcjcfkkaaGreatDoor
open Go.RowKit
set_option linter.unusedVariables false
variable {a:Array Field}{K:List (List Int)}{S:List (Nat×Nat)}{ks:List Int}{N:List Nd}{b d:List R}{i f n:Nat}{t e':jJ}{v:R}{w w':Z}
theorem Ex.form (e:Ex):∃t u,e.val=jB t u:=by cases e<;>exact⟨_,_,rfl⟩
theorem De {T:jJ}(b: j4.underlying T=X (.struct a))(c:jJ)(v:R)(w:Z):(ji (jB T v) c T true).run j4 w= .ok (jO #[v,.bool true]) w:=by simp[ji,jl b]
theorem A8 {S T:jJ}{z:R}(b: j4.underlying T=X (.struct a))(c:∀w,(zeroValue T).run j4 w= .ok z w)(h:S≠T)(d:jJ)(v:R)(w:Z):(ji (jB S v) d T true).run j4 w= .ok (jO #[z,.bool false]) w:=by simp[ji,jl b,c,h]
set_option maxRecDepth 100000
def Mm (T:jJ) (F G:FuncId) (v x:R):Prop:=(∀w,(method 422 T v "loop.example/s01308/impl.kids").run j4 w= .ok (F,x) w)/\∀w,(method 422 T v "loop.example/s01308/impl.place").run j4 w= .ok (G,x) w
theorem Ajk (h:t∈ [220,222,177,218,224,225,173])(i:Int)(v:R):Mm t 229 230 (jG #[U V i,v]) (U V i):=by
 simp only[zP,List.not_mem_nil,or_false]at h;rcases h with rfl|rfl|rfl|rfl|rfl|rfl|rfl<;>exact⟨fun _=>by kernel_rfl,fun _=>by kernel_rfl⟩
theorem Te (A:Array R):Mm 166 225 226 (jG A) (jG A)/\Mm 168 227 228 (jG A) (jG A)/\Mm 213 231 232 (jG A) (jG A):=by
 refine⟨⟨?_,?_⟩,⟨?_,?_⟩,?_,?_⟩<;>intro _<;>kernel_rfl
theorem Wc (i n:Int):∀w,(method 422 220 (jG #[U V i,U V n]) "loop.example/s01308/impl.kids").run j4 w= .ok (229,U V i) w:=fun _=>by kernel_rfl
theorem Tf (i:Int)(s:ByteArray):∀w,(method 422 222 (jG #[U V i,Q s]) "loop.example/s01308/impl.kids").run j4 w= .ok (229,U V i) w:=fun _=>by kernel_rfl
theorem Tg (i:Int)(b:Bool):∀w,(method 422 177 (jG #[U V i,.bool b]) "loop.example/s01308/impl.kids").run j4 w= .ok (229,U V i) w:=fun _=>by kernel_rfl
theorem We (i:Int)(a:Option Addr)(n c:Nat):∀w,(method 422 218 (jG #[U V i,Y a n c]) "loop.example/s01308/impl.kids").run j4 w= .ok (229,U V i) w:=fun _=>by kernel_rfl
theorem AbG (i:Int)(a:Option Addr)(n c:Nat):∀w,(method 422 218 (jG #[U V i,Y a n c]) "loop.example/s01308/impl.place").run j4 w= .ok (230,U V i) w:=fun _=>by kernel_rfl
theorem Th (i:Int)(s:ByteArray):∀w,(method 422 224 (jG #[U V i,Q s]) "loop.example/s01308/impl.kids").run j4 w= .ok (229,U V i) w:=fun _=>by kernel_rfl
theorem Tj (i n:Int):∀w,(method 422 225 (jG #[U V i,U V n]) "loop.example/s01308/impl.kids").run j4 w= .ok (229,U V i) w:=fun _=>by kernel_rfl
theorem YL (i n:Int):∀w,(method 422 225 (jG #[U V i,U V n]) "loop.example/s01308/impl.place").run j4 w= .ok (230,U V i) w:=fun _=>by kernel_rfl
theorem Tk (i n:Int):∀w,(method 422 173 (jG #[U V i,U V n]) "loop.example/s01308/impl.kids").run j4 w= .ok (229,U V i) w:=fun _=>by kernel_rfl
theorem YM (i n:Int):∀w,(method 422 173 (jG #[U V i,U V n]) "loop.example/s01308/impl.place").run j4 w= .ok (230,U V i) w:=fun _=>by kernel_rfl
theorem Aay (i op:Int)(t:jJ)(u:R):∀w,(method 422 166 (jG #[U V i,U V op,jB t u]) "loop.example/s01308/impl.kids").run j4 w= .ok (225,jG #[U V i,U V op,jB t u]) w:=fun _=>by kernel_rfl
theorem AdG (i op:Int)(t:jJ)(u:R):∀w,(method 422 166 (jG #[U V i,U V op,jB t u]) "loop.example/s01308/impl.place").run j4 w= .ok (226,jG #[U V i,U V op,jB t u]) w:=fun _=>by kernel_rfl
theorem Wf (i op:Int)(t:jJ)(u:R)(a:jJ)(b:R):∀w,(method 422 168 (jG #[U V i,U V op,jB t u,jB a b]) "loop.example/s01308/impl.kids").run j4 w= .ok (227,jG #[U V i,U V op,jB t u,jB a b]) w:=fun _=>by kernel_rfl
theorem AbH (i op:Int)(t:jJ)(u:R)(a:jJ)(b:R):∀w,(method 422 168 (jG #[U V i,U V op,jB t u,jB a b]) "loop.example/s01308/impl.place").run j4 w= .ok (228,jG #[U V i,U V op,jB t u,jB a b]) w:=fun _=>by kernel_rfl
theorem Wg (i:Int)(t:jJ)(u:R)(a:jJ)(b:R)(c:jJ)(d:R):∀w,(method 422 213 (jG #[U V i,jB t u,jB a b,jB c d]) "loop.example/s01308/impl.kids").run j4 w= .ok (231,jG #[U V i,jB t u,jB a b,jB c d]) w:=fun _=>by kernel_rfl
theorem AbI (i:Int)(t:jJ)(u:R)(a:jJ)(b:R)(c:jJ)(d:R):∀w,(method 422 213 (jG #[U V i,jB t u,jB a b,jB c d]) "loop.example/s01308/impl.place").run j4 w= .ok (232,jG #[U V i,jB t u,jB a b,jB c d]) w:=fun _=>by kernel_rfl
theorem JW (i:Int)(w:Z):jE j4 229 #[U V i] w fun a w'=>a=jH (Y T 0 0)/\w'=w:=by
 go_enter func229,ntmps229
 go_wp2
 go_ret
 exact⟨rfl,rfl⟩
theorem Ga (i:Int)(w:Z):jE j4 230 #[U V i] w fun a w'=>a=jH (U V i)/\w'=w:=by
 go_enter func230,ntmps230
 go_wp2
 go_ret
 exact⟨rfl,rfl⟩
def Agj (w:Z) (vs:List R) (n:Nat) (r:Ending) (w':Z):Prop:=∃g,r=jH (Y (X ⟨g,0,T⟩) n n)/\w.heap.size<=g/\Ag w' g vs.toArray 106/\Ah w w'
theorem KU (i op:Int)(t:jJ)(u:R)(w:Z):jE j4 225 #[jG #[U V i,U V op,jB t u]] w (Agj w [jB t u] 1):=by
 have a:=Av w (jF #[U V i,U V op,jB t u] 166);have b:=Ag.new (w.alloc (jF #[U V i,U V op,jB t u] 166)) #[jB t u] 106;simp only[jW]at b;go_enter func225,ntmps225
 go_wp2
 go_ret
 exact⟨w.heap.size+1,rfl,zj _,b,a.alloc a.size _⟩
theorem Of (i op:Int)(t:jJ)(u:R)(w:Z):jE j4 226 #[jG #[U V i,U V op,jB t u]] w fun a w'=>a=jH (U V i)/\Ah w w':=by
 have b:=Av w (jF #[U V i,U V op,jB t u] 166);go_enter func226,ntmps226
 go_wp2
 go_ret
 exact⟨rfl,b⟩
theorem Jq (i op:Int)(t:jJ)(u:R)(a:jJ)(b:R)(w:Z):jE j4 227 #[jG #[U V i,U V op,jB t u,jB a b]] w (Agj w [jB t u,jB a b] 2):=by
 have c:=Av w (jF #[U V i,U V op,jB t u,jB a b] 168);have d:=Ag.new (w.alloc (jF #[U V i,U V op,jB t u,jB a b] 168)) #[jB t u,jB a b] 106;simp only[jW]at d;go_enter func227,ntmps227
 go_wp2
 go_ret
 exact⟨w.heap.size+1,rfl,zj _,d,c.alloc c.size _⟩
theorem LP (i op:Int)(t:jJ)(u:R)(a:jJ)(b:R)(w:Z):jE j4 228 #[jG #[U V i,U V op,jB t u,jB a b]] w fun c w'=>c=jH (U V i)/\Ah w w':=by
 have d:=Av w (jF #[U V i,U V op,jB t u,jB a b] 168);go_enter func228,ntmps228
 go_wp2
 go_ret
 exact⟨rfl,d⟩
theorem Jr (i:Int)(t:jJ)(u:R)(a:jJ)(b:R)(c:jJ)(d:R)(w:Z):jE j4 231 #[jG #[U V i,jB t u,jB a b,jB c d]] w (Agj w [jB t u,jB a b,jB c d] 3):=by
 have f:=Av w (jF #[U V i,jB t u,jB a b,jB c d] 213);have g:=Ag.new (w.alloc (jF #[U V i,jB t u,jB a b,jB c d] 213)) #[jB t u,jB a b,jB c d] 106;simp only[jW]at g;go_enter func231,ntmps231
 go_wp2
 go_ret
 exact⟨w.heap.size+1,rfl,zj _,g,f.alloc f.size _⟩
theorem LQ (i:Int)(t:jJ)(u:R)(a:jJ)(b:R)(c:jJ)(d:R)(w:Z):jE j4 232 #[jG #[U V i,jB t u,jB a b,jB c d]] w fun f w'=>f=jH (U V i)/\Ah w w':=by
 have g:=Av w (jF #[U V i,jB t u,jB a b,jB c d] 213);go_enter func232,ntmps232
 go_wp2
 go_ret
 exact⟨rfl,g⟩
def Dt (S:List (Nat×Nat)):List R:=S.flatMap fun p=> [U V p.1,U V p.2]
theorem NO:∀(S:List (Nat×Nat)) (i:Nat) (h:i<S.length),(Dt S)[i*2]? =X (U V (S[i].1 :Int))/\(Dt S)[i*2+1]? =X (U V (S[i].2 :Int))
 |[],i,h=>absurd h (by simp)
 |p ::S,0,h=>⟨rfl,rfl⟩
 |p ::S,i+1,h=>by
  have a:=NO S i (by simpa using h);have e:Dt (p ::S)=U V p.1 :: U V p.2 ::Dt S:=rfl;rw[e,show(i+1)*2=i*2+1+1 by omega,z6,z6,show i*2+1+1+1=(i*2+1)+1+1 by omega,z6,z6];simpa using a
theorem Afx (l:List (Nat×Nat))(p:Nat×Nat):DP (l++[p])=max (DP l) p.2:=by
 induction l with
 |nil=>simp[DP]
 |cons q l a=>rw[List.cons_append,DP,DP,a];omega
theorem AcK {k:Nat}(h:Cp K k [] 0=X S)(a:K[k]? =X ks):Cp K (k+1) [] 0=DM S k ks:=by
 rw[Im K k 1 [] 0,h];show Cp K 1 S (0+k)=_;rw[zU,Cp,a];dsimp only;cases DM S k ks<;>rfl
theorem AcL {k n:Nat}(a:k<=n)(h:Cp K k [] 0=T):Cp K n [] 0=T:=by
 have e:n=k+(n-k):=by omega
 rw[e,Im K k (n-k) [] 0,h];rfl
theorem XT (h:S.length<ks.length):DM S i ks=T:=by rw[DM,if_pos h]
theorem ZO {j:Nat}(hf:f+ks.length=S.length)(a:j<ks.length)(hS:f+j<S.length)(h:(S[f+j].1 :Int)≠ks[j]):DM S i ks=T:=by
 have b:S.length-ks.length=f:=by omega
 rw[DM,if_neg (by omega),if_pos];rw[b];intro e;apply h;have h1:(Am (S.drop f))[j]? =X ks[j]:=by rw[e];exact zG a
 rw[Am,zZ,List.getElem?_drop,zG hS]at h1;simpa using h1
theorem ZP (hf:f+ks.length=S.length)(a:DP (S.drop f)=64):DM S i ks=T:=by
 have b:S.length-ks.length=f:=by omega
 rw[DM,if_neg (by omega),b];by_cases h:Am (S.drop f)≠ks
 ·rw[if_pos h]
 ·rw[if_neg h,if_pos a]
theorem Afy (hf:f+ks.length=S.length)(a:Am (S.drop f)=ks)(b:DP (S.drop f)≠64):DM S i ks=X (S.take f++[(i,DP (S.drop f)+1)]):=by
 have c:S.length-ks.length=f:=by omega
 rw[DM,if_neg (by omega),c,if_neg (by simp[a]),if_neg b]
def MF (S:List (Nat×Nat)) (f:Nat) (ks:List Int) (j:Nat):Prop:=Am ((S.drop f).take j)=ks.take j
theorem ZQ (S:List (Nat×Nat))(f:Nat)(ks:List Int):MF S f ks 0:=by simp[MF,Am]
theorem JP (S:List (Nat×Nat))(f j:Nat)(h:f+j<S.length):(S.drop f).take (j+1)=(S.drop f).take j++[S[f+j]]:=by
 have a:j<(S.drop f).length:=by rw[List.length_drop];omega
 rw[zQ a,List.getElem_drop]
theorem ZR {f j:Nat}(a:j<ks.length)(hS:f+j<S.length)(h:MF S f ks j)(e:(S[f+j].1 :Int)=ks[j]):MF S f ks (j+1):=by
 rw[MF,JP S f j hS,zQ a,<-e];rw[MF]at h;rw[<-h];simp[Am]
theorem AcM {f:Nat}(hf:f+ks.length=S.length)(h:MF S f ks ks.length):Am (S.drop f)=ks:=by
 rw[MF,zY (by rw[List.length_drop];omega),zY NLN]at h;exact h
def MT (S:jJ) (v:R) (T:jJ) (z:R):Prop:=∀w,(ji (jB S v) 106 T true).run j4 w= .ok (jO (if S=T then #[v,.bool true]else #[z,.bool false])) w
theorem taF {T:jJ}{b:Array Field}{z:R}(S:jJ)(v:R)(a: j4.underlying T=X (.struct b))(c:∀w,(zeroValue T).run j4 w= .ok z w):MT S v T z:=fun w=>by
 by_cases h:S=T
 ·subst h;rw[if_pos rfl];exact De a _ v w
 ·rw[if_neg h];exact A8 a c h _ v w
theorem tas (S:jJ)(v:R):MT S v 220 (jG #[U V 0,U V 0])/\MT S v 222 (jG #[U V 0,Q ⟨#[]⟩])/\MT S v 177 (jG #[U V 0,.bool false])/\MT S v 218 (jG #[U V 0,Y T 0 0])/\MT S v 224 (jG #[U V 0,Q ⟨#[]⟩])/\MT S v 225 (jG #[U V 0,U V 0])/\MT S v 173 (jG #[U V 0,U V 0])/\MT S v 166 (jG #[U V 0,U V 0,jL])/\MT S v 168 (jG #[U V 0,U V 0,jL,jL])/\MT S v 213 (jG #[U V 0,jL,jL,jL]):=
 ⟨taF S v underlying220 zeroValue220,taF S v underlying222 zeroValue222,taF S v underlying177 zeroValue177,taF S v underlying218 zeroValue218,taF S v underlying224 zeroValue224,taF S v underlying225 zeroValue225,taF S v underlying173 zeroValue173,taF S v underlying166 zeroValue166,taF S v underlying168 zeroValue168,taF S v underlying213 zeroValue213⟩
set_option maxHeartbeats 1600000
def BY (k n:Nat):List Int:=(List.range n).map fun j=>((k+j:Nat):Int)
theorem CL (k n:Nat):(BY k n).length=n:=by simp[BY]
theorem AbX (k n j:Nat)(h:j<(BY k n).length):(BY k n)[j]=((k+j:Nat):Int):=by simp[BY]
def Jy (L:List Int) (k j:Nat):List Int:=BY k j++L.drop j
theorem AbY (L:List Int)(k:Nat):Jy L k 0=L:=by simp[Jy,BY]
theorem AbZ (L:List Int)(k:Nat):Jy L k L.length=BY k L.length:=by simp[Jy]
theorem AdY (L:List Int)(k j:Nat)(h:j<=L.length):(Jy L k j).length=L.length:=by
 rw[Jy,zC,CL,List.length_drop];omega
theorem AdZ (L:List Int)(k j:Nat)(h:j<L.length):(Jy L k j).set j ((k+j:Nat):Int)=Jy L k (j+1):=by
 rw[Jy,z5 h,List.set_append_right _ _ (by rw[CL];exact NLN),CL,Nat.sub_self,zh,Jy];have:BY k (j+1)=BY k j++[((k+j:Nat):Int)]:=by simp[BY,List.range_succ]
 rw[this,zT];rfl
theorem Ma (lo hi:Nat)(a:Option Addr)(n c:Nat)(L:List Int)(x:Int)(w:Z)(h:w.ownsRow lo 3 1 (Y a n c) n (Aq L))(t:∀q,(Y a n c).ownBlock=X q->q<hi)(l:L.length=n)(hx: 0<=x)(F:x+n<=35184372088832):
  jE j4 36 #[Y a n c,U V x] w fun e w'=>e=jH (U V (x+n))/\w'.ownsRow lo 3 1 (Y a n c) n (Aq (BY x.toNat n))/\As lo hi w w':=by
 obtain⟨k,rfl⟩:=yJ hx;rw[zV];have m:=Ab l;clear l;go_enter func36,ntmps36
 go_wp2
 go_loopw [1,5] (fun q i wr=>∃ (j:Nat) (z:Int),j<=n/\i=U V j/\q=U V z/\z=((k+j:Nat):Int)/\wr.ownsRow lo 3 1 (Y a n c) n (Aq (Jy L k j))/\As lo hi w wr) (fun _ i _=>n-(intOf i).toNat)
 case atStart=>exact⟨0,k,zD _,rfl,rfl,by simp,by rw[AbY];exact h,As.refl _ _ _⟩
 case round=>
  obtain⟨j,z,G,rfl,rfl,d,b,f⟩:=hrel;by_cases o:j<n
  ·have u:j<L.length:=by rw[Aa m];exact o
   have H:(Jy L k j).length=L.length:=AdY L k j (by omega);have v:j<(Jy L k j).length:=by omega
   have I:(j:Int)<(n:Int):=by omega
   have J: 0<=z:=by omega
   have K:z+1<=35184372088832:=by omega
   obtain⟨g,hg⟩:∃g,a=X ⟨g,0,T⟩:=by
    rcases b.2 with⟨_,h0⟩|⟨g,cap,M,hv,_⟩
    ·omega
    ·simp only[Value.slice.injEq]at hv;exact⟨g,hv.1⟩
   subst hg;have y:=(b.lt g rfl).1;have A:g<hi:=t g rfl;have p:(Aq (Jy L k j))[j]? =X (U V (Jy L k j)[j]):=by rw[Aq,zZ,zG v];rfl
   have B:=(b.cellAt j (by omega)).trans p;have N:=fun i=>b.frozenAt i;have C:=Ab (b.stored j (U V z)).1;have D:=f.trans (As.setCell (lo:=lo) (hi:=hi) wr ⟨g,j,T⟩ (U V z) y A);have r:=Ab d;have s:=Ab o;generalize (Jy L k j)[j]=O at B;clear d b p f;go_wp2_with fail
   go_roundw
   case rel=>
    refine⟨j+1,z+1,Aa s,by go_num,by go_num,by have:=Aa r;omega,?_,D⟩
    have d:=Aa r;rw[<-AdZ L k j u,Aq,List.map_set,<-d];exact Aa C
   case measure=>have:=Aa s;simp[intOf];omega
  ·have e:j=n:=by omega
   subst e;go_wp2
   go_ret
   have E:Jy L k j=BY k j:=by have:=AbZ L k;rwa[Aa m]at this
   rw[E]at b;exact⟨by rw[d];push_cast;rfl,b,f⟩
theorem Mb (a:Option Addr)(n c:Nat)(x:Int)(w:Z)(h:AK w a n c (BY x.toNat n))(hx: 0<=x)(t:x+n<=35184372088832):
  jE j4 39 #[Y a n c,U V x] w fun e w'=>e=jH (U V (x+n))/\Ah w w':=by
 obtain⟨k,rfl⟩:=yJ hx;rw[zV]at h;have r:=Ab h;have hs:=h.small;clear h;go_enter func39,ntmps39
 go_wp2
 go_loopw [1,5] (fun q i wr=>∃ (j:Nat) (z:Int),j<=n/\i=U V j/\q=U V z/\z=((k+j:Nat):Int)/\wr=w) (fun _ i _=>n-(intOf i).toNat)
 case atStart=>exact⟨0,k,zD _,rfl,rfl,by simp,rfl⟩
 case round=>
  obtain⟨j,z,u,rfl,rfl,f,d⟩:=hrel;by_cases m:j<n
  ·have v:(j:Int)<(n:Int):=by omega
   have g:j<(BY k n).length:=by rw[CL];exact m
   have y: 0<=z:=by omega
   have A:z+1<=35184372088832:=by omega
   obtain⟨b,B,rfl,C,o⟩:=(Aa r).cells j g;rw[AbX k n j g,<-f]at o;rw[<-d]at o;have l:=Ab d;have s:=Ab f;have p:=Ab m;clear f d g;go_wp2_with fail
   go_roundw
   case rel=>exact⟨j+1,z+1,Aa p,by go_num,by go_num,by have:=Aa s;omega,Aa l⟩
   case measure=>have:=Aa p;simp[intOf];omega
  ·have e:j=n:=by omega
   subst e;have l:=Ab d;clear d;go_wp2
   go_ret
   exact⟨by rw[f];push_cast;rfl,by rw[Aa l];exact BRN⟩
def RQ (x:Nd) (u k:R):List R:= [U V x.op,U V x.num,Q x.text,u,k]
def Og:List Nd->List R->List R->List R
 |x ::N,u ::nv,k ::kv=>RQ x u k++Og N nv kv
 |_,_,_=> []
theorem Agt:∀(N:List Nd) (a b:List R),a.length=N.length->b.length=N.length->(Og N a b).length=N.length*5
 |[],_,_,_,_=>by simp[Og]
 |x ::N,[],_,h,_=>by simp at h
 |x ::N,_ ::_,[],_,h=>by simp at h
 |x ::N,u ::a,k ::b,h,h'=>by
  have:=Agt N a b (by simpa using h) (by simpa using h');simp only[Og,RQ,zC,List.length_cons,List.length_nil,this];omega
theorem Wk:∀(N:List Nd) (a b:List R) (x:Nd) (u k:R),a.length=N.length->b.length=N.length->Og (N++[x]) (a++[u]) (b++[k])=Og N a b++RQ x u k
 |[],[],[],x,u,k,_,_=>by simp[Og]
 |[],_ ::_,_,x,u,k,h,_=>by simp at h
 |[],[],_ ::_,x,u,k,_,h=>by simp at h
 |y ::N,[],_,x,u,k,h,_=>by simp at h
 |y ::N,_ ::_,[],x,u,k,_,h=>by simp at h
 |y ::N,z ::a,t ::b,x,u,k,h,h'=>by
  have:=Wk N a b x u k (by simpa using h) (by simpa using h');simp only[List.cons_append,Og,this,zT]
theorem UG:∀(N:List Nd) (b c:List R) (j:Nat) (h:j<N.length) (d:j<b.length) (h2:j<c.length),∀a,a<5->(Og N b c)[j*5+a]? =(RQ N[j] b[j] c[j])[a]?
 |x ::N,u ::b,k ::c,0,_,_,_,a,hr=>by
  rw[Og,z0,zU,Z5 (by simp[RQ];omega)];rfl
 |x ::N,u ::b,k ::c,j+1,h,d,h2,a,hr=>by
  have f:=UG N b c j (by simpa using h) (by simpa using d) (by simpa using h2) a hr;rw[Og,yL (by simp[RQ];omega)];have e:(j+1)*5+a-(RQ x u k).length=j*5+a:=by simp[RQ];omega
  rw[e,f];rfl
 |[],_,_,_,h,_,_,_,_=>absurd h (by simp)
 |_ ::_,[],_,_,_,h,_,_,_=>absurd h (by simp)
 |_ ::_,_ ::_,[],_,_,_,h,_,_=>absurd h (by simp)
theorem AaD:∀(N:List Nd) (a b:List R) (j:Nat) (h:j<N.length) (c:a.length=N.length) (d:b.length=N.length) (y:Nd),Og (N.set j y) a b=(((Og N a b).set (j*5) (U V y.op)).set (j*5+1) (U V y.num)).set (j*5+2) (Q y.text)
 |x ::N,u ::a,k ::b,0,_,_,_,y=>by simp[Og,RQ]
 |x ::N,u ::a,k ::b,j+1,h,c,d,y=>by
  have f:=AaD N a b j (by simpa using h) (by simpa using c) (by simpa using d) y;have e:∀(A:List R) i v,(RQ x u k++A).set ((j+1)*5+i) v=RQ x u k++A.set (j*5+i) v:=fun A i v=>by
   rw[List.set_append_right _ _ (by simp[RQ];omega)]
   congr 2
   simp[RQ];omega
  simp only[zk,Og];rw[f];have e0:=e (Og N a b) 0 (U V y.op);simp only[zX]at e0;rw[e0,e,e]
 |[],_,_,_,h,_,_,_=>absurd h (by simp)
 |_ ::_,[],_,_,_,c,_,_=>by simp at c
 |_ ::_,_ ::_,[],_,_,_,c,_=>by simp at c
structure Ci (w:Z) (lo:Nat) (v:R) (N:List Nd) (nv kv:List R):Prop where
 len:nv.length=N.length
 lenk:kv.length=N.length
 own:w.ownsRow lo 85 5 v N.length (Og N nv kv)
 names:∀j,(h:j<N.length)->(h':j<nv.length)->w.ownsRow lo 9 1 nv[j] N[j].names.length (N[j].names.map Q)
 kids:∀j,(h:j<N.length)->(h':j<kv.length)->w.ownsRow lo 3 1 kv[j] N[j].kids.length (Aq N[j].kids)
 apart:∀i j,(hij:i<j)->(h:j<nv.length)->∀q,(nv[i]'(by omega)).ownBlock=X q->nv[j].ownBlock≠X q
 apartk:∀i j,(hij:i<j)->(h:j<kv.length)->∀q,(kv[i]'(by omega)).ownBlock=X q->kv[j].ownBlock≠X q
theorem Ci.nil (w:Z)(lo:Nat):Ci w lo (Y T 0 0) [] [] []:=
 ⟨rfl,rfl,World.ownsRow_nil _ _ _ _,fun j h=>absurd h (by simp),fun j h=>absurd h (by simp),fun i j _ h=>absurd h (by simp),fun i j _ h=>absurd h (by simp)⟩
theorem Af {a:Nat}{e:jJ}{size:Nat}(h:w.ownsRow a e size v n b)(c:∀q,v.ownBlock=X q->w'.heap[q]? =w.heap[q]?):w'.ownsRow a e size v n b:=by
 refine⟨h.1,?_⟩;rcases h.2 with h2|⟨g,cap,d,hv,f,hg,h4⟩
 ·exact .inl h2
 ·exact .inr ⟨g,cap,d,hv,f,(c g (by rw[hv];rfl)).trans hg,h4⟩
theorem Ci.lts {lo:Nat}{c:List R}(h:Ci w lo v N b c):(∀q,v.ownBlock=X q->lo<=q/\q<w.heap.size)/\(∀j,(a:j<b.length)->∀q,b[j].ownBlock=X q->lo<=q/\q<w.heap.size)/\∀j,(a:j<c.length)->∀q,c[j].ownBlock=X q->lo<=q/\q<w.heap.size:=
 ⟨h.own.lt,fun j a=>(h.names j (by rw[<-h.len];exact a) a).lt,fun j a=>(h.kids j (by rw[<-h.lenk];exact a) a).lt⟩
theorem Ci.upto {lo:Nat}{c:List R}(h:Ci w lo v N c d)(h1:∀q,v.ownBlock=X q->w'.heap[q]? =w.heap[q]?)(h2:∀j,(a:j<c.length)->∀q,c[j].ownBlock=X q->w'.heap[q]? =w.heap[q]?)(h3:∀j,(a:j<d.length)->∀q,d[j].ownBlock=X q->w'.heap[q]? =w.heap[q]?):Ci w' lo v N c d:=
 ⟨h.len,h.lenk,Af h.own h1,fun j a b=>Af (h.names j a b) (h2 j b),fun j a b=>Af (h.kids j a b) (h3 j b),h.apart,h.apartk⟩
theorem Ci.blocks {lo:Nat}{c:List R}(h:Ci w lo v N c d)(b:∀k,lo<=k->k<w.heap.size->w'.heap[k]? =w.heap[k]?):Ci w' lo v N c d:=
 h.upto (fun q hq=>b q (h.lts.1 q hq).1 (h.lts.1 q hq).2) (fun j a q hq=>b q (h.lts.2.1 j a q hq).1 (h.lts.2.1 j a q hq).2) (fun j a q hq=>b q (h.lts.2.2 j a q hq).1 (h.lts.2.2 j a q hq).2)
theorem Ai {B n' size i:Nat}{e:jJ}{d:R}{j xs':List R}(h:w.ownsRow B e size v n j)(k:w.ownsRow f e' i d n' xs')(l:e≠e'):∀q,v.ownBlock=X q->d.ownBlock≠X q:=fun q hq b=>by
 rcases h.2 with⟨hv,_⟩|⟨g,cap,o,hv,_,hg,_⟩
 ·rw[hv]at hq;cases hq
 rcases k.2 with⟨c,_⟩|⟨m,p,r,c,_,a,_⟩
 ·rw[c]at b;cases b
 rw[hv]at hq;rw[c]at b;obtain rfl:g=q:=by simpa[ja]using hq
 obtain rfl:m=g:=by simpa[ja]using b
 rw[hg]at a;injection a with a;injection a with _ a;exact l a
theorem Ci.upd {lo:Nat}{a b:List R}(h:Ci w lo v N a b)(j:Nat)(l:j<N.length)(m:j<a.length)(n:j<b.length)(y:Nd)
  (c:w'.ownsRow lo 85 5 v N.length (Og (N.set j y) a b))(d:w'.ownsRow lo 9 1 a[j] y.names.length (y.names.map Q))(f:w'.ownsRow lo 3 1 b[j] y.kids.length (Aq y.kids))
  (g:∀i,(hi:i<a.length)->i≠j->∀q,a[i].ownBlock=X q->w'.heap[q]? =w.heap[q]?)(k:∀i,(hi:i<b.length)->i≠j->∀q,b[i].ownBlock=X q->w'.heap[q]? =w.heap[q]?):Ci w' lo v (N.set j y) a b:=
 ⟨by rw[List.length_set];exact h.len,by rw[List.length_set];exact h.lenk,by rw[List.length_set];exact c,fun i hi hi'=>by
  rw[List.getElem_set];split
  ·rename_i e;subst e;exact d
  ·rename_i e;exact Af (h.names i (by simpa using hi) hi') (g i hi' (fun e'=>e e'.symm)),fun i hi hi'=>by
  rw[List.getElem_set];split
  ·rename_i e;subst e;exact f
  ·rename_i e;exact Af (h.kids i (by simpa using hi) hi') (k i hi' (fun e'=>e e'.symm)),h.apart,h.apartk⟩
def mkD (k m p:Nat):Nd:=⟨((k:Nat):Int),((k+1 :Nat):Int),Br (k+2),DD (k+3) m,BY (k+3+m) p⟩
def Pc (x:Nd):Nat:=x.names.length+x.kids.length
def UH:Nat->List Nd->List Nd
 |_,[]=> []
 |k,x ::N=>mkD k x.names.length x.kids.length ::UH (k+3+Pc x) N
def Ee (k:Nat) (N:List Nd) (j:Nat):Nat:=k+3*j+((N.take j).map Pc).sum
theorem FJ:∀(k:Nat) (N:List Nd),(UH k N).length=N.length
 |_,[]=>rfl
 |k,x ::N=>by simp[UH,FJ]
theorem Ql (k:Nat)(N:List Nd)(j:Nat)(h:j<N.length):Ee k N (j+1)=Ee k N j+3+Pc N[j]:=by
 rw[Ee,Ee,zQ h,zR,List.sum_append];simp;omega
theorem Wt (k:Nat)(N:List Nd):Ee k N 0=k:=by simp[Ee]
theorem Wu (k:Nat)(N:List Nd)(j:Nat)(h:j<=N.length):Ee k N j<=Ee k N N.length:=by
 have:∀d,j+d<=N.length->Ee k N j<=Ee k N (j+d):=by
  intro d
  induction d with
  |zero=>intro _;exact NLN
  |succ d a=>intro b;have:=a (by omega);have:=Ql k N (j+d) (by omega);rw[<-Z4];omega
 have:=this (N.length-j) (by omega)
 rwa[show j+(N.length-j)=N.length by omega]at this
theorem YY:∀(k:Nat) (N:List Nd) (j:Nat) (h:j<N.length) (a:j<(UH k N).length),(UH k N)[j]=mkD (Ee k N j) N[j].names.length N[j].kids.length
 |k,x ::N,0,_,_=>by simp[UH,Ee]
 |k,x ::N,j+1,h,a=>by
  have b:=YY (k+3+Pc x) N j (by simpa using h) (by simpa[UH]using a);simp only[UH,z8];rw[b]
  congr 1
  simp only[Ee,List.take_succ_cons,List.map_cons,List.sum_cons];omega
def Gc (k:Nat) (N:List Nd) (j:Nat):List Nd:=(UH k N).take j++N.drop j
theorem Ab0 (k:Nat)(N:List Nd):Gc k N 0=N:=by simp[Gc]
theorem Ab1 (k:Nat)(N:List Nd):Gc k N N.length=UH k N:=by rw[Gc,List.drop_length,Z3,zY (by rw[FJ];exact NLN)]
theorem Ad0 (k:Nat)(N:List Nd)(j:Nat)(h:j<=N.length):(Gc k N j).length=N.length:=by
 rw[Gc,zC,zr,List.length_drop,FJ];omega
theorem Agu (k:Nat)(N:List Nd)(j:Nat)(h:j<N.length)(b:j<(Gc k N j).length):(Gc k N j)[j]=N[j]:=by
 have a:((UH k N).take j).length=j:=by rw[zr,FJ];omega
 simp only[Gc];rw[yH (by omega)];simp only[a,Nat.sub_self,List.getElem_drop,zX]
theorem Ad1 (k:Nat)(N:List Nd)(j:Nat)(h:j<N.length):(Gc k N j).set j (mkD (Ee k N j) N[j].names.length N[j].kids.length)=Gc k N (j+1):=by
 have a:((UH k N).take j).length=j:=by rw[zr,FJ];omega
 rw[Gc,z5 h,List.set_append_right _ _ (by omega),a,Nat.sub_self,zh,Gc,zQ (by rw[FJ];exact h),YY k N j h,zT];rfl
def InN (v:R) (nv kv:List R) (hi:Nat):Prop:=(∀q,v.ownBlock=X q->q<hi)/\(∀j,(hj:j<nv.length)->∀q,nv[j].ownBlock=X q->q<hi)/\∀j,(hj:j<kv.length)->∀q,kv[j].ownBlock=X q->q<hi
def Ad2 (w w':Z) (v:R) (nv kv:List R):Prop:=∀q,q<w.heap.size->v.ownBlock≠X q->(∀j,(hj:j<nv.length)->nv[j].ownBlock≠X q)->(∀j,(hj:j<kv.length)->kv[j].ownBlock≠X q)->w'.heap[q]? =w.heap[q]?
def okN (x:Nd):Prop:=x.names.length<=1048576/\x.kids.length<=1048576/\∀s∈x.names,s.size<=maxLen
end Go.Proofs.YteiieikcjcfkkaaGreatDoor
