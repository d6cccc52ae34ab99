import Derived.Test.YteiieikcjcfkkaaGreatDoorMXAI
open Go.Proofs.Tryz
open Option renaming none->T,some->X
open Go.Value renaming int->U,slice->Y,tuple->jO
open Go.IntKind renaming i64->V
open Go renaming World->Z,Value->R,bodyPost_ret->jN,results->jR,wpList_append_own->jk
open Go.Proofs.Tryz renaming prog->j4
namespace Go.Proofs.YteiieikcjcfkkaaGreatDoor
set_option maxRecDepth 100000
set_option maxHeartbeats 6400000
open Go.RowKit
set_option linter.unusedVariables false
variable {b:List R}{a size n c:Nat}{w:Z}
theorem AiO:(j4.info? 194).map (fun i=>(i.zero,i.size,i.bytes))=X (X (.agg #[U V 0,U V 0]),2,16):=by kernel_rfl
def Ahu (B:Nat) (r:Option (List (Nat×Nat))) (e:Ending) (w':Z):Prop:=match r with
 |none=>e= .returned (jO #[Y T 0 0,.bool false])
 |some S=>∃v,e= .returned (jO #[v,.bool true])/\w'.ownsRow B 3 1 v S.length (Aq (Am S))
def AiP (K:List (List Int)) (B k:Nat) (v:R) (wr:Z):Prop:=∃S,Cp K k [] 0=X S/\S.length<=k/\(∀p∈S,p.1<k/\p.2<=64)/\wr.ownsRow B 194 2 v S.length (Dt S)
theorem XU {S a:List (Nat×Nat)}{k:Nat}{ks:List Int}(h:DM S k ks=X a)(h1:S.length<=k)(h2:∀p∈S,p.1<k/\p.2<=64):a.length<=k+1/\∀p∈a,p.1<k+1/\p.2<=64:=by
 obtain⟨A,B,rfl,e2,e3,rfl⟩:=Rv h;have c:DP B<=64:=by
  clear h e2 e3 h1
  induction B with
  |nil=>simp[DP]
  |cons q B b=>
   have hq:=h2 q (by simp);have d:=b (fun p hp=>h2 p (by rcases zN.1 hp with e|e<;>simp[e]));rw[DP];omega
 rw[zC]at h1;refine⟨by rw[zC];simp;omega,fun p hp=>?_⟩;rcases zN.1 hp with e|e
 ·have:=h2 p (Z7 _ e);omega
 ·simp at e;subst e;exact⟨by show k<k+1;omega,by show DP B+1<=64;omega⟩
theorem Afz {e:TypeId}{x:Option Addr}(h:w.ownsRow a e size (Y x n c) n b):n<=c:=by
 rcases h.2 with⟨hv,d⟩|⟨g,cap,f,hv,h1,h2,h3,h4,h5,h6⟩
 ·omega
 ·cases hv;exact h3
theorem XV (S:List (Nat×Nat))(f k d:Nat):(Dt S).take (f*2)++[U V k,U V ((d:Int)+1)]=Dt (S.take f++[(k,d+1)]):=by
 have e:∀(S:List (Nat×Nat)) (f:Nat),(Dt S).take (f*2)=Dt (S.take f):=by
  intro S
  induction S with
  |nil=>intro f;simp[Dt]
  |cons p S a=>
   intro f;cases f with
   |zero=>simp[Dt]
   |succ f=>
    have e1:Dt (p ::S)=U V p.1 :: U V p.2 ::Dt S:=rfl;have e2:Dt (p ::S.take f)=U V p.1 :: U V p.2 ::Dt (S.take f):=rfl;rw[e1,show(f+1)*2=f*2+1+1 by omega,List.take_succ_cons,List.take_succ_cons,a f,List.take_succ_cons,e2]
 rw[e,Dt,Dt,yE];simp
theorem Ou {base':Nat}{e:TypeId}{size:Nat}{v:R}{n:Nat}(h:w.ownsRow a e size v n b)(f:base'<=a):w.ownsRow base' e size v n b:=by
 refine⟨h.1,?_⟩;rcases h.2 with c|⟨g,cap,d,hv,h1,h2,h3⟩
 ·exact .inl c
 ·exact .inr ⟨g,cap,d,hv,by omega,h2,h3⟩
theorem ZT (S:List (Nat×Nat))(k:Nat)(h:k<S.length):Am (S.take (k+1))=Am (S.take k)++[(S[k].1 :Int)]:=by
 rw[zQ h,Am,Am,zR];rfl
theorem PX (a:Option Addr)(n c:Nat)(L:List Nd)(w:Z)(h:GY w a n c L):
  Calls j4 88 #[Y a n c] w fun e w'=>Ahu w.heap.size (Cp (L.map Nd.kids) n [] 0) e w'/\Ah w w':=by
 have bk:=h.small;have ax:=Ab h.len;obtain⟨aM,aN,aO,aP,aQ⟩:=info_parts AiO;obtain⟨i,hi,aR,aS,aT⟩:=info_parts Kr;go_enter func88,ntmps88
 go_wp2_with fail
 go_loopw [4,16] (fun v i wr=>∃k:Nat,k<=n/\i=U V k/\Ah w wr/\AiP (L.map Nd.kids) w.heap.size k v wr) (fun _ i _=>n-(intOf i).toNat)
 case atStart=>exact⟨0,by omega,rfl,BRN,[],rfl,by simp,by simp,World.ownsRow_nil _ _ _ _⟩
 case round=>
  obtain⟨k,bl,rfl,o,S,ab,aU,ac,ad⟩:=hrel;by_cases ak:k<n
  ·have bm:(k:Int)<(n:Int):=by omega
   have ay:k<L.length:=by rw[Aa ax];exact ak
   obtain⟨b,bn,rfl,bo,an,nn,cn,ae,l,af,aV,c1,c2,c3,c4,az,G⟩:=(h.below o NLN).cells k ay;have H:=Ab (AcK ab (show(L.map Nd.kids)[k]? =X L[k].kids by rw[zZ,zG ay];rfl));have r:=Ab (show DM S k L[k].kids=T->Cp (L.map Nd.kids) n [] 0=T from fun e=>AcL (k:=k+1) ak (by rw[Aa H,e]));have al:=Ab (fun aW (aX:DM S k L[k].kids=X aW)=>XU aX aU ac);have aA:=Ab ak;have aY:=Ab ac;clear ab ac;generalize L[k]=x at aV c1 c2 c3 c4 az G H r al;have bp:=G.small;have z:=Ab G.len;have bq:=Ag.new wr #[U V x.op,U V x.num,.string x.text,Y an nn cn,Y ae l af] 85;have s:=o.alloc o.size (Dw x.op x.num x.text an nn cn ae l af);have aZ:=Av wr (Dw x.op x.num x.text an nn cn ae l af);have ao:=ad.alloc (Dw x.op x.num x.text an nn cn ae l af);have a0:=G.below aZ NLN;obtain⟨a1,aB,rfl,I⟩:=Ae ao;have ap:=Ab I;clear az G I;by_cases hs:S.length<l
   ·have is:(S.length:Int)-(l:Int)<0:=by omega
    have J:=Ab (Aa r (XT (by rw[Aa z];exact hs)));clear hs r;go_wp2_with fail
    exact jN (v:= jO #[Y T 0 0,.bool false]) (by simp[jR,results88,go_sem]) rfl ⟨by rw[Aa J];rfl,s⟩
   ·have is: ¬ ((S.length:Int)-(l:Int)<0):=by omega
    obtain⟨f,hf⟩:∃f,f+l=S.length:=⟨S.length-l,by omega⟩
    have a2:=Ab (show(S.length:Int)-(l:Int)=(f:Int) by omega);have br:=Ab hf;clear hs;go_wp2_with fail
    rw[Aa a2];go_loop [8,32] (fun d i=>∃j:Nat,j<=l/\i=U V j/\d=U V (DP ((S.drop f).take j))/\DP ((S.drop f).take j)<=64/\MF S f x.kids j) (fun _ i=>l-(intOf i).toNat)
    case atStart=>exact⟨0,by omega,rfl,rfl,by simp[DP],ZQ _ _ _⟩
    case round=>
     obtain⟨j,a3,rfl,rfl,ag,aC⟩:=hrel;have ah:=Ab aC;clear aC;by_cases D:j<l
     ·have a4:(j:Int)<(l:Int):=by omega
      obtain⟨g,rfl,hg,B⟩:=Aa ap (by omega);have hS:f+j<S.length:=by omega
      have aq:j<x.kids.length:=by rw[Aa z];exact D
      obtain⟨bs,ok,rfl,bt,a5⟩:=a0.cells j aq;obtain⟨K,M⟩:=NO S (f+j) hS;have ar:=B _ _ K;have s1:=B _ _ M;have hp:=Aa aY S[f+j] (zH hS);have N:=Ab (show DP ((S.drop f).take (j+1))=max (DP ((S.drop f).take j)) S[f+j].2 by rw[JP S f j hS,Afx]);have O:=Ab (fun e=>ZO (i:=k) (ks:=x.kids) (by rw[Aa z];exact hf) aq hS e);have P:=Ab (fun e=>ZR aq hS (Aa ah) e);clear K M B ah;generalize S[f+j]=p at ar s1 hp N O P;generalize x.kids[j]=y at a5 O P;generalize DP ((S.drop f).take j)=t at ag N;by_cases hy:(p.1:Int)=y
      ·have a6:((p.1:Int)!=y)=false:=by rw[hy];simp
       have a7:=Ab (Aa P hy);clear hy O P;have W:=Ab D;go_wp2_with fail
       have a8:(U V (if t<p.2 then (p.2:Int)else (t:Int)))=U V (DP ((S.drop f).take (j+1))):=by
        rw[Aa N];split<;>congr 1<;>omega
       (first|rw[a8]|rw[show U V (max (t:Int) (p.2:Int))=U V (DP ((S.drop f).take (j+1))) by rw[Aa N];congr 1;omega])
       exact⟨⟨j+1,Aa W,by go_num,rfl,by rw[Aa N];omega,Aa a7⟩,by have:=Aa W;simp[intOf];omega⟩
      ·have a6:((p.1:Int)!=y)=true:=zc.2 hy;have J:=Ab (Aa r (Aa O hy));clear hy O P r;go_wp2_with fail
       exact jN (v:= jO #[Y T 0 0,.bool false]) (by simp[jR,results88,go_sem]) rfl ⟨by rw[Aa J];rfl,s⟩
     ·have e:j=l:=by omega
      subst e;have aD:=Ab (AcM (by rw[Aa z];exact hf) (by rw[Aa z];exact Aa ah));have a9:=Ab (show(S.drop f).take j=S.drop f from zY (by rw[List.length_drop];omega));rw[Aa a9]at ag|-;clear ah;by_cases ai:DP (S.drop f)=64
      ·have au:((DP (S.drop f):Int)==64)=true:=zM.2 (by omega);have J:=Ab (Aa r (ZP (by rw[Aa z];exact hf) ai));clear ai r;generalize DP (S.drop f)=t at ag au|-;go_wp2_with fail
       exact jN (v:= jO #[Y T 0 0,.bool false]) (by simp[jR,results88,go_sem]) rfl ⟨by rw[Aa J];rfl,s⟩
      ·have au:((DP (S.drop f):Int)==64)=false:=zA.2 (by omega);have aj:=Ab (Afy (i:=k) (by rw[Aa z];exact hf) (Aa aD) ai);clear ai r aD;generalize DP (S.drop f)=t at ag au aj|-;have aE:=SH (m:=f) ao (by omega);have bu:=Afz ao;have bv:(f:Int)<=(aB:Int):=by omega
       have zb:=o.size;go_wp2_with (at_builtin;refine jk _ rfl _ _ 192 rfl w.heap.size 194 aM (.agg #[U V 0,U V 0]) 2 16 underlying192 aN aO aP aQ rfl (by decide) _ _ _ rfl (World.ownsRow.alloc aE _) ⟨wr.heap.size+1,0,T⟩ 1 1 [U V k,U V ((t:Int)+1)] rfl rfl ?c1 ?c2 ?c3 ?c4 ?c5 ?_)
       case c2=>exact⟨rfl,rfl⟩
       case c3=>unfold maxLen;omega
       case c4=>omega
       case c5=>omega
       intro ba bb aF E _;have bc:=(s.alloc s.size (.cells #[U V k,U V ((t:Int)+1)] 194)).grown E (by simp;omega) (fun q hq=>(aE.lt q hq).1);clear E;rw[XV]at aF;go_wp2_with fail
       go_roundw
       case rel=>exact⟨k+1,Aa aA,by go_num,bc,S.take f++[(k,t+1)],by rw[Aa H,Aa aj],(Aa al _ (Aa aj)).1,(Aa al _ (Aa aj)).2,by rw[zC,zr,yF,show min f S.length=f by omega];exact aF⟩
       case measure=>have:=Aa aA;simp[intOf];omega
  ·have e:k=n:=by omega
   subst e;obtain⟨a1,aB,rfl,I⟩:=Ae ad;have H:=Ab ab;obtain⟨F,bd⟩:∃F,F=wr:=⟨_,rfl⟩
   subst bd;have ap:=Ab I;have bf:=Ab ad;have aG:=Ab o;clear ab I ac ad o h ax;go_wp2_with fail
   go_loopw [11,70] (fun v i wr=>∃j:Nat,j<=S.length/\i=U V j/\wr.ownsRow F.heap.size 3 1 v (Am (S.take j)).length (Aq (Am (S.take j)))/\Ah w wr/\Ah F wr) (fun _ i _=>S.length-(intOf i).toNat)
   case atStart=>exact⟨0,by omega,rfl,World.ownsRow_nil _ _ _ _,Aa aG,BRN⟩
   case round=>
    obtain⟨j,a3,rfl,C,o,aa⟩:=hrel;by_cases D:j<S.length
    ·have a4:(j:Int)<(S.length:Int):=by omega
     obtain⟨g,rfl,hg,B⟩:=Aa ap (by omega);obtain⟨K,M⟩:=NO S j D;have aH:g<F.heap.size:=((Aa bf).lt g rfl).2;have ar:=(aa.cell (p:=⟨g,j*2,T⟩) aH).trans (B _ _ K);have s1:=(aa.cell (p:=⟨g,j*2+1,T⟩) aH).trans (B _ _ M);have av:=Ab (ZT S j D);have bg:(Am (S.take j)).length<=1048576:=by rw[Am,ze,zr];omega
     have W:=Ab D;clear K M B;generalize S[j]=p at ar s1 av;generalize Am (S.take j)=A at C bg av;have s:=o.alloc o.size (.cells #[U V p.1,U V p.2] 194);have aI:=aa.alloc aa.size (.cells #[U V p.1,U V p.2] 194);have aw:=C.alloc (.cells #[U V p.1,U V p.2] 194);obtain⟨aJ,aK,rfl,_⟩:=Ae C;have zb:=o.size;have bw:=aa.size;go_wp2_with (at_builtin;refine jk _ rfl _ _ 24 rfl F.heap.size 3 i (U V 0) 1 8 underlying24 hi aR aS aT rfl (by decide) _ _ _ rfl (World.ownsRow.alloc aw _) ⟨wr.heap.size+1,0,T⟩ 1 1 [U V p.1] rfl rfl ?d1 ?d2 ?d3 ?d4 ?d5 ?_)
     case d1=>exact A5 _ _ _ _ (by simp)
     case d2=>intro u aL;simp at aL;subst aL;rfl
     case d3=>unfold maxLen;omega
     case d4=>omega
     case d5=>simp;omega
     intro ba bb bh E _;have bi:=(s.alloc s.size (.cells #[U V p.1] 3)).grown E (by simp;omega) (fun q hq=>by have:=(aw.lt q hq).1;omega);have bj:=(aI.alloc aI.size (.cells #[U V p.1] 3)).grown E (by simp;omega) (fun q hq=>(aw.lt q hq).1);clear E;go_wp2_with fail
     go_roundw
     case rel=>exact⟨j+1,Aa W,by go_num,by rw[Aa av,Aq,zR,zC];exact bh,bi,bj⟩
     case measure=>have:=Aa W;simp[intOf];omega
    ·have e:j=S.length:=by omega
     subst e;have e2:S.take S.length=S:=zY NLN;rw[e2]at C;obtain⟨aJ,aK,rfl,_⟩:=Ae C;go_wp2_with fail
     refine jN (v:= jO #[Y aJ (Am S).length aK,.bool true]) (by simp[jR,results88,go_sem]) rfl ⟨?_,o⟩
     rw[Aa H];exact⟨_,rfl,Ou (by rw[NP]at C|-;exact C) (Aa aG).size⟩
end Go.Proofs.YteiieikcjcfkkaaGreatDoor
