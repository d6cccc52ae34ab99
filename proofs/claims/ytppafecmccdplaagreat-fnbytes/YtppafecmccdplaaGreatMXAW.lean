import Derived.Test.YtppafecmccdplaaGreatLTI
import Derived.Test.YtppafecmccdplaaGreatOQK
import Derived.Test.YtppafecmccdplaaGreatOQKi
import Derived.Test.YtppafecmccdplaaGreatOQU
import Derived.Test.YtppafecmccdplaaGreatMXAX
open Go.Proofs.Tryz
open Option renaming none->T,some->Y
open Go.Value renaming int->U,slice->X,string->Q,agg->jE,tuple->jJ
open Go.IntKind renaming i64->V
open Go renaming World->Z,Value->jB,Addr->jD
open Bool renaming true->R,false->jA
open Go.Obj renaming cells->jC
open Go.Ending renaming returned->jF
open Go.Proofs.Tryz renaming prog->jL
namespace Go.Proofs.YtppafecmccdplaaGreat
set_option maxRecDepth 100000
set_option maxHeartbeats 51200000
open Go.RowKit
set_option linter.unusedVariables false
variable {z:Ex}{ls:List Ex}{zs:List Int}{N:List Nd}{B c n j:Nat}{x:Nd}{a:Option jD}{w b:Z}
theorem AaM {n:Nat}(h:IY w a n c N)(q:∀x∈N,Bo x=R)(r:∀x∈N,x.num<=9223372036854775807)(s:∀(i:Nat) (x:Nd),N[i]? =Y x->∀k∈x.kids,0<=k/\k<(i:Int)):
  ∃Es:List Ex,Es.length=N.length/\(∀j,(h:j<Es.length)->Bu N j Es[j])/\∀e∈Es,e.fit w:=by
 have:∀k,k<=N.length->∃Es:List Ex,Es.length=k/\(∀j,(h:j<Es.length)->Bu N j Es[j])/\∀e∈Es,e.fit w:=by
  intro k
  induction k with
  |zero=>exact fun _=>⟨[],rfl,fun j g=>absurd g (by simp),fun e he=>by cases he⟩
  |succ k t=>
   intro hk;obtain⟨Es,l,m,o⟩:=t (by omega);have d:k<N.length:=by omega
   have hx:N[k]? =Y N[k]:=zL d;obtain⟨b,z,_,_,an,nn,cn,A,B,C,_,_,_,_,_,u,_⟩:=h.cells k d;obtain⟨e,_,v,y⟩:=Agf (w:=w) hx (q _ (zH d)) (s k _ hx) (r _ (zH d)) l m o u;refine⟨Es++[e],by simp[l],fun j g=>?_,fun f hf'=>?_⟩
   ·by_cases p:j<Es.length
    ·rw[zi p];exact m j p
    ·have:j=Es.length:=by simp at g;omega
     subst this;simp only[List.getElem_concat_length];rw[l];exact v
   ·rcases zM.1 hf' with hf'|hf'
    ·exact o f hf'
    ·simp at hf';subst hf';exact y
 exact this N.length NLN
theorem OQ (h:Bo x=R):x.names.length<=1048576:=by
 rw[Bo,zD]at h;have h:=h.2
 repeat' split at h
 all_goals
  first
   |cases h;done
   |(simp only[zD,zG]at h;first|omega|(have:=(Id h.1.1).1;omega))
theorem okM {ns:List ByteArray}(h:Bo x=R)(b:x.text.size<=1048576):okN (PE ns x)/\(PE ns x).text.size<=1048576:=by
 have c:∀s∈x.names,s.size<=maxLen:=fun s hs=>by
  have a:=h;rw[Bo,zD]at a;have a:=a.2
  repeat' split at a
  all_goals
   first
    |cases a;done
    |simp only[zD,zG]at a;have e:=AcD a.2;rw[e]at hs;cases hs;done
    |simp only[zD,zG]at a;have:=(Id a.1.1).2 s hs;unfold maxLen;omega
 have hk:x.kids.length<=1048576:=by
  have a:=h;rw[Bo,zD,zG]at a;have a:=a.1;unfold Cz at a
  repeat' split at a
  all_goals omega
 have ok:okN x:=⟨OQ h,hk,c⟩
 unfold PE;split
 ·split
  ·exact⟨ok,zE _⟩
  ·exact⟨ok,zE _⟩
 ·exact⟨ok,b⟩
def KpW (lo:Nat) (w W:Z):Prop:=∀q,lo<=q->q<w.heap.size->W.heap[q]? =w.heap[q]?
def CmF (q:CkR) (lo:Nat) (e:Ending) (w':Z):Prop:=
 (∃f:Int×Int,q= .error f/\e=jF (jJ #[jE #[X none 0 0,X none 0 0,X none 0 0],jE #[U V f.1,U V f.2]]))\/
 (∃N L T x n cx y m cy z p cz,q= .ok (N,L,T)/\e=jF (jJ #[jE #[X x n cx,X y m cy,X z p cz],jE #[U V 0,U V 0]])/\(∀x∈N,(-9223372036854775808<=x.num/\x.num<=9223372036854775807)/\x.names.length<=1048576)/\∀W,KpW lo w' W->(IY W x n cx N/\NmS W x N)/\Ss W y m cy L/\Em W z p cz T)
theorem Yl (h:Bo x=R): 0<=x.num:=by
 rw[QI,zD]at h;have:=h.2;unfold U8 at this;split at this
 ·simp at this;omega
 ·split at this
  ·simp at this;omega
  ·split at this
   ·simp at this;omega
   ·split at this
    ·simp at this;omega
    ·split at this
     ·simp at this;omega
     ·split at this
      ·cases this
      ·simp at this;omega
def CkN (lo mb tb:Nat) (vT:Array jB) (ns:List ByteArray) (x:Nd) (u:Option jD) (cu:Nat) (ku:Option jD) (ck:Nat) (wr wx:Z):Prop:=∃ (o7 n7:Int) (t7:ByteArray),PE ns x=⟨o7,n7,t7,x.names,x.kids⟩/\Ah wx mb #[U V o7,U V n7,Q t7,X u x.names.length cu,X ku x.kids.length ck] 134/\Ah wx tb vT 69/\wx.ownsRow lo 9 1 (X u x.names.length cu) x.names.length (x.names.map Value.string)/\wx.ownsRow lo 3 1 (X ku x.kids.length ck) x.kids.length (Aw x.kids)/\An wr wx
theorem PZ (a b:Option jD)(n c m d:Nat)(N:List Nd)(L:List St)(w:Z)(h1:IY w a n c N)(z:Ss w b m d L)(cD:∀x∈N,x.num<=9223372036854775807):
  Calls jL 44 #[jE #[X a n c,X b m d]] w fun r w'=>(∃q,Aas N L q/\CmF q w.heap.size r w')/\An w w':=by
 have aa:=Ab h1.len;have bZ:=Ab z.len;have cE:=Ab cD;obtain⟨dq,dr,ds,dt,du⟩:=info_parts Ym;have b0:=((Ah.new w #[X a n c,X b m d] 86).alloc (Nr T 0 0 T 0 0 T 0 0)).alloc (jC #[U V 0,U V 0] 89);have RT:=(Ah.new (w.alloc (jC #[X a n c,X b m d] 86)) #[X T 0 0,X T 0 0,X T 0 0] 69).alloc (jC #[U V 0,U V 0] 89);have bd:=Ah.new ((w.alloc (jC #[X a n c,X b m d] 86)).alloc (Nr T 0 0 T 0 0 T 0 0)) #[U V 0,U V 0] 89;simp only[World.size_alloc]at RT bd;have aw:=((AN w (jC #[X a n c,X b m d] 86)).alloc (by simp) (Nr T 0 0 T 0 0 T 0 0)).alloc (by simp;omega) (jC #[U V 0,U V 0] 89);have bf:=h1.below aw NLN;have bg:=z.below aw NLN;have b1:=Ab h1;have cF:=Ab z;clear h1 z cD;have dv:∃cG,cG=((w.alloc (jC #[X a n c,X b m d] 86)).alloc (Nr T 0 0 T 0 0 T 0 0)).alloc (jC #[U V 0,U V 0] 89):=⟨_,rfl⟩
 go_enter func44,ntmps44
 go_wp2_with fail
 obtain⟨cG,cH⟩:=dv;rw[<-cH]at b0 RT bd aw bf bg|-;clear cH;refine(NC _ _ _ _ _ _ N L _ bf bg).mono ?_;rintro r w2 ⟨rfl,ah⟩;have cI:=bf.below ah NLN;have dw:=bg.below ah NLN;have b2:=b0.after ah NLN;have ax:=RT.after ah NLN;have ai:=bd.after ah NLN;have aH:=aw.trans (ah.mono aw.size);clear bf bg b0 RT bd aw ah;dsimp only;cases aI:GJ N L with
 |false=>
  have ab:=Ab aI;clear aI;obtain⟨ac,ad,ae,_⟩:=JD ax;have af:=fun k=>ax.frozen k;obtain⟨u0,u1⟩:=CI ai;have b3:=fun k=>ai.frozen k;go_wp2_with fail
  have b4:=((((ax.set 0 (X T 0 0)).set 1 (X T 0 0)).set 2 (X T 0 0)).setFar (p:=⟨w.heap.size+1+1,0,T⟩) (by show w.heap.size+1≠w.heap.size+1+1;omega) (U V 10)).setFar (p:=⟨w.heap.size+1+1,1,T⟩) (by show w.heap.size+1≠w.heap.size+1+1;omega) (U V 0);have b5:=((((ai.setFar (p:=⟨w.heap.size+1,0,T⟩) (by show w.heap.size+1+1≠w.heap.size+1;omega) (X T 0 0)).setFar (p:=⟨w.heap.size+1,1,T⟩) (by show w.heap.size+1+1≠w.heap.size+1;omega) (X T 0 0)).setFar (p:=⟨w.heap.size+1,2,T⟩) (by show w.heap.size+1+1≠w.heap.size+1;omega) (X T 0 0)).set 0 (U V 10)).set 1 (U V 0);have b6:=((((aH.setCell (p:=⟨w.heap.size+1,0,T⟩) (zh _) (X T 0 0)).setCell (p:=⟨w.heap.size+1,1,T⟩) (zh _) (X T 0 0)).setCell (p:=⟨w.heap.size+1,2,T⟩) (zh _) (X T 0 0)).setCell (p:=⟨w.heap.size+1+1,0,T⟩) (by show w.heap.size<=w.heap.size+1+1;omega) (U V 10)).setCell (p:=⟨w.heap.size+1+1,1,T⟩) (by show w.heap.size<=w.heap.size+1+1;omega) (U V 0);obtain⟨e0,e1,e2,_⟩:=JD b4;obtain⟨aJ,aK⟩:=CI b5;exact bodyPost_ret (v:= jJ #[jE #[X T 0 0,X T 0 0,X T 0 0],jE #[U V 10,U V 0]]) (by simp[results,results44,go_sem,e0,e1,e2,aJ,aK]) rfl ⟨⟨_,.inl ⟨Aa ab,rfl⟩,.inl ⟨(10,0),rfl,rfl⟩⟩,b6⟩
 |true=>
  have ab:=Ab aI;have C:=Ab (QC aI);clear aI;obtain⟨Es,aL,aM,_⟩:=AaM cI (Aa C).fields (Aa cE) (Aa C).kids;have b7:=Ab (Mw a b n c m d N L (fun x hx=>fdB ((Aa C).fields x hx)) w2 cI dw Es (by rw[aL,Aa aa]) aM (by rw[<-Aa aa];exact(Aa C).n) (by rw[<-Aa bZ];exact(Aa C).m) (Tu (Aa ab) aL aM) (by rw[Nz (Aa ab) aL aM];exact(Aa C).n));have bh:=Ab aL;have bi:=Ab aM;obtain⟨dx,dy⟩:=CI b2;clear aL aM;go_wp2_with fail
  refine(Aa b7).mono ?_;rintro r g (⟨B,bj,ns,ts,tt,el,lv,em,aN,bk,rfl,aj,en,K⟩|⟨f,aN,rfl,dz,K⟩)
  ·have ak:=Ab aN;have cJ:=Ab bk;clear aN bk b7;obtain⟨F,G,rfl,_⟩:=Ae aj.types;obtain⟨b8,cn,rfl,dA⟩:=aj.nmsX;have cK:=b2.after K NLN;have b9:=ax.after K NLN;have bl:=ai.after K NLN;have M:=aH.trans (K.mono aH.size);have dB:w.heap.size+1+1<w2.heap.size:=ai.lt;have eo:=K.size;clear b2 ax ai dx dy;have aO:=(AN g (jC #[U V 0,U V 0] 89)).alloc (by simp) (Nr T 0 0 T 0 0 F tt.length G);have al:=Ah.new (g.alloc (jC #[U V 0,U V 0] 89)) #[X T 0 0,X T 0 0,X F tt.length G] 69;simp only[World.size_alloc]at al;have ca:=(Aa cF).below (M.trans (aO.mono M.size)) NLN;have cb:∃ay,ay=(g.alloc (jC #[U V 0,U V 0] 89)).alloc (Nr T 0 0 T 0 0 F tt.length G):=⟨_,rfl⟩
   have cL:((g.alloc (jC #[U V 0,U V 0] 89)).alloc (Nr T 0 0 T 0 0 F tt.length G)).cell? ⟨w.heap.size,1,T⟩=Y (X b m d):=(cK.after aO NLN).cell 1;have ep:m<=600:=by rw[<-Aa bZ];exact(Aa C).m
   dsimp only;go_wp2_with (at_builtin;refine LC rfl _ _ rfl _ _ 0 [] rfl (World.ownsRow_nil _ (g.heap.size+1+1) _ _) b m d L rfl ca (by omega) (by simp) ?_)
   intro eq aP bm aQ;obtain⟨ay,az⟩:=cb;have er:ay.heap.size=g.heap.size+1+1:=by rw[az];simp
   rw[<-az]at aO al ca aQ cL;clear az cL;obtain⟨D,E,rfl,_⟩:=Ae bm;have bn:=al.below aQ (by omega);obtain⟨cM,s1,s2,_⟩:=JD bn;have dC:=fun k=>bn.frozen k;have cN:An g aP:=aO.trans (aQ.mono (by omega));have es:g.heap.size+1+1<=aP.heap.size:=by have:=aQ.size;omega
   have cO:=bn.set 1 (X D m E);have ag:=cN.setCell (p:=⟨g.heap.size+1,1,T⟩) (zh _) (X D m E);have bo:=Ai bm ⟨g.heap.size+1,1,T⟩ (X D m E) (fun q l=>by have:=(bm.lt q l).1;show q≠g.heap.size+1;omega);have dD:(aP.setCell ⟨g.heap.size+1,1,T⟩ (X D m E)).cell? ⟨w.heap.size,0,T⟩=Y (X a n c):=(cK.after ag NLN).cell 0;have dE:∃A,A=aP.setCell ⟨g.heap.size+1,1,T⟩ (X D m E):=⟨_,rfl⟩
   go_wp2_with fail
   obtain⟨A,cc⟩:=dE;have dF:A.heap.size=aP.heap.size:=by rw[cc];simp
   rw[<-cc]at cO ag bo|-;clear cc dD cM s1 s2 dC bn bm aQ cN al aO ca;have et:n<=4000:=by rw[<-Aa aa];exact(Aa C).n
   have eu:=Ab ((Aa b1).below (M.trans (ag.mono M.size)) NLN);have dG:An w A:=M.trans (ag.mono M.size);have dH:=Du.nil A A.heap.size;have ev:w.heap.size+1+1<g.heap.size:=by omega
   go_loopw [41] (fun i wr=>∃ (k:Nat) (bp:jB) (nw br:List jB),k<=n/\i=U V k/\Ah wr (g.heap.size+1) #[bp,X D m E,X F tt.length G] 69/\Hid (Du wr A.heap.size bp ((N.take k).map (PE ns)) nw br)/\Below (g.heap.size+1) A wr/\Hid (∀q,q<A.heap.size->q≠g.heap.size+1->wr.heap[q]? =A.heap[q]?)) (fun i _=>n-(intOf i).toNat)
   case atStart=>exact⟨0,X T 0 0,[],[],by omega,rfl,cO,Ab dH,BRN,Ab fun _ _ _=>rfl⟩
   case round=>
    obtain⟨k,bp,nw,br,hk,rfl,bs,aA,aR,bt⟩:=hrel;have cP:An w wr:=dG.trans (aR.mono (by omega));have zW:=aR.size;by_cases cd:k<n
    ·have ew:(k:Int)<(n:Int):=by omega
     have bu:k<N.length:=by rw[Aa aa];exact cd
     obtain⟨ex,ey,dI,ez,an,nn,bv,bw,bx,bz,c0,c1,c2,c3,c4,bA,ce⟩:=((Aa b1).below cP NLN).cells k bu;have cf:=Ab ((Aa C).fields _ (zH bu));have cQ:=Ab (show(N.take (k+1)).map (PE ns)=(N.take k).map (PE ns)++[PE ns N[k]] by rw[zc bu,zl];rfl);have bB:=Ab (show((N.take k).map (PE ns)).length=k by rw[zU,zv];omega);have bC:=Ab (show wr.ownsRow A.heap.size 134 5 bp k (XA ((N.take k).map (PE ns)) nw br) by have:=(Aa aA).own;rwa[Aa bB]at this);obtain⟨J,O,rfl,_⟩:=Ae (Aa bC);have cS:=Ab cd;generalize N[k]=x at c0 c1 c2 bA ce cf cQ;have dJ:nn<=1048576:=by rw[bA.len];exact OQ (Aa cf)
     have aS:=AN wr (EV x.op x.num x.text an nn bv bw bx bz);have cT:=Ab (Yk x an nn bv bw bx bz _ (bA.below aS NLN) (ce.below aS NLN) dJ);have cg:=Ah.new wr #[U V x.op,U V x.num,Q x.text,X an nn bv,X bw bx bz] 134;have dK:∃aB,aB=wr.alloc (EV x.op x.num x.text an nn bv bw bx bz):=⟨_,rfl⟩
     clear cd bu bA ce;rw[dI];go_wp2_with fail
     refine(Aa cT).mono ?_;rintro r h ⟨⟨u,o,s,t,rfl,bD,bE⟩,bF⟩;obtain⟨aB,cU⟩:=dK;rw[<-cU]at aS cg bD bE bF;clear cU cT c0 c1 c2 c3 c4;have cV:=cg.after bF NLN;have aC:=aS.trans (bF.mono aS.size);have dL:=cV.alloc (EV x.op x.num x.text u x.names.length o s x.kids.length t);have ao:=Ah.new h #[U V x.op,U V x.num,Q x.text,X u x.names.length o,X s x.kids.length t] 134;have P:=(bs.after aC NLN).alloc (EV x.op x.num x.text u x.names.length o s x.kids.length t);have I:=aC.alloc aC.size (EV x.op x.num x.text u x.names.length o s x.kids.length t);have bG:=Af bD (AN h (EV x.op x.num x.text u x.names.length o s x.kids.length t)) NLN;have bH:=Af bE (AN h (EV x.op x.num x.text u x.names.length o s x.kids.length t)) NLN;obtain⟨ch,ci,cj,ck,cl⟩:=DM dL;obtain⟨m0,aT,aU,aV,aW⟩:=DM ao;have bI:=fun k=>ao.frozen k;obtain⟨ac,ad,ae,_⟩:=JD P;have af:=fun k=>P.frozen k;dsimp only;have eA:wr.heap.size<aB.heap.size/\aB.heap.size<=h.heap.size:=⟨cg.lt,bF.size⟩
     go_upto_if 49 with fail
     go_cut [] (fun dM=>Hid (CkN aB.heap.size h.heap.size (g.heap.size+1) #[X J k O,X D m E,X F tt.length G] ns x u o s t wr dM))
     case first=>
      by_cases h5:x.op=5
      ·have e5:(x.op==5)=R:=zF.2 h5;have dN:=Ab h5;have cW:wr.heap.size≠h.heap.size:=by omega
       have bJ:g.heap.size+1≠h.heap.size:=by omega
       have bK:wr.heap.size<=h.heap.size:=by omega
       have cm:=Ah.new h #[U V 6,U V x.num,Q ⟨#[]⟩,X u x.names.length o,X s x.kids.length t] 134;have bL:=cV.alloc (jC #[U V 6,U V x.num,Q ⟨#[]⟩,X u x.names.length o,X s x.kids.length t] 134);have aD:=(bs.after aC NLN).alloc (jC #[U V 6,U V x.num,Q ⟨#[]⟩,X u x.names.length o,X s x.kids.length t] 134);have bM:=aC.alloc aC.size (jC #[U V 6,U V x.num,Q ⟨#[]⟩,X u x.names.length o,X s x.kids.length t] 134);have bN:∀q,(Value.slice u x.names.length o).ownBlock=Y q->q≠h.heap.size:=fun q l=>by have:=(bD.lt q l).2;omega
       have bO:∀q,(Value.slice s x.kids.length t).ownBlock=Y q->q≠h.heap.size:=fun q l=>by have:=(bE.lt q l).2;omega
       have ap:=Af bD (AN h (jC #[U V 6,U V x.num,Q ⟨#[]⟩,X u x.names.length o,X s x.kids.length t] 134)) NLN;have aq:=Af bE (AN h (jC #[U V 6,U V x.num,Q ⟨#[]⟩,X u x.names.length o,X s x.kids.length t] 134)) NLN;obtain⟨co,cp,cq,cr,cs⟩:=DM bL;have dO:∃cX,cX=h.alloc (jC #[U V 6,U V x.num,Q ⟨#[]⟩,X u x.names.length o,X s x.kids.length t] 134):=⟨_,rfl⟩
       clear h5;go_wp2_with fail
       obtain⟨cX,cY⟩:=dO;rw[<-cY]at cm bL aD bM ap aq|-;clear cY m0 aT aU aV aW bI ac ad ae af ch ci cj ck cl co cp cq cr cs;refine(GI x.text _).mono ?_;rintro r dP ⟨rfl,ar⟩;have bP:=cm.after ar NLN;have cZ:=bL.after ar NLN;have bQ:=aD.after ar NLN;have c6:=bM.trans (ar.mono bM.size);have c8:=Af ap ar NLN;have c9:=Af aq ar NLN;clear cm bL aD bM ap aq ar;obtain⟨m0,aT,aU,aV,aW⟩:=DM bP;have bI:=fun k=>bP.frozen k;obtain⟨ac,ad,ae,_⟩:=JD bQ;have af:=fun k=>bQ.frozen k;obtain⟨ch,ci,cj,ck,cl⟩:=DM cZ;dsimp only;have da:=Ab (show PE ns x=if AD x.text Bm 0<0 then ⟨7,AD x.text ns 0,⟨#[]⟩,x.names,x.kids⟩else ⟨6,AD x.text Bm 0,⟨#[]⟩,x.names,x.kids⟩ by rw[PE,if_pos (Aa dN)]);by_cases bR:AD x.text Bm 0<0
       ·have aX:=Ab ((Aa da).trans (if_pos bR));generalize AD x.text Bm 0=H at bR;have aY:=(bP.set 1 (U V H)).set 0 (U V 7);have ct:=(cZ.setFar (p:=⟨h.heap.size,1,T⟩) cW (U V H)).setFar (p:=⟨h.heap.size,0,T⟩) cW (U V 7);have aZ:=(bQ.setFar (p:=⟨h.heap.size,1,T⟩) bJ (U V H)).setFar (p:=⟨h.heap.size,0,T⟩) bJ (U V 7);have S:=(c6.setCell (p:=⟨h.heap.size,1,T⟩) bK (U V H)).setCell (p:=⟨h.heap.size,0,T⟩) bK (U V 7);have a0:=Ai (Ai c8 ⟨h.heap.size,1,T⟩ (U V H) bN) ⟨h.heap.size,0,T⟩ (U V 7) bN;have a7:=Ai (Ai c9 ⟨h.heap.size,1,T⟩ (U V H) bO) ⟨h.heap.size,0,T⟩ (U V 7) bO;obtain⟨co,cp,cq,cr,cs⟩:=DM ct;have dQ:∃a8,a8=(dP.setCell ⟨h.heap.size,1,T⟩ (U V H)).setCell ⟨h.heap.size,0,T⟩ (U V 7):=⟨_,rfl⟩
        go_wp2_with fail
        obtain⟨a8,db⟩:=dQ;rw[<-db]at aY ct aZ S a0 a7|-;clear db m0 aT aU aV aW bI ac ad ae af ch ci cj ck cl co cp cq cr cs;have cu:∀q,q<g.heap.size->a8.heap[q]? =g.heap[q]? :=fun q l=>((S.block q (by omega)).trans (Aa bt q (by omega) (by omega))).trans (ag.block q l);have dR:bj<g.heap.size:=aj.row.lt;have dc:a8.cell? ⟨bj,0,T⟩=Y (X b8 ns.length cn):=(World.cell?_of_block (w:=g) (cu bj dR)).trans (aj.row.cell 0);have nms:Nms a8 b8 ns:=fun j au=>by
         obtain⟨dd,dS,h1,z,dT⟩:=dA j au;exact⟨dd,dS,h1,by have:=S.size;omega,(World.cell?_of_block (w:=g) (cu dd z)).trans dT⟩
        have dU:ns.length<=1048576:=by
         have bS:=(JV (Aa ak)).2.1;have dV:=Aa cJ;have cv:=(Aa C).m;simp at bS;omega
        refine(Mt bj b8 ns.length cn ns x.text _ dc (by have:=S.size;omega) rfl dU nms).mono ?_;rintro r eB ⟨rfl,aE⟩;have cw:=aY.after aE NLN;have dW:=aZ.after aE NLN;have dX:=S.trans (aE.mono S.size);have dY:=Af a0 aE NLN;have dZ:=Af a7 aE NLN;clear aY ct aZ S a0 a7 aE cu dc nms;have av:=aX;generalize AD x.text ns 0=aF at av aX|-;obtain⟨m0,aT,aU,aV,aW⟩:=DM cw;have bI:=fun k=>cw.frozen k;have d0:=cw.set 1 (U V aF);have d1:=dW.setFar (p:=⟨h.heap.size,1,T⟩) bJ (U V aF);have d2:=dX.setCell (p:=⟨h.heap.size,1,T⟩) bK (U V aF);have d3:=Ai dY ⟨h.heap.size,1,T⟩ (U V aF) bN;have d4:=Ai dZ ⟨h.heap.size,1,T⟩ (U V aF) bO;go_wp2
        go_meet
        exact Ab ⟨7,aF,⟨#[]⟩,Aa av,d0,d1,d3,d4,d2⟩
       ·have aX:=Ab ((Aa da).trans (if_neg bR));have av:=aX;generalize AD x.text Bm 0=H at bR av aX;have aY:=bP.set 1 (U V H);have aZ:=bQ.setFar (p:=⟨h.heap.size,1,T⟩) bJ (U V H);have S:=c6.setCell (p:=⟨h.heap.size,1,T⟩) bK (U V H);have a0:=Ai c8 ⟨h.heap.size,1,T⟩ (U V H) bN;have a7:=Ai c9 ⟨h.heap.size,1,T⟩ (U V H) bO;go_wp2
        go_meet
        exact Ab ⟨6,H,⟨#[]⟩,Aa av,aY,aZ,a0,a7,S⟩
      ·have e5:(x.op==5)=jA:=zA.2 h5;have d5:=Ab (show CkN aB.heap.size h.heap.size (g.heap.size+1) #[X J k O,X D m E,X F tt.length G] ns x u o s t wr _ from⟨x.op,x.num,x.text,by rw[PE,if_neg h5],ao,P,bG,bH,I⟩);clear h5;go_wp2
       go_meet
       exact d5
     case rest=>
      obtain⟨a9,ba,bb,de,ao,P,bG,bH,I⟩:=Aa hcut;have av:=Ab de;clear de hcut cf;generalize wc=aG at ao P bG bH I|-;obtain⟨m0,aT,aU,aV,aW⟩:=DM ao;obtain⟨ac,ad,ae,_⟩:=JD P;have af:=fun k=>P.frozen k;have eC:h.heap.size<aG.heap.size:=ao.lt;have df:=Af (Aa bC) I NLN;go_wp2_with (at_builtin;refine wpList_append_lies _ rfl _ _ 65 rfl A.heap.size 134 dq (jE #[U V 0,U V 0,Q ByteArray.empty,X T 0 0,X T 0 0]) 5 80 underlying65 dr ds dt du rfl (by decide) _ _ _ rfl (World.ownsRow.alloc df _) ⟨aG.heap.size,0,T⟩ 1 1 [U V a9,U V ba,Q bb,X u x.names.length o,X s x.kids.length t] rfl rfl ?c1 ?c2 (by decide) ?c3 ?c4 ?c5 (aG.heap.size+1) (by simp) ?_)
      case c1=>exact AaN _ _ _ _ _ _ _ _ (by simp)
      case c2=>intro v hv;simp at hv;rcases hv with rfl|rfl|rfl|rfl|rfl<;>rfl
      case c3=>unfold maxLen;omega
      case c4=>omega
      case c5=>simp;omega
      intro g7 c7 bT dg bc hat eD;have bU:An aG (aG.alloc (EV a9 ba bb u x.names.length o s x.kids.length t)):=BRN.alloc NLN _;have aD:=(P.alloc (EV a9 ba bb u x.names.length o s x.kids.length t)).grown bc (fun e=>Ac P df (by decide) e.symm);obtain⟨cM,s1,s2,_⟩:=JD aD;have dh:=((Aa aA).blocks (w':=aG.alloc (EV a9 ba bb u x.names.length o s x.kids.length t)) (fun q h1 z=>(bU.block q (zR z I.size)).trans (I.block q z)))
      have cx:=(Aa aA).lts;have ap:=Af bG bU NLN;have aq:=Af bH bU NLN;have di:=dh.snoc (x:=⟨a9,ba,bb,x.names,x.kids⟩) (u:= X u x.names.length o) (k:= X s x.kids.length t) (Fv ap (by omega)) (Fv aq (by omega)) (fun j au q l e=>by have h1:=(cx.2.1 j au q l).2;have z:=(ap.lt q e).1;omega) (fun j au q l e=>by have h1:=(cx.2.2 j au q l).2;have z:=(aq.lt q e).1;omega) (v':= X (Y ⟨g7,0,T⟩) (k+1) c7) (w2:=bT) (by rw[Aa bB];have cv:=dg;rw[<-dF,<-List.map_take]at cv;exact cv) bc;have d6:=aD.set 0 (X (Y ⟨g7,0,T⟩) (k+1) c7);have dj:∀q,q<A.heap.size->q≠g.heap.size+1->(bT.setCell ⟨g.heap.size+1,0,T⟩ (X (Y ⟨g7,0,T⟩) (k+1) c7)).heap[q]? =A.heap[q]? :=fun q h1 z=>by
       rw[heap_setCell_other _ _ q _ z,bc.block q (by have:=I.size;simp;omega) (fun e=>by have:=((Aa bC).lt q e.symm).1;omega),bU.block q (by have:=I.size;omega),I.block q (by omega)];exact Aa bt q h1 z
      have cy:Below (g.heap.size+1) A (bT.setCell ⟨g.heap.size+1,0,T⟩ (X (Y ⟨g7,0,T⟩) (k+1) c7)):=(((aR.trans (I.mono (by omega))).alloc (by have:=I.size;omega) _).grown bc (by have:=I.size;simp;omega) (fun q l=>by have:=((Aa bC).lt q l).1;omega)).setCell (p:=⟨g.heap.size+1,0,T⟩) NLN _;have d7:=Ab (show Du (bT.setCell ⟨g.heap.size+1,0,T⟩ (X (Y ⟨g7,0,T⟩) (k+1) c7)) A.heap.size (X (Y ⟨g7,0,T⟩) (k+1) c7) ((N.take (k+1)).map (PE ns)) (nw++[X u x.names.length o]) (br++[X s x.kids.length t]) by
       rw[Aa cQ,Aa av];exact di.blocks (fun q h1 z=>heap_setCell_other _ _ q _ (by show q≠g.heap.size+1;omega)))
      have d8:=Ab dj;clear di dh cx ap aq dj bc hat dg;go_wp2
      go_roundw
      case rel=>exact⟨k+1,_,_,_,Aa cS,by go_num,d6,d7,cy,d8⟩
      case measure=>have:=Aa cS;simp[intOf];omega
    ·have e:k=n:=by omega
     subst e;obtain⟨J,O,rfl,_⟩:=Ae (Aa aA).own;have bB:=Ab (show((N.take k).map (PE ns)).length=k by rw[zU,zv];have:=Aa aa;omega);have d9:=Ab (show N.take k=N by rw[<-Aa aa,yA]);have cz:=(b9.after ag NLN).below aR (by omega);have cA:=(bl.after ag NLN).below aR (by omega);obtain⟨ea,eE,eF,_⟩:=JD bs;obtain⟨ac,ad,ae,_⟩:=JD cz;have af:=fun j=>cz.frozen j;obtain⟨u0,u1⟩:=CI cA;have b3:=fun j=>cA.frozen j;have n1:w.heap.size+1≠g.heap.size+1:=by omega
     have eG:w.heap.size+1+1≠g.heap.size+1:=by omega
     have eH:g.heap.size+1≠w.heap.size+1:=by omega
     have eI:g.heap.size+1≠w.heap.size+1+1:=by omega
     have dk:((N.take k).map (PE ns)).length=k:=Aa bB;rw[dk]at aA ea bs;clear dk;have eb:=((((cz.set 0 (X J k O)).set 1 (X D m E)).set 2 (X F tt.length G)).setFar (p:=⟨w.heap.size+1+1,0,T⟩) (by show w.heap.size+1≠w.heap.size+1+1;omega) (U V 0)).setFar (p:=⟨w.heap.size+1+1,1,T⟩) (by show w.heap.size+1≠w.heap.size+1+1;omega) (U V 0);have ec:=((((cA.setFar (p:=⟨w.heap.size+1,0,T⟩) (by show w.heap.size+1+1≠w.heap.size+1;omega) (X J k O)).setFar (p:=⟨w.heap.size+1,1,T⟩) (by show w.heap.size+1+1≠w.heap.size+1;omega) (X D m E)).setFar (p:=⟨w.heap.size+1,2,T⟩) (by show w.heap.size+1+1≠w.heap.size+1;omega) (X F tt.length G)).set 0 (U V 0)).set 1 (U V 0);have cy:=((((cP.setCell (p:=⟨w.heap.size+1,0,T⟩) (zh _) (X J k O)).setCell (p:=⟨w.heap.size+1,1,T⟩) (zh _) (X D m E)).setCell (p:=⟨w.heap.size+1,2,T⟩) (zh _) (X F tt.length G)).setCell (p:=⟨w.heap.size+1+1,0,T⟩) (by show w.heap.size<=w.heap.size+1+1;omega) (U V 0)).setCell (p:=⟨w.heap.size+1+1,1,T⟩) (by show w.heap.size<=w.heap.size+1+1;omega) (U V 0);have dl:∀q,w2.heap.size<=q->(((((wr.setCell ⟨w.heap.size+1,0,T⟩ (X J k O)).setCell ⟨w.heap.size+1,1,T⟩ (X D m E)).setCell ⟨w.heap.size+1,2,T⟩ (X F tt.length G)).setCell ⟨w.heap.size+1+1,0,T⟩ (U V 0)).setCell ⟨w.heap.size+1+1,1,T⟩ (U V 0)).heap[q]? =wr.heap[q]? :=fun q h1=>by
      have a1:q≠w.heap.size+1:=by omega
      have a2:q≠w.heap.size+1+1:=by omega
      rw[heap_setCell_other _ _ q _ a2,heap_setCell_other _ _ q _ a2,heap_setCell_other _ _ q _ a1,heap_setCell_other _ _ q _ a1,heap_setCell_other _ _ q _ a1]
     have bk:=Aa cJ;have dm:=Ab (show ∀y∈N.map (PE ns),okN y/\y.text.size<=1048576 from fun y hy=>by
      obtain⟨x,hx,rfl⟩:=zn.1 hy;exact okM ((Aa C).fields x hx) ((Aa b1).sizes x hx))
     have ed:=Ab (show ∀y∈N.map (PE ns),(-9223372036854775808<=y.num/\y.num<=9223372036854775807)/\y.names.length<=1048576 from fun y hy=>by
      refine⟨?_,(Aa dm y hy).1.1⟩;obtain⟨x,hx,rfl⟩:=zn.1 hy;have a1:=Yl ((Aa C).fields x hx);have a2:=Aa cE x hx;have a3:=(JV (Aa ak)).2.1;have a4:=(Aa C).m;have a5:=Mr x.text ns 0 (zq _);have a6:=Mr x.text Bm 0 (zq _);have eJ:(Bm:List ByteArray).length=6:=rfl;simp only[List.length_nil]at a3;unfold PE;split
      ·split<;>dsimp only<;>omega
      ·omega)
     have bV:wr.ownsRow (g.heap.size+1+1) 93 4 (X D m E) m (En L):=Ad bo (fun q l=>Aa bt q (bo.lt q l).2 (by have:=(bo.lt q l).1;omega));have cB:=Af aj.types ag NLN;have bW:wr.ownsRow B 3 1 (X F tt.length G) tt.length (Aw tt):=Ad cB (fun q l=>Aa bt q (cB.lt q l).2 (by have:=(aj.types.lt q l).2;omega));have eK:w2.heap.size<=B:=by have:=aj.low;omega
     have ee:tt.length<=1048576:=by
      have bS:=(JV (Aa ak)).1;rw[Nz (Aa ab) (Aa bh) (Aa bi)]at bS;have dV:=(Aa C).n;simp at bS;omega
     have ef:=Ab (show ∀W:Z,KpW w2.heap.size wr W->(IY W J k O (N.map (PE ns))/\NmS W J (N.map (PE ns)))/\Ss W D m E L/\Em W F tt.length G tt from fun W hk=>by
      have cC:=(Aa aA).blocks (w':=W) (fun q h1 z=>hk q (by omega) z);rw[Aa d9]at cC;exact⟨⟨cC.nds (by rw[zU];exact Aa aa) (by omega) (Aa dm),cC.nms (by rw[zU];exact Aa aa)⟩,FT (Ad bV (fun q l=>hk q (by have:=(bV.lt q l).1;omega) (bV.lt q l).2)) (Aa bZ) (by omega) (Aa cF).sizes,Mx (Ad bW (fun q l=>hk q (by have:=(bW.lt q l).1;omega) (bW.lt q l).2)) rfl ee⟩)
     have eg:=Ab dl;have dn:=Ab (show N.map (PE ns)=N.map (rvX (CJ ns ts))from List.map_congr_left fun x hx=>Agg bk ((Aa C).fields x hx) (fun h5=>by obtain⟨j,au,eh⟩:=z9 hx;exact Yn (Aa ab) (Aa bh) (Aa bi) (Aa ak) (j:=j) (by rw[zL au,eh]) h5));clear dl bV bW cB;go_wp2_with fail
     obtain⟨e0,e1,e2,_⟩:=JD eb;obtain⟨aJ,aK⟩:=CI ec;exact bodyPost_ret (v:= jJ #[jE #[X J k O,X D m E,X F tt.length G],jE #[U V 0,U V 0]]) (by simp[results,results44,go_sem,e0,e1,e2,aJ,aK]) rfl ⟨⟨.ok (N.map (rvX (CJ ns ts)),L,tt),.inr ⟨Aa ab,Es,Aa bh,Aa bi,by rw[Aa ak]⟩,.inr ⟨_,_,_,_,_,_,_,_,_,_,_,_,rfl,rfl,by rw[<-Aa dn];exact Aa ed,fun W ei=>by rw[<-Aa dn];exact Aa ef W fun q h1 z=>(ei q (by omega) (by simpa using z)).trans (Aa eg q h1)⟩⟩,cy⟩
  ·have ak:=Ab aN;clear aN b7;have b9:=ax.after K NLN;have bl:=ai.after K NLN;have M:=aH.trans (K.mono aH.size);have bX:=b9.alloc (jC #[U V f.1,U V f.2] 89);have bY:=bl.alloc (jC #[U V f.1,U V f.2] 89);have al:=Ah.new g #[U V f.1,U V f.2] 89;have dp:=M.alloc M.size (jC #[U V f.1,U V f.2] 89);have eL:(f.1 !=0)=R:=zp.2 dz;have dB:w.heap.size+1+1<g.heap.size:=bl.lt;have cb:∃ay,ay=g.alloc (jC #[U V f.1,U V f.2] 89):=⟨_,rfl⟩
   obtain⟨ej,ek⟩:=CI al;obtain⟨ac,ad,ae,_⟩:=JD bX;have af:=fun k=>bX.frozen k;obtain⟨u0,u1⟩:=CI bY;have b3:=fun k=>bY.frozen k;dsimp only;obtain⟨ay,az⟩:=cb;go_wp2_with fail
   rw[<-az]at bX bY al dp ej ek ac ad ae af u0 u1 b3|-;clear az;go_region
   all_goals
    have b4:=((((bX.set 0 (X T 0 0)).set 1 (X T 0 0)).set 2 (X T 0 0)).setFar (p:=⟨w.heap.size+1+1,0,T⟩) (by show w.heap.size+1≠w.heap.size+1+1;omega) (U V f.1)).setFar (p:=⟨w.heap.size+1+1,1,T⟩) (by show w.heap.size+1≠w.heap.size+1+1;omega) (U V f.2);have b5:=((((bY.setFar (p:=⟨w.heap.size+1,0,T⟩) (by show w.heap.size+1+1≠w.heap.size+1;omega) (X T 0 0)).setFar (p:=⟨w.heap.size+1,1,T⟩) (by show w.heap.size+1+1≠w.heap.size+1;omega) (X T 0 0)).setFar (p:=⟨w.heap.size+1,2,T⟩) (by show w.heap.size+1+1≠w.heap.size+1;omega) (X T 0 0)).set 0 (U V f.1)).set 1 (U V f.2);have b6:=(((((dp.setCell (p:=⟨w.heap.size+1,0,T⟩) (zh _) (X T 0 0)).setCell (p:=⟨w.heap.size+1,1,T⟩) (zh _) (X T 0 0)).setCell (p:=⟨w.heap.size+1,2,T⟩) (zh _) (X T 0 0)).setCell (p:=⟨w.heap.size+1+1,0,T⟩) (by show w.heap.size<=w.heap.size+1+1;omega) (U V f.1)).setCell (p:=⟨w.heap.size+1+1,1,T⟩) (by show w.heap.size<=w.heap.size+1+1;omega) (U V f.2)).drew;go_wp2_with fail
    obtain⟨e0,e1,e2,_⟩:=JD b4;obtain⟨aJ,aK⟩:=CI b5;exact bodyPost_ret (v:= jJ #[jE #[X T 0 0,X T 0 0,X T 0 0],jE #[U V f.1,U V f.2]]) (by simp[results,results44,go_sem,e0,e1,e2,aJ,aK]) rfl ⟨⟨.error f,.inr ⟨Aa ab,Es,Aa bh,Aa bi,by rw[Aa ak]⟩,.inl ⟨f,rfl,rfl⟩⟩,b6⟩
set_option maxHeartbeats 6400000
def st0:List St:= [⟨3,⟨#[]⟩,-1,-1⟩]
def Aar:CkR->List Nd×List St×List Int
 |.ok r=>r
 |.error _=>([],[],[])
def Ab1:CkR->Int
 |.ok _=>0
 |.error f=>f.1
def TyX (zs:List Int) (pz:Nat) (o:List Nd×List St×List Int):Prop:=
 ∃N0 S0 q,XJ zs jA pz N0 S0/\Aas N0 S0 q/\((Ab1 q=0/\o=Aar q)\/Ab1 q≠0/\∃q2,Aas [] st0 q2/\o=Aar q2)
def Ty5 (w:Z) (v:jB) (o:List Nd×List St×List Int):Prop:=
 ∃x n cx y m cy z p cz,v=jE #[X x n cx,X y m cy,X z p cz]/\(IY w x n cx o.1/\NmS w x o.1)/\Ss w y m cy o.2.1/\Em w z p cz o.2.2
theorem Aes (w:Z):Ty5 w (jE #[X T 0 0,X T 0 0,X T 0 0]) ([],[],[]):=
 ⟨T,0,0,T,0,0,T,0,0,rfl,⟨⟨rfl,by decide,fun x hx=>(by cases hx),fun j h=>absurd h (by simp)⟩,fun j h=>absurd h (by simp)⟩,⟨rfl,by decide,fun x hx=>(by cases hx),fun j h=>absurd h (by simp)⟩,⟨rfl,by decide,fun j h=>absurd h (by simp)⟩⟩
theorem GY.set {R a:Nat}{u:jB}(h:GY B R w b)(h1:w.heap.size<=a)(c:B<=a):GY B R w (b.setCell ⟨a,j,T⟩ u):=
 ⟨h.low.setCell (p:=⟨a,j,T⟩) c _,fun k d t f g r=>⟨by
  have:=r.lt;rw[heap_setCell_other _ _ _ _ (by show k≠a;omega)];exact(h.rd k d t f g r).out⟩⟩
def Ahb (N:List Nd):Prop:=∀x∈N,(-9223372036854775808<=x.num/\x.num<=9223372036854775807)/\x.names.length<=1048576
theorem CmF.tym {q:CkR}{lo:Nat}{e:Ending}{w':Z}(h:CmF q lo e w'):∃a1 a2 a3 b1 b2 b3 c1 c2 c3 f1 f2,e=jF (jJ #[jE #[X a1 a2 a3,X b1 b2 b3,X c1 c2 c3],jE #[U V f1,U V f2]])/\f1=Ab1 q/\Ahb (Aar q).1/\∀a,KpW lo w' a->Ty5 a (jE #[X a1 a2 a3,X b1 b2 b3,X c1 c2 c3]) (Aar q):=by
 rcases h with⟨f,rfl,rfl⟩|⟨N,L,T,x,n,cx,y,m,c,z,p,d,rfl,rfl,g,b⟩
 ·exact⟨_,_,_,_,_,_,_,_,_,_,_,rfl,rfl,fun x hx=>(by cases hx),fun a _=>Aes a⟩
 ·exact⟨_,_,_,_,_,_,_,_,_,_,_,rfl,rfl,g,fun a hk=>⟨x,n,cx,y,m,c,z,p,d,rfl,(b a hk).1,(b a hk).2.1,(b a hk).2.2⟩⟩
theorem Aet {R:Nat}{c:Nat}{al:Nat}(ao:KL w R a n c zs al)(aR:B<=R)(aS: 0<n->∀q,a=Y q->q.block<B):
  Calls jL 26 #[.pointer (Y ⟨R,0,T⟩)] w fun r w'=>(∃v o,r=jF v/\Hid (TyX zs al o)/\Ty5 w' v o/\Ahb o.1)/\GY B R w w':=by
 have aT:=ao.lt;go_enter func26,ntmps26
 go_wp2_with fail
 refine Gh (P:=fun m=>Calls _ _ _ m _) fun aU y F=>?_;obtain⟨f,G⟩:∃f,f=w.heap.size:=⟨_,rfl⟩
 rw[<-G]at F|-;have b:=Ab G;have H:GY B R w aU:=⟨y.mono (by omega),fun k u t I J r=>r.after y NLN⟩
 clear G;refine(Ab2 (ao.after y aT) aR aS jA).mono ?_;rintro r w2 ⟨⟨nd,bf,z,A,bg,bh,rfl,ap,K,L,C,aV,bi,bj⟩,b2⟩;obtain⟨aW,cn,rfl,-⟩:=Ae K.own;obtain⟨aX,u,rfl,-⟩:=Ae L;have aY:f≠R:=by have:=Aa b;omega
 have M:=b2.rd f _ _ (by unfold okR;decide) aY F;have aZ:GY B R w w2:=⟨H.low.trans b2.low,fun k u t I J r=>b2.rd k u t I J (H.rd k u t I J r)⟩
 have bk:f<w2.heap.size:=M.lt;have aq:=K.nds rfl (by omega) (fun x hx=>⟨(C x hx).1,by have:=(C x hx).2.1;omega⟩);have S2:=FT L rfl (by omega) aV;have a0:=Ab C;clear K L b2 H F y C;dsimp only;go_wp2_with fail
 refine Gh (P:=fun m=>Calls _ _ _ m _) fun N g a4=>?_;refine(PZ aW aX z.length cn A.length u z A N (aq.below g NLN) (S2.below g NLN) (fun x hx=>(Aa a0 x hx).2.2.1)).mono ?_;rintro r d ⟨⟨q,ar,au⟩,b4⟩;obtain⟨a1,a2,a3,b1,b2,b3,c1,c2,c3,f1,f2,rfl,av,aw,ax⟩:=au.tym;have a5:=(M.after g NLN).after b4 NLN;have a6:B<=w2.heap.size:=by have:=Aa b;omega
 have a7:=(aZ.below g a6).below b4 (by have:=g.size;omega);have bl:N.heap.size<=d.heap.size:=b4.size;have bm:w2.heap.size<=N.heap.size:=g.size;have ay:=Ab av;have az:=Ab ar;have aA:=Ab (And.intro aw ax);clear au av ar aw ax aq S2 g a4 M b4;dsimp only;go_upto_region 3 with fail
 refine Vh (P:=Code.wp _ _ _ _) fun i O RT a8=>?_;have D:=a5.after O NLN;have aB:=a7.below O (by omega);obtain⟨aC,aD,aE,_⟩:=JD D;have ft:=D.frozen;obtain⟨aF,aG,aH,_⟩:=JD RT;have a9:=RT.frozen;have ba:=a8.cell 0;have bn:d.heap.size<i.heap.size:=RT.lt;have n1:f≠d.heap.size:=by omega
 by_cases h0:f1=0
 ·have bb:(f1 !=0)=jA:=by simp[h0]
  have S:=Ab h0;clear h0;go_wp2_with fail
  have W:=((D.set 0 (X a1 a2 a3)).set 1 (X b1 b2 b3)).set 2 (X c1 c2 c3);obtain⟨aa,ab,ac,_⟩:=JD W;refine bodyPost_ret (v:= jE #[X a1 a2 a3,X b1 b2 b3,X c1 c2 c3]) (by simp[results,results26,go_sem,aa,ab,ac]) rfl ⟨⟨_,Aar q,rfl,Ab ⟨z,A,q,Aa ap,Aa az,.inl ⟨by rw[<-Aa ay];exact Aa S,rfl⟩⟩,(Aa aA).2 _ fun k h1 aI=>?_,(Aa aA).1⟩,((aB.set (zx (Aa b).symm) (by have:=Aa b;omega)).set (zx (Aa b).symm) (by have:=Aa b;omega)).set (zx (Aa b).symm) (by have:=Aa b;omega)⟩
  have hk:k≠f:=by omega
  rw[heap_setCell_other _ _ _ _ hk,heap_setCell_other _ _ _ _ hk,heap_setCell_other _ _ _ _ hk];exact O.block k aI
 ·have bb:(f1 !=0)=true:=by simp[h0]
  have S:=Ab h0;clear h0;go_wp2_with fail
  refine Gh (P:=fun m=>Calls _ _ _ m _) fun ad l aJ=>?_;have aK:ad.ownsRow i.heap.size 93 4 (X (Y ⟨i.heap.size,0,T⟩) 1 1) 1 (En st0):=⟨rfl,.inr ⟨i.heap.size,1,_,rfl,NLN,aJ.out,NLN,by unfold maxLen;omega,rfl,rfl⟩⟩
  refine(PZ T (Y ⟨i.heap.size,0,T⟩) 0 0 1 1 [] st0 ad ⟨rfl,by decide,fun x hx=>(by cases hx),fun j h=>absurd h (by simp)⟩ (FT aK rfl (by decide) (fun s hs=>by rw[st0,zO]at hs;rw[hs];exact zE _)) (fun x hx=>by cases hx)).mono ?_;rintro r bo ⟨⟨aL,aM,aN⟩,E⟩;obtain⟨d1,d2,d3,e1,e2,e3,ae,af,ag,bp,br,rfl,-,aO,aP⟩:=aN.tym;have aQ:=(D.after l NLN).after E NLN;have bc:=(RT.after l NLN).after E NLN;have bd:=(aB.below l (by omega)).below E (by have:=l.size;omega);have bs:i.heap.size<=ad.heap.size:=l.size;have ah:=Ab (And.intro aM (And.intro aO aP));clear aN aM aO aP aK l aJ E aC aD aE ft aF aG aH a9 ba;obtain⟨aC,aD,aE,_⟩:=JD aQ;obtain⟨aF,aG,aH,_⟩:=JD bc;dsimp only;go_wp2_with fail
  have W:=(((((aQ.setFar (p:=⟨d.heap.size,0,T⟩) n1 (X d1 d2 d3)).setFar (p:=⟨d.heap.size,1,T⟩) n1 (X e1 e2 e3)).setFar (p:=⟨d.heap.size,2,T⟩) n1 (X ae af ag)).set 0 (X d1 d2 d3)).set 1 (X e1 e2 e3)).set 2 (X ae af ag);obtain⟨aa,ab,ac,_⟩:=JD W;have ai:w.heap.size<=d.heap.size:=by have:=Aa b;omega
  have aj:B<=d.heap.size:=by have:=Aa b;omega
  refine bodyPost_ret (v:= jE #[X d1 d2 d3,X e1 e2 e3,X ae af ag]) (by simp[results,results26,go_sem,aa,ab,ac]) rfl ⟨⟨_,Aar aL,rfl,Ab ⟨z,A,q,Aa ap,Aa az,.inr ⟨by rw[<-Aa ay];exact Aa S,aL,(Aa ah).1,rfl⟩⟩,(Aa ah).2.2 _ fun k h1 aI=>?_,(Aa ah).2.1⟩,(((((bd.set ai aj).set ai aj).set ai aj).set (zx (Aa b).symm) (by have:=Aa b;omega)).set (zx (Aa b).symm) (by have:=Aa b;omega)).set (zx (Aa b).symm) (by have:=Aa b;omega)⟩
  have hk:k≠f:=by omega
  have ak:k≠d.heap.size:=by omega
  rw[heap_setCell_other _ _ _ _ hk,heap_setCell_other _ _ _ _ hk,heap_setCell_other _ _ _ _ hk,heap_setCell_other _ _ _ _ ak,heap_setCell_other _ _ _ _ ak,heap_setCell_other _ _ _ _ ak]
theorem TyX.one {zs:List Int}{b:Nat}{o c:List Nd×List St×List Int}(h:TyX zs b o)(h':TyX zs b c):o=c:=by
 obtain⟨N,S,q,d,c1,e1⟩:=h;obtain⟨j,k,l,f,c2,e2⟩:=h';obtain⟨rfl,rfl⟩:=d.unique f;obtain rfl:=c1.one c2;rcases e1 with⟨h1,rfl⟩|⟨h1,m,g,rfl⟩<;>rcases e2 with⟨a,rfl⟩|⟨a,n,i,rfl⟩
 ·rfl
 ·exact absurd h1 a
 ·exact absurd a h1
 ·rw[g.one i]
theorem IW {e:Ex}(hk:e.kids=[])(a:FO e≠7):AX ls e=e:=by
 cases e<;>first|(simp[AX,Ie,AP,Ex.kids,AV];done)|(exact absurd rfl a)|(cases hk;done)
theorem AdI {e:Ex}(h:e.con=R):e.kids=[]:=by cases e<;>first|rfl|cases h
theorem SN (i n:Int):(AX ls (.lett i n)).kids=[]:=by
 simp only[AX,Ie,AP,Ex.kids,List.isEmpty_nil,if_true,AV];cases ls[n.toNat]? with
 |none=>rfl
 |some c=>
  by_cases hc:c.con=R
  ·show((if c.con=R then Y c else T).getD (.lett i n)).kids=[]
   rw[if_pos hc];exact AdI hc
  ·show((if c.con=R then Y c else T).getD (.lett i n)).kids=[]
   rw[if_neg hc];rfl
theorem Js {wz:Z}{w:Z}{P:Program}{f:FuncId}{args:Array jB}(hk:z.kids=[])(h:Calls P f args w (RwA z w)):Calls P f args w (XB wz z w):=
 h.mono fun e w' ⟨⟨k,h1,a⟩,b⟩=>⟨k,h1,If hk a,b⟩
theorem TV {e:Ex}(h:e.con=R):∃v,e.cv=Y v:=Option.isSome_iff_exists.1 h
theorem okI {e:Ex}{v:Vv}(h:e.cv=Y v)(a:Ix e):∀n,v= .int n->FJ n:=fun n e=>by
 subst e;exact Ags h a
theorem RQ (wz:Z){ls:List Ex}{ts:List Int}(l:Ki ts ls)(F:ls.length=ts.length)(A:∀c∈ls,Ix c)(D:∀c∈ls,Bi c=R){o:Option jD}{p:Nat}(E:ls.length<=p):∀(e:Ex) (t:Int) (k:K5) (w:Z),AE ts e=Y t->Ix e->wz.heap.size<=w.heap.size->Tq w e k->LtQ w o ls->
  Calls jL 73 #[jE #[U V k.op,U V k.num,Q k.text,X k.an k.nn k.cn,X k.ka k.kn k.kc],X o ls.length p] w (XB wz (AX ls e) w)
 |.lett i n,t,k,w,ht,ho,f,h,hL=>by
  have ad: 0<=n/\n<ls.length:=by
   rw[AE]at ht;split at ht
   ·have:=(zZ.1 ht).1;omega
   ·cases ht
  exact Js (SN i n) (Aft h hL rfl E ad D)
 |.un i op c,t,k,w,ht,ho,f,h,hL=>by
  obtain⟨h1,W,aa,ab,h5,B,H,I⟩:=h;rw[AE]at ht;cases hc:AE ts c with
  |none=>rw[hc]at ht;cases ht
  |some a=>
   rw[hc]at ht;have ae:=Ft ht;have r:=DR l c a hc;rw[h5,AX,h1];exact TU wz w f o ls.length p ls w BRN op k.num k.text k.an k.nn k.cn k.ka 1 k.kc [B] H rfl (by decide) (by decide) (by decide) (by omega) [AX ls c] rfl (fun z f=>by rw[zO.1 f];exact Cv _ _ r) _ (.un i _ ⟨rfl,rfl,rfl⟩) (fun _ _ _=>by omega) (fun _ _ _ e=>by cases e)
    (fun s J ka kc hv K C m=>by
     match J,hv with
     |[k0],_=>
      obtain⟨v,hv⟩:=TV (show(AX ls c).con=R by simpa using m);have L:v.ty=a:=by rw[Pi hv]at r;exact Option.some.inj r
      exact Afq i op (by rw[L];exact ht) (C 0 (by simp) (by simp)) hv (okI hv (GQ A c ho)) K)
    (fun m=>by simp only[List.all_cons,List.all_nil,Bool.and_true]at m;simp[AP,Ex.kids,m])
    (fun j a1 a2 s g=>by
     match j,a1 with
     |0,_=>exact RQ wz l F A D E c a B s hc ho (zC f g.size) (I.below g NLN) (hL.below g NLN))
 |.bin i op x y,t,k,w,ht,ho,f,h,hL=>by
  obtain⟨h1,W,aa,ab,h5,B,M,H,I,P⟩:=h;rw[AE]at ht;cases hx:AE ts x with
  |none=>rw[hx]at ht;cases ht
  |some a=>
   cases hy:AE ts y with
   |none=>rw[hx,hy]at ht;cases ht
   |some b=>
    rw[hx,hy]at ht;have ae:=EP ht;have r:=DR l x a hx;have N:=DR l y b hy;rw[h5,AX,h1];exact TU wz w f o ls.length p ls w BRN op k.num k.text k.an k.nn k.cn k.ka 2 k.kc [B,M] H rfl (by decide) (by decide) (by decide) (by omega) [AX ls x,AX ls y] rfl (fun z f=>by
      simp only[zT,List.not_mem_nil,or_false]at f;rcases f with rfl|rfl
      ·exact Cv _ _ r
      ·exact Cv _ _ N) _ (.bin i _ _ ⟨rfl,rfl,rfl⟩) (fun _ _ e=>by cases e) (fun _ _ _ _=>by omega)
     (fun s J ka kc hv K C m=>by
      match J,hv with
      |[k0,k0'],_=>
       have G:(AX ls x).con=R/\(AX ls y).con=R:=by simpa using m
       obtain⟨v,hv⟩:=TV G.1;obtain⟨u,hu⟩:=TV G.2;have L:v.ty=a:=by rw[Pi hv]at r;exact Option.some.inj r
       have af:u.ty=b:=by rw[Pi hu]at N;exact Option.some.inj N
       exact Afr i op (by rw[L,af];exact ht) (C 0 (by simp) (by simp)) (C 1 (by simp) (by simp)) hv hu (okI hv (GQ A x ho.1)) (okI hu (GQ A y ho.2)) K)
     (fun m=>by
      have:([AX ls x,AX ls y].all Ex.con)=jA:=m;simp only[AP,Ex.kids,this,List.isEmpty_cons];rfl)
     (fun j a1 a2 s g=>by
      match j,a1 with
      |0,_=>exact RQ wz l F A D E x a B s hx ho.1 (zC f g.size) (I.below g NLN) (hL.below g NLN)
      |1,_=>exact RQ wz l F A D E y b M s hy ho.2 (zC f g.size) (P.below g NLN) (hL.below g NLN))
 |.ite i x y z,t,k,w,ht,ho,f,h,hL=>by
  obtain⟨h1,W,aa,ab,h5,B,M,ac,H,I,P,ag⟩:=h;rw[AE]at ht;cases hx:AE ts x with
  |none=>rw[hx]at ht;cases ht
  |some a=>
   cases hy:AE ts y with
   |none=>rw[hx,hy]at ht;cases ht
   |some b=>
    cases O:AE ts z with
    |none=>rw[hx,hy,O]at ht;cases ht
    |some d=>
     rw[hx,hy,O]at ht;have ah:a=1:=by
      obtain⟨S,ai⟩:=H6 ht;simp only[Ca]at S;split at S
      ·rename_i he;exact he.1
      ·exact absurd S.symm ai
     have r:=DR l x a hx;have N:=DR l y b hy;have aj:=DR l z d O;rw[h5,AX,h1];exact Abc wz w f o ls.length p ls w BRN 27 k.num k.text k.an k.nn k.cn k.ka 3 k.kc [B,M,ac] H rfl (by decide) (by decide) (by decide) (by decide) [AX ls x,AX ls y,AX ls z] rfl (fun z f=>by
       simp only[zT,List.not_mem_nil,or_false]at f;rcases f with rfl|rfl|rfl
       ·exact Cv _ _ r
       ·exact Cv _ _ N
       ·exact Cv _ _ aj) _ (.ite i _ _ _ rfl ⟨rfl,rfl,rfl⟩) (fun _ _ e=>by cases e) (fun _ _ _ e=>by cases e)
      (fun s J ka kc hv K C m=>by
       match J,hv with
       |[k0,k0',k0''],_=>
        have G:(AX ls x).con=R/\(AX ls y).con=R/\(AX ls z).con=R:=by simpa using m
        obtain⟨v,hv⟩:=TV G.1;obtain⟨u,hu⟩:=TV G.2.1;obtain⟨q,ak⟩:=TV G.2.2;have L:v.ty=1:=by rw[Pi hv,ah]at r;exact Option.some.inj r
        cases v with
        |bool c=>exact WU i (C 0 (by simp) (by simp)) (C 1 (by simp) (by simp)) (C 2 (by simp) (by simp)) hv hu ak K
        |_=>cases L)
      (fun m=>by
       have:([AX ls x,AX ls y,AX ls z].all Ex.con)=jA:=m;simp only[AP,Ex.kids,this,List.isEmpty_cons];rfl)
      (fun j a1 a2 s g=>by
       match j,a1 with
       |0,_=>exact RQ wz l F A D E x a B s hx ho.1 (zC f g.size) (I.below g NLN) (hL.below g NLN)
       |1,_=>exact RQ wz l F A D E y b M s hy ho.2.1 (zC f g.size) (P.below g NLN) (hL.below g NLN)
       |2,_=>exact RQ wz l F A D E z d ac s O ho.2.2 (zC f g.size) (ag.below g NLN) (hL.below g NLN))
 |.int ..,t,k,w,ht,ho,f,h,hL=>by rw[IW rfl (by simp[FO,Ed])];exact Js rfl (IV o _ p h (h.leaf rfl) (by rw[h.op];simp[FO,Ed]))
 |.text ..,t,k,w,ht,ho,f,h,hL=>by rw[IW rfl (by simp[FO,Ed])];exact Js rfl (IV o _ p h (h.leaf rfl) (by rw[h.op];simp[FO,Ed]))
 |.bool ..,t,k,w,ht,ho,f,h,hL=>by rw[IW rfl (by simp[FO,Ed])];exact Js rfl (IV o _ p h (h.leaf rfl) (by rw[h.op];simp[FO,Ed]))
 |.set ..,t,k,w,ht,ho,f,h,hL=>by rw[IW rfl (by simp[FO,Ed])];exact Js rfl (IV o _ p h (h.leaf rfl) (by rw[h.op];simp[FO,Ed]))
 |.name ..,t,k,w,ht,ho,f,h,hL=>by rw[IW rfl (by simp[FO,Ed])];exact Js rfl (IV o _ p h (h.leaf rfl) (by rw[h.op];simp[FO,Ed]))
 |.attr ..,t,k,w,ht,ho,f,h,hL=>by rw[IW rfl (by simp[FO,Ed])];exact Js rfl (IV o _ p h (h.leaf rfl) (by rw[h.op];simp[FO,Ed]))
theorem AhA (wz:Z):RwC wz:=fun ls ts h1 a b c j l h5 e t k w d f g h i=>RQ wz h1 a b c h5 e t k w d f g h i
set_option maxHeartbeats 1600000
def Sy (N:List Nd) (L:List St) (T:List Int) (o:List Nd×List St×List Int):Prop:=
 (Nn N L T jA/\o=([],[],[]))\/(Nn N L T R/\∃Es:List Ex,Es.length=N.length/\(∀j,(h:j<Es.length)->Bu N j Es[j])/\o=(DG 0 (DE (Nf Es 0 L)),Dv 0 (DE (Nf Es 0 L)),WS [] (DE (Nf Es 0 L))))
theorem Afy (N:List Nd)(L:List St)(T:List Int):∃v,Nn N L T v:=by
 cases a:CR N L with
 |false=>exact⟨jA,.inl ⟨a,rfl⟩⟩
 |true=>
  obtain⟨Es,h1,b⟩:=Gu (BP a);exact⟨_,.inr ⟨a,Es,h1,b,rfl⟩⟩
theorem AdM (Es:List Ex):∀(L:List St) (i j:Nat) (h:j<L.length),(Nf Es i L)[j]? =Y ⟨((i+j:Nat):Int),L[j].kind,L[j].name,BV Es L[j].cond,BV Es L[j].grant⟩
 |s ::L,i,0,h=>by rw[Nf];rfl
 |s ::L,i,j+1,h=>by
  rw[Nf,z1,AdM Es L (i+1) j (by simpa using h)];rw[show i+1+j=i+(j+1) by omega];rfl
theorem NmQ.below {w w':Z}{a:Option jD}{n c:Nat}{N:List Nd}(h:NmQ w a N)(m:IY w a n c N)(f:An w w'):NmQ w' a N:=fun j g b t d an nn cn hc=>by
 obtain⟨i,k,l,o,_⟩:=m.cells j g;rw[l]at d;simp only[Option.some.injEq,Addr.mk.injEq]at d;obtain⟨rfl,rfl,_⟩:=d;have q:=(f.cell (p:=⟨i,k+j*5+3,T⟩) o).symm.trans hc;obtain⟨r,s⟩:=h j g i k l an nn cn q;exact⟨r,s.below f NLN⟩
structure WtX (N:List Nd) (L:List St) (X:List Sx):Prop where
 ty:Mg [] X
 gd:GdX X
 en:MR X
 nm:nmX X
 lt:LtF Bm X
 cnt:Cn X<=4000
 len:X.length=L.length
 sm:L.length<=600
theorem AbY {L:List St}{T:List Int}(hv:Nn N L T R)(u:∀x∈N,FJ x.num/\x.names.length<=1048576){Es:List Ex}(h1:Es.length=N.length)(g:∀j,(h:j<Es.length)->Bu N j Es[j]):CR N L=R/\WtX N L (Nf Es 0 L):=by
 rcases hv with⟨_,h⟩|⟨b,B,f1,f2,h⟩
 ·cases h
 ·have a:=BP b;rw[Oc (no5 b) f1 h1 f2 g]at h;cases hc:CT Es (Bm,[],[]) L with
  |none=>rw[hc]at h;cases h
  |some st=>
   have l:=b;simp only[CR,zD,zG]at l;obtain⟨⟨⟨_,_,o⟩,_⟩,c⟩:=l;obtain⟨c1,c2,c3⟩:=ZQ Es L 0 Bm [] [] st hc o (fun s hs=>by
    have q:=a.stm s hs;have r:=a.roots s hs;exact⟨fun d=>by omega,by omega⟩)
   obtain⟨S,t,v⟩:∃S,EK (N.map Nd.kids) N.length [] 0=Y S/\As S=L.flatMap Ap:=by
    rw[GK]at c;cases i:EK (N.map Nd.kids) N.length [] 0 with
    |none=>rw[i]at c;cases c
    |some S=>rw[i]at c;exact⟨S,rfl,of_decide_eq_true c⟩
   obtain⟨w,hd⟩:=Dd N.length (.nil 0) (fun p hp=>(by cases hp)) t;have good:∀s∈L,∀k∈Ap s,∀e,BV Es k=Y e->Lc e/\Ix e/\Bv e<=64:=fun s hs k hk e he=>by
    have hm:k∈As S:=by rw[v];exact Z2.2 ⟨s,hs,hk⟩
    rw[As]at hm;obtain⟨p,hp,e1⟩:=zn.1 hm;have e2:k=(p.1:Int):=e1.symm;subst e2;rw[BV,if_neg (by omega),zb]at he;obtain⟨y,he⟩:=zZ.1 he;have f:=g p.1 y;rw[he]at f;have:=Aa9 w p hp e f;have:=hd p hp;exact⟨f.gd a.fields,f.ok u,by omega⟩
   refine⟨b,c1,fun x hx=>?_,ZP Es L 0 o a.m0,c2,c3,?_,Ux Es L 0,a.m⟩
   ·obtain⟨s,hs,z,A,C,D⟩:=Zl hx;have i:=a.stm s hs;have t:=a.roots s hs;refine⟨fun e he=>?_,fun e he=>?_⟩
    ·rw[z]at he;by_cases d:s.kind=3
     ·have:s.cond= -1:=by omega
      rw[BV,if_pos this]at he;cases he
     ·exact good s hs s.cond (by rw[Ap,if_pos d];exact Z8 _ zS) e he
    ·rw[A]at he;by_cases d:s.grant= -1
     ·rw[BV,if_pos d]at he;cases he
     ·exact good s hs s.grant (by rw[Ap,if_pos d];exact List.mem_append_right _ zS) e he
   ·rw[Uy,Kl b h1 g];exact a.n
theorem KH:∀(b:List Sx) (ts:List Int),Mg ts b->∀x∈b,UO x.cond/\UO x.grant/\(x.kind=1->∃e,x.cond=Y e)
 |[],_,_,x,hx=>by cases hx
 |y ::b,ts,h,x,hx=>by
  have f:∀{g:Option Ex},tyG ts g->UO g:=fun {g} hg=>by
   cases g with
   |none=>trivial
   |some e=>exact Cv e 4 hg
  rcases zT.1 hx with e1|e1
  ·subst e1;rcases h with⟨k,e,t,h1,d,c,a⟩|⟨k,⟨e,h1,d⟩,c,a⟩|⟨k,h1,c,a⟩
   ·exact⟨by rw[h1];exact Cv e t d,by rw[c];trivial,fun _=>⟨e,h1⟩⟩
   ·exact⟨by rw[h1];exact Cv e 1 d,f c,fun i=>⟨e,h1⟩⟩
   ·exact⟨by rw[h1];trivial,f c,fun i=>absurd (k.symm.trans i) (by decide)⟩
  ·rcases h with⟨_,_,t,_,_,_,a⟩|⟨_,_,_,a⟩|⟨_,_,_,a⟩
   ·exact KH b _ a x e1
   ·exact KH b _ a x e1
   ·exact KH b _ a x e1
theorem RU:∀(a:List Sx) (n:Int),(Rn n a).map Prod.fst=a
 |[],_=>rfl
 |x ::a,n=>by rw[Rn];split<;>rw[List.map_cons,RU a]
theorem YJ (h:Bb x=R):okN x/\x.text.size<=1048576:=by
 rw[Bb,zD,zG]at h;obtain⟨hk,a⟩:=h;have b:x.kids.length<=1048576:=by
  have:Cz x.op<=3:=by unfold Cz;repeat' split;all_goals omega
  omega
 have nn:x.names.length=0->okN x:=fun h0=>⟨by omega,b,fun s hs=>by rw[zj h0]at hs;cases hs⟩
 unfold Jc U8 at a
 repeat' split at a
 all_goals first
  |(cases a;done)
  |(simp only[zD,zG]at a;exact⟨nn (by omega),by omega⟩)
  |(simp only[zD,zG]at a;have q:=a.1.1;rw[Ci,zD,zG]at q;exact⟨nn (by omega),by omega⟩)
  |(simp only[zD,zG]at a;obtain⟨s1,s2⟩:=Id a.1.1;exact⟨⟨by omega,b,fun s hs=>by have:=s2 s hs;unfold maxLen;omega⟩,by omega⟩)
theorem ZX (a:Z):GdM [] [] [] T 0 0 T 0 0 T 0 0 a:=⟨⟨⟨rfl,by decide,fun x hx=>(by cases hx),fun j h=>absurd h (by simp)⟩,fun j h=>absurd h (by simp)⟩,⟨rfl,by decide,fun x hx=>(by cases hx),fun j h=>absurd h (by simp)⟩,⟨rfl,by decide,fun j h=>absurd h (by simp)⟩⟩
theorem Afz (a b e:Option jD)(n c m d k f:Nat)(w:Z)
  (j:∀i,An w i->Calls jL 45 #[jE #[X a n c,X b m d,X e k f]] i fun r w'=>r=jF (.bool jA)/\An i w'):
  Calls jL 27 #[jE #[X a n c,X b m d,X e k f]] w (OpM [] [] [] w):=by
 have h:=(AN w (Nr a n c b m d e k f)).alloc (by simp) (Nr T 0 0 T 0 0 T 0 0);have g:=Ah.new (w.alloc (Nr a n c b m d e k f)) #[X T 0 0,X T 0 0,X T 0 0] 69;simp only[World.size_alloc]at g;have l:=Ab j;clear j;go_enter func27,ntmps27
 go_wp2_with fail
 generalize (w.alloc (Nr a n c b m d e k f)).alloc (Nr T 0 0 T 0 0 T 0 0)=z at h g|-;refine(Aa l _ h).mono ?_;rintro r A ⟨rfl,b1⟩;have o:=h.trans (b1.mono h.size);replace g:=g.after b1 NLN;obtain⟨B,C,D⟩:=Ao g;have E:=fun k=>g.frozen k;have RC:=((g.set 0 (X T 0 0)).set 1 (X T 0 0)).set 2 (X T 0 0);have q:=((o.setCell (p:=⟨w.heap.size+1,0,T⟩) (zh _) (X T 0 0)).setCell (p:=⟨w.heap.size+1,1,T⟩) (zh _) (X T 0 0)).setCell (p:=⟨w.heap.size+1,2,T⟩) (zh _) (X T 0 0);have s:=Ab RC;have t:=Ab q;clear h b1 l RC q g o;dsimp only;go_wp2_with fail
 obtain⟨u,x,y⟩:=Ao (Aa s);refine bodyPost_ret (v:= jE #[X T 0 0,X T 0 0,X T 0 0]) (by simp[results,results27,go_sem,u,x,y]) rfl ⟨⟨T,0,0,T,0,0,T,0,0,rfl,ZX _,fun _ _ _ _ _ _=>ZX _⟩,Aa t⟩
theorem AfA (a:List Sx):(Ee (DT [] a)).length<=a.length:=by
 have l1:∀(a:List Sx) (ls:List Ex),(DT ls a).length=a.length:=fun a=>by
  induction a with
  |nil=>intro ls;rfl
  |cons x a b=>intro ls;rw[DT,List.length_cons,List.length_cons,b]
 have c:∀(a:List Sx),(Ee a).length<=a.length:=fun a=>by
  induction a with
  |nil=>exact NLN
  |cons x a b=>
   rw[Ee,List.length_cons];split
   ·omega
   ·split
    ·simp
    ·rw[List.length_cons];omega
 have:=c (DT [] a);rw[l1]at this;exact this
theorem TY:∀(a:List Sx) (b:Nat),∀s∈Dv b a,∃x∈a,s.kind=x.kind/\s.name=x.name
 |[],_,s,hs=>by cases hs
 |x ::a,b,s,hs=>by
  rw[Dv]at hs;rcases zT.1 hs with e|e
  ·exact⟨x,zS,by rw[e],by rw[e]⟩
  ·obtain⟨y,h1,c⟩:=TY a _ s e;exact⟨y,za _ h1,c⟩
theorem Sz (a b e:Option jD)(n c m d k f:Nat)(N:List Nd)(L:List St)(T:List Int)(w:Z)(h1:IY w a n c N)(W:Ss w b m d L)(ar:Em w e k f T)(au:NmQ w a N)(aa:∀x∈N,FJ x.num/\x.names.length<=1048576):
  Calls jL 27 #[jE #[.slice a n c,.slice b m d,.slice e k f]] w fun r w'=>∃o,Sy N L T o/\OpM o.1 o.2.1 o.2.2 w r w':=by
 obtain⟨v,hv⟩:=Afy N L T;have ab:∀i,An w i->Calls jL 45 #[jE #[.slice a n c,.slice b m d,.slice e k f]] i fun r w'=>r=jF (.bool v)/\An i w':=fun i t=>
  (JO a b e n c m d k f N L T i (h1.below t NLN) (W.below t NLN) (ar.below t NLN)).mono fun r w' ⟨⟨v',D,av⟩,G⟩=>⟨by rw[D,av.one hv],G⟩
 cases v with
 |false=>exact(Afz a b e n c m d k f w ab).mono fun r w' h=>⟨_,.inl ⟨hv,rfl⟩,h⟩
 |true=>
  obtain⟨H,p,f1,f2,_⟩:CR N L=R/\∃Es:List Ex,Es.length=N.length/\(∀j,(h:j<Es.length)->Bu N j Es[j])/\True:=by
   rcases hv with⟨_,h⟩|⟨H,p,f1,f2,_⟩
   ·cases h
   ·exact⟨H,p,f1,f2,trivial⟩
  obtain⟨_,g⟩:=AbY hv aa f1 f2;have ac:=BP H;have ad:∀j,(h:j<L.length)->∃x,(Nf p 0 L)[j]? =Y x/\x.kind=L[j].kind/\x.name=L[j].name/\TrS N L[j].cond x.cond/\TrS N L[j].grant x.grant:=fun j ae=>by
   have af:∀k:Int,(k= -1\/(0<=k/\k<N.length))->TrS N k (BV p k):=fun k hk=>by
    rcases hk with h|⟨h,h'⟩
    ·exact .inl ⟨h,by rw[BV,if_pos h]⟩
    ·have I:k.toNat<p.length:=by omega
     exact .inr ⟨k.toNat,p[k.toNat],by omega,by rw[BV,if_neg (by omega)];exact zL I,f2 _ I,(f2 _ I).ok aa⟩
   have D:=ac.roots L[j] (zH ae);exact⟨_,AdM p L 0 j ae,rfl,rfl,af _ D.1,af _ D.2⟩
  obtain⟨X,ag⟩:∃X,X=Nf p 0 L:=⟨_,rfl⟩
  rw[<-ag]at ad g;have ah:=WN g.en;have J:=Rp X [] ah;have K:∀q∈Lo [] X,q.1∈Ee (DT [] X):=fun q l=>by
   rw[J]at l;have:=List.mem_map_of_mem (f:=Prod.fst) l;rw[RU]at this;exact this
  have E:Mg [] (Ee (DT [] X)):=Kz _ [] (MP X [] [] (fun n c hc=>by simp at hc) rfl g.ty);have ai:Lb (Lo [] X)=(G3 0 (Ee (DT [] X))).map IT:=by rw[J];exact UI _ 0
  have aj:Dp (Lb (Lo [] X))=Dp (G3 0 (Ee (DT [] X))):=by rw[ai,Adr]
  have aw:DE X=(Lb (Lo [] X)).map fun q=>PI (Dp (Lb (Lo [] X))) q.1:=by rw[Aa6 X ah,z7];rfl
  obtain⟨ax,O,ay⟩:=Afl g.en g.nm;have P:=Y7 g.gd;have ak:=Afc g.ty;have al:Cn (DE X)<=4000:=zC (Ads X) g.cnt;have az:(DE X).length<=600:=zC (Adz X) (by rw[g.len];exact g.sm);have u:=AdA ak P ax O al az;have z:=BP u;have aA:∀i,An w i->Calls jL 46 #[jE #[.slice a n c,.slice b m d,.slice e k f]] i (StA (Lo [] X) i):=fun i t=>
   Xc a b e n c m d k f N L i (h1.below t NLN) (au.below h1 t) ac.fields (W.below t NLN) X (by rw[g.len]) ad g.ty (fun x hx hk=>(g.nm x hx).2 (by omega)) (AhA i)
  have aB:(Lo [] X).length<=600:=by
   have q:=congrArg List.length (RU (Ee (DT [] X)) ((([]:List Ex).length:Nat):Int));rw[zU,<-J]at q;rw[q];exact zC (AfA X) (by rw[g.len];exact g.sm)
  have aC:∀q∈Lb (Lo [] X),∀m,usS m q.1=R->m∈Dp (Lb (Lo [] X)):=fun q l m hm=>by
   rw[aj];rw[ai]at l;obtain⟨S,h0,rfl⟩:=zn.1 l;have e1:(IT S).1=S.1:=by unfold IT;split<;>rfl
   rw[e1]at hm;rcases PJ (Ee (DT [] X)) [] E S h0 m hm with q|q
   ·simp at q
   ·exact q
  have aD:∀s∈Dv 0 (DE X),s.name.size<=1048576:=fun s hs=>by
   obtain⟨x,hx,e1,e2⟩:=TY (DE X) 0 s hs;rcases z.stm s hs with⟨_,q,_⟩|⟨q,_⟩|⟨q,_⟩
   ·omega
   ·rw[e2,(O x hx).2 (by omega)];exact zE _
   ·rw[e2,(O x hx).2 (by omega)];exact zE _
  obtain⟨aE,A,C⟩:=Gu z;obtain⟨n1,aM,F⟩:=UL (no5 u) A C (DE X) 0 Bm [] [] (fun j y hy=>by rw[zP];exact hy) ak (g.lt.sub ay) P;rw[List.nil_append]at F;have aF:=ZY u A C F;refine(AdK a b e n c m d k f w (Lo [] X) aB (fun q l=>⟨(KH _ [] E q.1 (K q l)).1,(KH _ [] E q.1 (K q l)).2.1⟩) (fun q l=>(KH _ [] E q.1 (K q l)).2.2) ab aA (DE X) aw al (by rw[aj];exact(YE _ 0).2) aC (WS [] (DE X)) (by rw[ZR];omega) (fun x hx=>YJ (LT (DE X) 0 P x hx)) aD ?_).mono fun r w' h=>⟨_,.inr ⟨hv,p,f1,f2,rfl⟩,by rw[<-ag];exact h⟩
  intro i aG n' c' aH aI aJ ao ap;have aq:=ao.len;have aK:=ap.len;refine(Po aG aH n' c' aI aJ _ _ (fun x hx=>zt.1 aF x hx) i ao ap aE (by rw[A,aq]) C (by rw[<-aq];exact z.n) (by rw[<-aK];exact z.m) (RZ u A C) (by rw[Kl u A C];exact z.n)).mono ?_;rintro r w' (⟨B,aN,ns,ts,tt,aO,lv,aL,e1,e2,M,_,G⟩|⟨e1,_⟩)
  ·rw[F]at e1;have e3:WS [] (DE X)=tt:=congrArg (fun q=>q.2.2) (Option.some.inj e1);exact⟨⟨B,aL,_,0,0,e2,by rw[e3];exact M.types⟩,G⟩
  ·rw[F]at e1;cases e1
theorem ZZ (o:Option Ex):Bc (o.map Ex.st)=Bc o:=by cases o with|none=>rfl|some e=>exact Fi e
theorem AgJ (o:Option Ex)(b:Nat):Pu (o.map Ex.st) b=Pu o b:=by cases o with|none=>rfl|some e=>exact Rl e b
theorem AgK (o:Option Ex)(b:Nat):JG (o.map Ex.st) b=JG o b:=by cases o with|none=>rfl|some e=>simp only[Option.map,JG,Fi]
theorem UP:∀(a:List Sx) (b:Nat),DG b (a.map Ih)=DG b a
 |[],b=>rfl
 |x ::a,b=>by rw[List.map_cons,DG,DG];simp only[Ih,AgJ,ZZ];rw[<-UP a]
theorem UQ:∀(a:List Sx) (b:Nat),Dv b (a.map Ih)=Dv b a
 |[],b=>rfl
 |x ::a,b=>by rw[List.map_cons,Dv,Dv];simp only[Ih,AgK,ZZ];rw[<-UQ a]
theorem Jt (ts:List Int):∀(e:Ex),CB ts e.st=CB ts e
 |.un i op k=>by have h:=Iq ts (.un i op k);rw[Ex.st]at h|-;rw[CB,CB,Jt ts k,h]
 |.bin i op l r=>by have h:=Iq ts (.bin i op l r);rw[Ex.st]at h|-;rw[CB,CB,Jt ts l,Jt ts r,h]
 |.ite i c t e=>by have h:=Iq ts (.ite i c t e);rw[Ex.st]at h|-;rw[CB,CB,Jt ts c,Jt ts t,Jt ts e,h]
 |.int .. =>rfl
 |.text .. =>rfl
 |.bool .. =>rfl
 |.set .. =>rfl
 |.name .. =>rfl
 |.attr .. =>rfl
 |.lett .. =>rfl
theorem AgL (ts:List Int)(o:Option Ex):WR ts (o.map Ex.st)=WR ts o:=by cases o with|none=>rfl|some e=>exact Jt ts e
theorem AgM (ts:List Int)(o:Option Ex):(o.map Ex.st).bind (AE ts)=o.bind (AE ts):=by cases o with|none=>rfl|some e=>exact Iq ts e
theorem YK:∀(a:List Sx) (ts:List Int),WS ts (a.map Ih)=WS ts a
 |[],ts=>rfl
 |x ::a,ts=>by rw[List.map_cons,WS,WS];simp only[Ih,AgL,AgM];rw[<-YK a]
theorem AdN {X Y:List Sx}(h:X.map Ih=Y.map Ih):DG 0 (DE X)=DG 0 (DE Y)/\Dv 0 (DE X)=Dv 0 (DE Y)/\WS [] (DE X)=WS [] (DE Y):=by
 have e:(DE X).map Ih=(DE Y).map Ih:=by rw[<-Aaa X,h,Aaa Y]
 exact⟨by rw[<-UP,e,UP],by rw[<-UQ,e,UQ],by rw[<-YK,e,YK]⟩
theorem AdO {Es a:List Ex}(h1:Es.length=N.length)(m:a.length=N.length)(d:∀j,(h:j<Es.length)->Bu N j Es[j])(f:∀j,(h:j<a.length)->Bu N j a[j]):∀(L:List St) (i:Nat),(Nf Es i L).map Ih=(Nf a i L).map Ih:=by
 have g:∀k,(BV Es k).map Ex.st=(BV a k).map Ex.st:=fun k=>by
  unfold BV;split
  ·rfl
  ·by_cases hk:k.toNat<N.length
   ·have b:k.toNat<Es.length:=by omega
    have c:k.toNat<a.length:=by omega
    rw[zL b,zL c];exact congrArg Y ((d _ b).st_one (f _ c))
   ·rw[yB (by omega),yB (by omega)]
 intro L
 induction L with
 |nil=>intro i;rfl
 |cons s L l=>intro i;rw[Nf,Nf,List.map_cons,List.map_cons,l];simp only[Ih,g]
theorem Sy.one {N:List Nd}{L:List St}{T:List Int}{o p:List Nd×List St×List Int}(h:Sy N L T o)(k:Sy N L T p):o=p:=by
 rcases h with⟨h1,rfl⟩|⟨h1,Es,e1,e2,rfl⟩<;>rcases k with⟨d,rfl⟩|⟨d,f,f1,f2,rfl⟩
 ·rfl
 ·cases h1.one d
 ·cases h1.one d
 ·obtain⟨a,b,c⟩:=AdN (AdO e1 f1 e2 f2 L 0);rw[a,b,c]
end Go.Proofs.YtppafecmccdplaaGreat
