import Derived.Test.YtppafecmccdplaaGreatKK
open Go.Proofs.Tryz
open Go.Value renaming slice->X
open Go.Proofs.Tryz renaming prog->jL
namespace Go.Proofs.YtppafecmccdplaaGreat
set_option maxRecDepth 100000
set_option maxHeartbeats 12800000
open Go.RowKit
set_option linter.unusedVariables false
variable {L:List Int}
theorem Up {w:World}{lo c:Nat}{x:Option Addr}(h:w.ownsRow lo 5 1 (X x L.length c) L.length (AA L))(ok:AB L):KQ w w.heap.size x L.length c L:=by
 have hc:L.length<=c/\c<=9223372036854775807:=by
  rcases h.2 with⟨q,h0⟩|⟨g,cap,f,q,h1,i,k,a,_⟩
  ·simp only[Value.slice.injEq]at q;omega
  ·simp only[Value.slice.injEq]at q;unfold maxLen at a;omega
 refine⟨rfl,hc.1,hc.2,ok,fun j b=>?_⟩;obtain⟨l,c',e,hx⟩:=Ae h;cases e;obtain⟨g,rfl,m,d⟩:=hx (by omega);exact⟨g,0,rfl,(h.lt g rfl).2,(h.lt g rfl).2,by rw[zP];exact d j _ (by simp[AA,List.getElem?_map,List.getElem?_eq_getElem b])⟩
theorem XM {cd:Cd}(ok:AB L)(h:Mj L=some cd):okC cd/\Eo cd.pool cd.slots cd.ins=L:=by
 constructor
 ·rw[Zc L ok]at h;split at h
  ·cases h;exact(Vi _ (Vj _ ok)).1
  ·cases h
 ·rw[Qb L ok]at h;unfold Ju at h;split at h
  ·rename_i q;cases h;exact q.2.2.2
  ·cases h
theorem Un (a:Option Addr)(n c:Nat)(zs:List Int)(N:Option Addr)(n' c':Nat)(ys:List Int)(w:World)(h:Eh w a n c zs)(h':Eh w N n' c' ys):
  Calls jL 3 #[X a n c,X N n' c'] w fun e w'=>e= .returned (.bool true)/\An w w':=by
 have b1:n<=9223372036854775807:=by have:=h.cap;have:=h.small;unfold maxLen at this;omega
 have b2:n'<=9223372036854775807:=by have:=h'.cap;have:=h'.small;unfold maxLen at this;omega
 by_cases aR: ¬ (n<=1048576/\n'<=1048576/\n+n'<=1048576)
 ·have ao:(1048576 :Int)<(n:Int)\/(1048576 :Int)<(n':Int)\/(¬ ((1048576 :Int)<(n:Int))/\¬ ((1048576 :Int)<(n':Int))/\(1048576 :Int)<(n:Int)+(n':Int)):=by omega
  clear aR;by_cases bH:(1048576 :Int)<(n:Int)
  ·go_enter func3,ntmps3
   go_wp2
   go_ret
   exact⟨rfl,BRN⟩
  by_cases bI:(1048576 :Int)<(n':Int)
  ·go_enter func3,ntmps3
   go_wp2
   go_ret
   exact⟨rfl,BRN⟩
  have bJ:(1048576 :Int)<(n:Int)+(n':Int):=by omega
  clear ao;go_enter func3,ntmps3
  go_wp2
  go_ret
  exact⟨rfl,BRN⟩
 have bH: ¬ ((1048576 :Int)<(n:Int)):=by omega
 have bI: ¬ ((1048576 :Int)<(n':Int)):=by omega
 have bJ: ¬ ((1048576 :Int)<(n:Int)+(n':Int)):=by omega
 have aS:n<=1048576:=by omega
 have aT:n'<=1048576:=by omega
 clear aR;go_enter func3,ntmps3
 go_wp2_with fail
 refine(Y8 a n c zs w h aS).mono ?_;rintro e bK ⟨⟨P,s,I,x,cx,y,ap,ch,rfl,aU,aV,aW,h1,aX,aq⟩,c1⟩;dsimp only;go_wp2_with fail
 refine Gh (P:=fun t=>Calls _ _ _ t _) fun bL O RC=>?_;have S:=c1.trans (O.mono c1.size);refine(Y8 a n c zs bL (h.below S NLN) aS).mono ?_;rintro e bM ⟨⟨b,f,I',bN,bO,bP,bQ,ci,rfl,aY,ar,aZ,-,-,-⟩,c3⟩;obtain⟨rfl,rfl,rfl⟩:=(Aa aY).one (Aa aU);have a0:=((aV.vls rfl h1).below O NLN).below c3 NLN;have a1:=((Ui aW aX).below O NLN).below c3 NLN;have au:=S.trans (c3.mono S.size);have a2:=RC.after c3 NLN;clear aY O S RC aV aW c1;dsimp only;go_wp2_with fail
 refine(Ow bN bP b.length bO I'.length bQ f b I' bM (ar.vls rfl h1) (Ui aZ aX)).mono ?_;rintro e av ⟨cj,rfl,A,c4⟩;obtain⟨bR,bS,rfl⟩:=Au A;have aw:=a0.below c4 NLN;have ax:=a1.below c4 NLN;have W:=au.trans (c4.mono au.size);have ay:=a2.after c4 NLN;have az:=Uo b f I';have a3:=Qa b f I';have aa:=Ab (show Eo b f I'≠ []->Mj (Eo b f I')=some ⟨b,f,I'⟩/\I'.length<=20000 from fun aA=>by
  rw[Eo]at aA|-;cases hs:Da b f I' with
  |false=>rw[hs]at aA;exact absurd rfl aA
  |true=>
   refine⟨Aao hs fun v hv=>⟨(aq v hv).lo,(aq v hv).hi⟩,?_⟩;rw[Da,zD,zD]at hs;exact(of_decide_eq_true hs.1.1).2.1)
 have a4:=Ab ar.ok;obtain⟨E,aB⟩:∃E,Eo b f I'=E:=⟨_,rfl⟩
 rw[aB]at A az a3 aa|-;have a5:=Ab aB;have g:An av av.drew:=BRN.drew;have ab:=GC (Af A g NLN) rfl;obtain⟨aC,a6⟩:∃aC,aC=bK.heap.size:=⟨_,rfl⟩
 rw[<-a6]at ay|-;have ac:=Ab (JJ x y b.length cx I'.length ap f b I' av.drew (aw.below g NLN) (ax.below g NLN));have B:=ay.after g NLN;have q:=(⟨(Ao B).1,(Ao B).2.1,(Ao B).2.2,ab⟩:_/\_/\_/\_)
 clear aB a6 a0 a1 au a2 c3 c4 ar aZ aU;dsimp only;go_wp2_with fail
 have ad:(Tryz.f6.name== "runtime.NumGoroutine")=false:=by kernel_rfl
 have ae: Tryz.f6.body.isNone=false:=by kernel_rfl
 obtain⟨aD,aE,aF,-⟩:=q;go_region_law (refine EI rfl 6 _ func6 ad ae _ _ rfl (.agg #[X x b.length cx,.int .i64 f,X y I'.length ap]) rfl _ (Aa ac) ?_;rintro bT a7 ⟨k,d⟩;rw[Aa a5]at k;obtain⟨bU,bV,rfl⟩:=Au k;obtain⟨a8,a9,ba⟩:=Ao (B.after d NLN);have bb:=GC k rfl;have bc:=GC (Af (Af A g NLN) d NLN) rfl)
 all_goals
  have bd:=Af (Af A g NLN) d NLN;have bf:=(aw.below g NLN).below d NLN;have bg:=(ax.below g NLN).below d NLN;have aG:=(W.trans (g.mono W.size)).trans (d.mono (zC W.size g.size));have bh:=B.after d NLN;clear A aw ax W ay B g d ab bb k ac a5 aD aE aF bc a8 a9 ba ad ae;go_upto_if 43 with fail
  go_cut [] (fun bW=>An a7 bW)
  case first=>
   by_cases J:E=[]
   ·have ao: ¬ ((0 :Int)<(E.length:Int)):=by rw[J];simp
    clear J;go_wp2
    go_meet
    exact BRN
   ·have ao:(0 :Int)<(E.length:Int):=by
     rcases E with _|⟨e,E⟩
     ·exact absurd rfl J
     ·simp
    obtain⟨d1,d2⟩:=Aa aa J;have l:=Oz bR E.length bS E a7 (Up bd az);rw[d1]at l;have l:=Ab l;clear d1 J aa;go_wp2_with fail
    refine(Aa l).mono ?_;rintro e bX ⟨af,ag,ah,ai,bY,rfl,m,p,-,C⟩;dsimp only[Option.getD_some,Option.isSome_some]at m p|-;have bi:=m.vlsW5 rfl h1 (Aa a4);have bj:=Hu p rfl (by omega);have aH:=bh.after C NLN;have bk:=bf.below C NLN;have bl:=bg.below C NLN;have q:=Ao aH;have ck:aC<bX.heap.size:=aH.lt;obtain⟨aD,aE,aF⟩:=q;clear m p l;go_wp2_with fail
    refine Gh (P:=fun t=>Calls _ _ _ t _) fun bZ u _=>?_;refine(SC x af y ah b.length cx ag I'.length ap ai f b I' bZ (bk.below u NLN) (bi.below u NLN) (bl.below u NLN) (bj.below u NLN)).mono ?_;rintro e cm ⟨rfl,bm⟩;have b0:=Ab (C.trans ((u.trans (bm.mono u.size)).mono C.size));clear C bm u bi bk bj bl aH;dsimp only;go_wp2
    go_meet
    exact Aa b0
  case rest=>
   have aj:=aG.trans (hcut.mono aG.size);clear hcut bd bf bg bh aG aa a4 az a3 aq;go_wp2_with fail
   refine(Zb N n' c' ys wc (h'.below aj NLN) aT).mono ?_;rintro e b3 ⟨v,L,rfl,bn,aI,D,cn,bo⟩;have ak:=aj.trans (bo.mono aj.size);obtain⟨bp,cl,rfl⟩:=Au aI;dsimp only;go_wp2_with fail
   refine(Zb N n' c' ys b3 (h'.below ak NLN) aT).mono ?_;rintro e b4 ⟨v,j,rfl,br,aJ,-,-,aK⟩;obtain rfl:=(Aa br).one (Aa bn);have aL:=ak.trans (aK.mono ak.size);have bs:=Af aI aK NLN;obtain⟨b5,b6,rfl⟩:=Au aJ;obtain⟨o,aM⟩:∃o,Mj j=o:=⟨_,rfl⟩
   have l:=Oz b5 j.length b6 j b4 (Up aJ D);rw[aM]at l;have aN:=Ab aM;clear aM bn br bo ak aj aI aJ aK;dsimp only;go_wp2_with fail
   refine l.mono ?_;rintro e b7 ⟨af,ag,ah,ai,bY,rfl,m,p,-,bt⟩;have K:=aL.trans (bt.mono aL.size);have al:=Af bs bt NLN;cases o with
   |none=>
    dsimp only[Option.getD_none,Option.isSome_none];go_wp2_with fail
    refine Gh (P:=fun t=>Calls _ _ _ t _) fun aO i _=>?_;have z:=OD bp j.length cl j aO (Up (Af al i NLN) D);rw[<-Qb j D,Aa aN]at z;refine z.mono ?_;rintro e b8 ⟨b9,ca,cb,cc,ce,rfl,-,-,-,r⟩;have F:=K.trans ((i.trans (r.mono i.size)).mono K.size);dsimp only[Option.getD_none,Option.isSome_none];clear z m p;go_wp2_with fail
    go_quiet (fail)
    go_wp2
    go_ret
    exact⟨rfl,below_drewN (F.alloc F.size _) _⟩
   |some cd=>
    obtain⟨⟨bu,bv,bw⟩,bx⟩:=XM D (Aa aN);dsimp only[Option.getD_some,Option.isSome_some]at m p|-;go_wp2_with fail
    refine Gh (P:=fun t=>Calls _ _ _ t _) fun aO i bz=>?_;have z:=OD bp j.length cl j aO (Up (Af al i NLN) D);rw[<-Qb j D,Aa aN]at z;refine z.mono ?_;rintro e b8 ⟨b9,ca,cb,cc,ce,rfl,-,-,-,r⟩;have F:=K.trans ((i.trans (r.mono i.size)).mono K.size);dsimp only[Option.getD_some,Option.isSome_some];have bA:=((m.vls rfl bu bv).below i NLN).below r NLN;have bB:=((Hu p rfl bw).below i NLN).below r NLN;have bC:=Af (Af al i NLN) r NLN;have bD:=bz.after r NLN;clear z m p bz al bs;go_upto_region 16 with fail
    refine Gh (P:=Code.wp _ _ _ _) fun aP G _=>?_;have aQ:=F.trans (G.mono F.size);have H:An aP aP.drew:=BRN.drew;have ac:=Ab (Ow af ah cd.pool.length ag cd.ins.length ai cd.slots cd.pool cd.ins aP.drew ((bA.below G NLN).below H NLN) ((bB.below G NLN).below H NLN));have bE:=Af (Af bC G NLN) H NLN;have M:=(bD.after G NLN).after H NLN;have ab:=GC bE rfl;obtain⟨bF,bG⟩:∃bF,bF=b7.heap.size:=⟨_,rfl⟩
    rw[<-bG]at M|-;have q:=(⟨(Ao M).1,(Ao M).2.1,(Ao M).2.2,ab⟩:_/\_/\_/\_)
    have cf:=Ab bx;clear bG bA bB bC bD G i r bu bv bw bx F K aL;have ad:(Tryz.f5.name== "runtime.NumGoroutine")=false:=by kernel_rfl
    have ae: Tryz.f5.body.isNone=false:=by kernel_rfl
    obtain⟨aD,aE,aF,-⟩:=q;go_region_law (refine OE (by simp[Region.wanted,yielded]) 5 _ func5 ad ae _ _ rfl (.agg #[X af cd.pool.length ag,.int .i64 cd.slots,X ah cd.ins.length ai]) rfl _ (Aa ac) ?_;rintro bT co ⟨k,d⟩;rw[Aa cf]at k;obtain⟨bU,bV,rfl⟩:=Au k;obtain⟨a8,a9,ba⟩:=Ao (M.after d NLN);have bb:=GC k rfl;have bc:=GC (Af bE d NLN) rfl)
    all_goals
     have cg:=(aQ.trans (H.mono aQ.size)).trans (d.mono (zC aQ.size H.size));go_wp2
     go_ret
     exact⟨rfl,cg⟩
end Go.Proofs.YtppafecmccdplaaGreat
