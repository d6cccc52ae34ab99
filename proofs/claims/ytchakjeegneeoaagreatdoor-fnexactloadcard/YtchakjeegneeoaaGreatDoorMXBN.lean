/-
  EDK, EDN0, LDP, LDA, LDB. Own work.
-/
import Derived.Test.YtchakjeegneeoaaGreatDoorMXBH
import Derived.Test.YtchakjeegneeoaaGreatDoorMXBI
import Derived.Test.YtchakjeegneeoaaGreatDoorMXBL
import Derived.Test.YtchakjeegneeoaaGreatDoorMXBM
import Derived.Test.YtchakjeegneeoaaGreatDoorMXBG
import Derived.Deep.DeepCutAuto
import Derived.Deep.CutBlock
import Derived.Test.YtchakjeegneeoaaGreatDoorMXBK
import Derived.Test.YtchakjeegneeoaaGreatDoorMXBO
import Derived.Test.YtchakjeegneeoaaGreatDoorMXBR
import Derived.Test.YtchakjeegneeoaaGreatDoorMXBS
import Derived.Test.YtchakjeegneeoaaGreatDoorMXAE
namespace Go.Proofs.YtchakjeegneeoaaGreatDoor
set_option maxRecDepth 100000
set_option maxHeartbeats 51200000
open Go.RowKit
set_option linter.unusedVariables false
theorem XR {w:World}{a:Option Addr}{n c:Nat}{N:List Nd}(h:GQ w a n c N)(p:∀ x∈N,As x=true)(q:∀ x∈N,x.num≤9223372036854775807)(r:∀ (i:Nat) (x:Nd),N[i]? =some x→∀ k∈x.kids,0≤k∧k < (i:Int)):
  ∃ Es:List Ex,Es.length=N.length∧(∀ j,(h:j < Es.length)→Ds N j Es[j])∧∀ e∈Es,e.fit w:=by
 have:∀ k,k≤N.length→∃ Es:List Ex,Es.length=k∧(∀ j,(h:j < Es.length)→Ds N j Es[j])∧∀ e∈Es,e.fit w:=by
  intro k
  induction k with
  |zero=>exact fun _=>⟨[],rfl,fun j g=>absurd g (by simp),fun e he=>by cases he⟩
  |succ k s=>
   intro hk;obtain ⟨Es,l,m,hf⟩:=s (by omega);have d:k < N.length:=by omega
   have hx:N[k]? =some N[k]:=zH d;obtain ⟨b,v,_,_,an,nn,y,z,A,B,_,_,_,_,_,t,_⟩:=h.cells k d;obtain ⟨e,_,ht,u⟩:=ZG (w:=w) hx (p _ (zO d)) (r k _ hx) (q _ (zO d)) l m hf t;refine ⟨Es ++ [e],by simp[l],fun j g=>?_,fun f hf'=>?_⟩
   ·by_cases o:j < Es.length
    ·rw[zx o];exact m j o
    ·have:j=Es.length:=by simp at g;omega
     subst this;simp only[List.getElem_concat_length];rw[l];exact ht
   ·rcases zK.1 hf' with hf' | hf'
    ·exact hf f hf'
    ·simp at hf';subst hf';exact u
 exact this N.length NLN
theorem L6 {x:Nd}(h:As x=true):x.names.length≤1048576:=by
 rw[As,zI] at h;have h:=h.2
 repeat' split at h
 all_goals
  first
   |cases h;done
   |(simp only[zI,zG] at h;first | omega | (have:=(FZ h.1.1).1;omega))
theorem okM {ns:List ByteArray}{x:Nd}(h:As x=true)(ht:x.text.size≤1048576):okN (Pf ns x)∧(Pf ns x).text.size≤1048576:=by
 have a:∀ s∈x.names,s.size≤maxLen:=fun s hs=>by
  have h2:=h;rw[As,zI] at h2;have h2:=h2.2
  repeat' split at h2
  all_goals
   first
    |cases h2;done
    |simp only[zI,zG] at h2;have e:=If h2.2;rw[e] at hs;cases hs;done
    |simp only[zI,zG] at h2;have:=(FZ h2.1.1).2 s hs;unfold maxLen;omega
 have hk:x.kids.length≤1048576:=by
  have h2:=h;rw[As,zI,zG] at h2;have h2:=h2.1;unfold Dn at h2
  repeat' split at h2
  all_goals omega
 have ok:okN x:=⟨L6 h,hk,a⟩
 unfold Pf;split
 ·split
  ·exact ⟨ok,zF _⟩
  ·exact ⟨ok,zF _⟩
 ·exact ⟨ok,ht⟩
def KpW (lo:Nat) (w W:World):Prop:=∀ q,lo≤q→q < w.heap.size→W.heap[q]? =w.heap[q]?
def CmF (q:UP) (lo:Nat) (e:Ending) (w':World):Prop:=
 (∃ f:Int × Int,q= .error f∧e= .returned (.tuple #[.agg #[.slice none 0 0,.slice none 0 0,.slice none 0 0],.agg #[.int .i64 f.1,.int .i64 f.2]]))∨
 (∃ N L T x n cx y m cy z p cz,q= .ok (N,L,T)∧e= .returned (.tuple #[.agg #[.slice x n cx,.slice y m cy,.slice z p cz],.agg #[.int .i64 0,.int .i64 0]])∧∀ W,KpW lo w' W→GQ W x n cx N∧KN W y m cy L∧BT W z p cz T)
def CkN (lo mb tb:Nat) (vT:Array Value) (ns:List ByteArray) (x:Nd) (u:Option Addr) (cu:Nat) (ku:Option Addr) (ck:Nat) (wr wx:World):Prop:=∃ (o7 n7:Int) (t7:ByteArray),Pf ns x=⟨o7,n7,t7,x.names,x.kids⟩∧Al wx mb #[.int .i64 o7,.int .i64 n7,.string t7,.slice u x.names.length cu,.slice ku x.kids.length ck] 68∧Al wx tb vT 26∧wx.ownsRow lo 9 1 (.slice u x.names.length cu) x.names.length (x.names.map Value.string)∧wx.ownsRow lo 3 1 (.slice ku x.kids.length ck) x.kids.length (Ar x.kids)∧Below wr.heap.size wr wx
theorem Vn (a b:Option Addr)(n c m d:Nat)(N:List Nd)(L:List St)(w:World)(h1:GQ w a n c N)(h2:KN w b m d L)(co:∀ x∈N,x.num≤9223372036854775807):
  Calls Tryz.prog 11 #[.agg #[.slice a n c,.slice b m d]] w fun r w'=>(∃ q,Jy N L q∧CmF q w.heap.size r w')∧Below w.heap.size w w':=by
 have aa:=Ab h1.len;have bN:=Ab h2.len;have dd:=Ab co;obtain ⟨de,df,dg,dh,di⟩:=info_parts Vo;have bO:=((Al.new w #[.slice a n c,.slice b m d] 36).alloc (.cells #[.slice none 0 0,.slice none 0 0,.slice none 0 0] 26)).alloc (.cells #[.int .i64 0,.int .i64 0] 28);have a0:=(Al.new (w.alloc (.cells #[.slice a n c,.slice b m d] 36)) #[.slice none 0 0,.slice none 0 0,.slice none 0 0] 26).alloc (.cells #[.int .i64 0,.int .i64 0] 28);have a3:=Al.new ((w.alloc (.cells #[.slice a n c,.slice b m d] 36)).alloc (.cells #[.slice none 0 0,.slice none 0 0,.slice none 0 0] 26)) #[.int .i64 0,.int .i64 0] 28;simp only[World.size_alloc] at a0 a3;have al:=(((Below.refl w.heap.size w).alloc NLN (.cells #[.slice a n c,.slice b m d] 36)).alloc (by simp) (.cells #[.slice none 0 0,.slice none 0 0,.slice none 0 0] 26)).alloc (by simp;omega) (.cells #[.int .i64 0,.int .i64 0] 28);have a4:=h1.below al NLN;have a5:=h2.below al NLN;have bP:=Ab h1;have cp:=Ab h2;clear h1 h2 co;have dj:∃ cq,cq=((w.alloc (.cells #[.slice a n c,.slice b m d] 36)).alloc (.cells #[.slice none 0 0,.slice none 0 0,.slice none 0 0] 26)).alloc (.cells #[.int .i64 0,.int .i64 0] 28):=⟨_,rfl⟩
 go_enter Tryz.func11,Tryz.ntmps11
 go_wp2_with fail
 obtain ⟨cq,cr⟩:=dj;rw[← cr] at bO a0 a3 al a4 a5 ⊢;clear cr;refine (Ld _ _ _ _ _ _ N L _ a4 a5).mono ?_;rintro r w2 ⟨rfl,ab⟩;have ct:=a4.below ab NLN;have dk:=a5.below ab NLN;have bQ:=bO.after ab NLN;have ao:=a0.after ab NLN;have ac:=a3.after ab NLN;have az:=al.trans (ab.mono al.size);clear a4 a5 bO a0 a3 al ab;dsimp only;cases aA:Bo N L with
 |false=>
  have T:=Ab aA;clear aA;obtain ⟨U,V,X,_⟩:=Cd ao;have Y:=fun k=>ao.frozen k;obtain ⟨u0,u1⟩:=Ba ac;have bR:=fun k=>ac.frozen k;go_wp2_with fail
  have bS:=((((ao.set 0 (.slice none 0 0)).set 1 (.slice none 0 0)).set 2 (.slice none 0 0)).setFar (p:=⟨w.heap.size+1+1,0,none⟩) (by show w.heap.size+1≠w.heap.size+1+1;omega) (.int .i64 10)).setFar (p:=⟨w.heap.size+1+1,1,none⟩) (by show w.heap.size+1≠w.heap.size+1+1;omega) (.int .i64 0);have bT:=((((ac.setFar (p:=⟨w.heap.size+1,0,none⟩) (by show w.heap.size+1+1≠w.heap.size+1;omega) (.slice none 0 0)).setFar (p:=⟨w.heap.size+1,1,none⟩) (by show w.heap.size+1+1≠w.heap.size+1;omega) (.slice none 0 0)).setFar (p:=⟨w.heap.size+1,2,none⟩) (by show w.heap.size+1+1≠w.heap.size+1;omega) (.slice none 0 0)).set 0 (.int .i64 10)).set 1 (.int .i64 0);have bU:=((((az.setCell (p:=⟨w.heap.size+1,0,none⟩) (zJ _) (.slice none 0 0)).setCell (p:=⟨w.heap.size+1,1,none⟩) (zJ _) (.slice none 0 0)).setCell (p:=⟨w.heap.size+1,2,none⟩) (zJ _) (.slice none 0 0)).setCell (p:=⟨w.heap.size+1+1,0,none⟩) (by show w.heap.size≤w.heap.size+1+1;omega) (.int .i64 10)).setCell (p:=⟨w.heap.size+1+1,1,none⟩) (by show w.heap.size≤w.heap.size+1+1;omega) (.int .i64 0);obtain ⟨aB,e1,e2,_⟩:=Cd bS;obtain ⟨g0,g1⟩:=Ba bT;exact bodyPost_ret (v:= .tuple #[.agg #[.slice none 0 0,.slice none 0 0,.slice none 0 0],.agg #[.int .i64 10,.int .i64 0]]) (by simp[results,Tryz.results11,go_sem,aB,e1,e2,g0,g1]) rfl ⟨⟨_,.inl ⟨Aa T,rfl⟩,.inl ⟨(10,0),rfl,rfl⟩⟩,bU⟩
 |true=>
  have T:=Ab aA;have H:=Ab (Fv aA);clear aA;obtain ⟨Es,aC,aD,_⟩:=XR ct (Aa H).fields (Aa dd) (Aa H).kids;have bV:=Ab (QX a b n c m d N L (Aa H).fields w2 ct dk Es (by rw[aC,Aa aa]) aD (by rw[← Aa aa];exact (Aa H).n) (by rw[← Aa bN];exact (Aa H).m) (PU (Aa T) aC aD) (by rw[Gt (Aa T) aC aD];exact (Aa H).n));have a6:=Ab aC;have a7:=Ab aD;obtain ⟨dl,dm⟩:=Ba bQ;clear aC aD;go_wp2_with fail
  refine (Aa bV).mono ?_;rintro r g (⟨B,aE,ns,ts,t,ed,lv,ee,aF,a8,rfl,Z,ef,J⟩ | ⟨f,aF,rfl,hf,J⟩)
  ·have ap:=Ab aF;have cu:=Ab a8;clear aF a8 bV;obtain ⟨C,E,rfl,_⟩:=Ad Z.types;obtain ⟨bW,cv,rfl,dn⟩:=Z.nmsX;have cw:=bQ.after J NLN;have bX:=ao.after J NLN;have a9:=ac.after J NLN;have K:=az.trans (J.mono az.size);have dp:w.heap.size+1+1 < w2.heap.size:=ac.lt;have eg:=J.size;clear bQ ao ac dl dm;have aG:=((Below.refl g.heap.size g).alloc NLN (.cells #[.int .i64 0,.int .i64 0] 28)).alloc (by simp) (.cells #[.slice none 0 0,.slice none 0 0,.slice C t.length E] 26);have ad:=Al.new (g.alloc (.cells #[.int .i64 0,.int .i64 0] 28)) #[.slice none 0 0,.slice none 0 0,.slice C t.length E] 26;simp only[World.size_alloc] at ad;have bY:=(Aa cp).below (K.trans (aG.mono K.size)) NLN;have bZ:∃ aq,aq=(g.alloc (.cells #[.int .i64 0,.int .i64 0] 28)).alloc (.cells #[.slice none 0 0,.slice none 0 0,.slice C t.length E] 26):=⟨_,rfl⟩
   have cx:((g.alloc (.cells #[.int .i64 0,.int .i64 0] 28)).alloc (.cells #[.slice none 0 0,.slice none 0 0,.slice C t.length E] 26)).cell? ⟨w.heap.size,1,none⟩=some (.slice b m d):=(cw.after aG NLN).cell 1;have eh:m≤600:=by rw[← Aa bN];exact (Aa H).m
   dsimp only;go_wp2_with (at_builtin;refine Jz rfl _ _ rfl _ _ 0 [] rfl (World.ownsRow_nil _ (g.heap.size+1+1) _ _) b m d L rfl bY (by omega) (by simp) ?_)
   intro ei aH ba aI;obtain ⟨aq,ar⟩:=bZ;have ej:aq.heap.size=g.heap.size+1+1:=by rw[ar];simp
   rw[← ar] at aG ad bY aI cx;clear ar cx;obtain ⟨A,cs,rfl,_⟩:=Ad ba;have bb:=ad.below aI (by omega);obtain ⟨cy,cz,cA,_⟩:=Cd bb;have cB:=fun k=>bb.frozen k;have cC:Below g.heap.size g aH:=aG.trans (aI.mono (by omega));have ek:g.heap.size+1+1≤aH.heap.size:=by have:=aI.size;omega
   have cD:=bb.set 1 (.slice A m cs);have M:=cC.setCell (p:=⟨g.heap.size+1,1,none⟩) (zJ _) (.slice A m cs);have bc:=AA ba ⟨g.heap.size+1,1,none⟩ (.slice A m cs) (fun q hq=>by have:=(ba.lt q hq).1;show q≠g.heap.size+1;omega);have dq:(aH.setCell ⟨g.heap.size+1,1,none⟩ (.slice A m cs)).cell? ⟨w.heap.size,0,none⟩=some (.slice a n c):=(cw.after M NLN).cell 0;have dr:∃ z,z=aH.setCell ⟨g.heap.size+1,1,none⟩ (.slice A m cs):=⟨_,rfl⟩
   go_wp2_with fail
   obtain ⟨z,b0⟩:=dr;have ds:z.heap.size=aH.heap.size:=by rw[b0];simp
   rw[← b0] at cD M bc ⊢;clear b0 dq cy cz cA cB bb ba aI cC ad aG bY;have el:n≤4000:=by rw[← Aa aa];exact (Aa H).n
   have em:=Ab ((Aa bP).below (K.trans (M.mono K.size)) NLN);have dt:Below w.heap.size w z:=K.trans (M.mono K.size);have en:aE < z.heap.size:=by have:=Z.row.lt;have:=M.size;omega
   have du:=Bt.nil z z.heap.size;have eo:w.heap.size+1+1 < g.heap.size:=by omega
   go_loopw [41] (fun i wr=>∃ (k:Nat) (bd:Value) (bf bg:List Value),k≤n∧i= .int .i64 k∧Al wr (g.heap.size+1) #[bd,.slice A m cs,.slice C t.length E] 26∧Hid (Bt wr z.heap.size bd ((N.take k).map (Pf ns)) bf bg)∧Below (g.heap.size+1) z wr∧Hid (∀ q,q < z.heap.size→q≠g.heap.size+1→wr.heap[q]? =z.heap[q]?)) (fun i _=>n - (intOf i).toNat)
   case atStart=>exact ⟨0,.slice none 0 0, [], [],by omega,rfl,cD,Ab du,BRN,Ab fun _ _ _=>rfl⟩
   case round=>
    obtain ⟨k,bd,bf,bg,hk,rfl,bh,au,aJ,bi⟩:=hrel;have b1:Below w.heap.size w wr:=dt.trans (aJ.mono (by omega));have ep:=aJ.size;by_cases b2:k < n
    ·have eq:(k:Int) < (n:Int):=by omega
     have bj:k < N.length:=by rw[Aa aa];exact b2
     obtain ⟨er,es,dv,et,an,nn,bk,bl,bm,bn,c0,c1,c2,c3,c4,bo,b3⟩:=((Aa bP).below b1 NLN).cells k bj;have b4:=Ab ((Aa H).fields _ (zO bj));have cE:=Ab (show (N.take (k+1)).map (Pf ns)=(N.take k).map (Pf ns) ++ [Pf ns N[k]] by rw[zf bj,zU];rfl);have bp:=Ab (show ((N.take k).map (Pf ns)).length=k by rw[zV,zb];omega);have bq:=Ab (show wr.ownsRow z.heap.size 68 5 bd k (JY ((N.take k).map (Pf ns)) bf bg) by have:=(Aa au).own;rwa[Aa bp] at this);obtain ⟨O,P,rfl,_⟩:=Ad (Aa bq);have cF:=Ab b2;generalize N[k]=x at c0 c1 c2 bo b3 b4 cE;have dw:nn≤1048576:=by rw[bo.len];exact L6 (Aa b4)
     have aK:=(Below.refl wr.heap.size wr).alloc NLN (.cells #[.int .i64 x.op,.int .i64 x.num,.string x.text,.slice an nn bk,.slice bl bm bn] 68);have cG:=Ab (Vm x an nn bk bl bm bn _ (bo.below aK NLN) (b3.below aK NLN) dw);have b5:=Al.new wr #[.int .i64 x.op,.int .i64 x.num,.string x.text,.slice an nn bk,.slice bl bm bn] 68;have dx:∃ av,av=wr.alloc (.cells #[.int .i64 x.op,.int .i64 x.num,.string x.text,.slice an nn bk,.slice bl bm bn] 68):=⟨_,rfl⟩
     clear b2 bj bo b3;rw[dv];go_wp2_with fail
     refine (Aa cG).mono ?_;rintro r h ⟨⟨u,l,o,s,rfl,br,bs⟩,bt⟩;obtain ⟨av,cH⟩:=dx;rw[← cH] at aK b5 br bs bt;clear cH cG c0 c1 c2 c3 c4;have cI:=b5.after bt NLN;have aw:=aK.trans (bt.mono aK.size);have eu:∃ dy,dy= #[Value.int .i64 x.op,.int .i64 x.num,.string x.text,.slice u x.names.length l,.slice o x.kids.length s]:=⟨_,rfl⟩
     have dz:=cI.alloc (.cells #[.int .i64 x.op,.int .i64 x.num,.string x.text,.slice u x.names.length l,.slice o x.kids.length s] 68);have ae:=Al.new h #[.int .i64 x.op,.int .i64 x.num,.string x.text,.slice u x.names.length l,.slice o x.kids.length s] 68;have Q:=(bh.after aw NLN).alloc (.cells #[.int .i64 x.op,.int .i64 x.num,.string x.text,.slice u x.names.length l,.slice o x.kids.length s] 68);have I:=aw.alloc aw.size (.cells #[.int .i64 x.op,.int .i64 x.num,.string x.text,.slice u x.names.length l,.slice o x.kids.length s] 68);have bu:=Au br ((Below.refl h.heap.size h).alloc NLN (.cells #[.int .i64 x.op,.int .i64 x.num,.string x.text,.slice u x.names.length l,.slice o x.kids.length s] 68)) NLN;have bv:=Au bs ((Below.refl h.heap.size h).alloc NLN (.cells #[.int .i64 x.op,.int .i64 x.num,.string x.text,.slice u x.names.length l,.slice o x.kids.length s] 68)) NLN;obtain ⟨b6,b7,b8,b9,ca⟩:=E9 dz;obtain ⟨m0,aL,aM,aN,aO⟩:=E9 ae;have bw:=fun k=>ae.frozen k;obtain ⟨U,V,X,_⟩:=Cd Q;have Y:=fun k=>Q.frozen k;have ev:∃ R,R=h.alloc (.cells #[.int .i64 x.op,.int .i64 x.num,.string x.text,.slice u x.names.length l,.slice o x.kids.length s] 68):=⟨_,rfl⟩
     dsimp only;have ew:wr.heap.size < av.heap.size∧av.heap.size≤h.heap.size:=⟨b5.lt,bt.size⟩
     go_upto_if 49 with fail
     go_cut [] (fun dA=>Hid (CkN av.heap.size h.heap.size (g.heap.size+1) #[.slice O k P,.slice A m cs,.slice C t.length E] ns x u l o s wr dA))
     case first=>
      by_cases h5:x.op=5
      ·have e5:(x.op== 5)=true:=zN.2 h5;have dB:=Ab h5;have cJ:wr.heap.size≠h.heap.size:=by omega
       have bx:g.heap.size+1≠h.heap.size:=by omega
       have bz:wr.heap.size≤h.heap.size:=by omega
       have cb:=Al.new h #[.int .i64 6,.int .i64 x.num,.string ⟨#[]⟩,.slice u x.names.length l,.slice o x.kids.length s] 68;have bA:=cI.alloc (.cells #[.int .i64 6,.int .i64 x.num,.string ⟨#[]⟩,.slice u x.names.length l,.slice o x.kids.length s] 68);have af:=(bh.after aw NLN).alloc (.cells #[.int .i64 6,.int .i64 x.num,.string ⟨#[]⟩,.slice u x.names.length l,.slice o x.kids.length s] 68);have bB:=aw.alloc aw.size (.cells #[.int .i64 6,.int .i64 x.num,.string ⟨#[]⟩,.slice u x.names.length l,.slice o x.kids.length s] 68);have bC:∀ q,(Value.slice u x.names.length l).ownBlock=some q→q≠h.heap.size:=fun q hq=>by have:=(br.lt q hq).2;omega
       have bD:∀ q,(Value.slice o x.kids.length s).ownBlock=some q→q≠h.heap.size:=fun q hq=>by have:=(bs.lt q hq).2;omega
       have ag:=Au br ((Below.refl h.heap.size h).alloc NLN (.cells #[.int .i64 6,.int .i64 x.num,.string ⟨#[]⟩,.slice u x.names.length l,.slice o x.kids.length s] 68)) NLN;have ah:=Au bs ((Below.refl h.heap.size h).alloc NLN (.cells #[.int .i64 6,.int .i64 x.num,.string ⟨#[]⟩,.slice u x.names.length l,.slice o x.kids.length s] 68)) NLN;obtain ⟨cc,cd,ce,cf,cg⟩:=E9 bA;have dC:∃ cK,cK=h.alloc (.cells #[.int .i64 6,.int .i64 x.num,.string ⟨#[]⟩,.slice u x.names.length l,.slice o x.kids.length s] 68):=⟨_,rfl⟩
       clear h5;go_wp2_with fail
       obtain ⟨cK,cL⟩:=dC;rw[← cL] at cb bA af bB ag ah ⊢;clear cL m0 aL aM aN aO bw U V X Y b6 b7 b8 b9 ca cc cd ce cf cg;refine (FE x.text _).mono ?_;rintro r cM ⟨rfl,ai⟩;have aP:=cb.after ai NLN;have cN:=bA.after ai NLN;have bE:=af.after ai NLN;have cO:=bB.trans (ai.mono bB.size);have cP:=Au ag ai NLN;have cQ:=Au ah ai NLN;have ex:h.heap.size < cM.heap.size:=aP.lt;clear cb bA af bB ag ah ai;obtain ⟨m0,aL,aM,aN,aO⟩:=E9 aP;have bw:=fun k=>aP.frozen k;obtain ⟨U,V,X,_⟩:=Cd bE;have Y:=fun k=>bE.frozen k;obtain ⟨b6,b7,b8,b9,ca⟩:=E9 cN;dsimp only;have cS:=Ab (show Pf ns x=if AE x.text BU 0 < 0 then ⟨7,AE x.text ns 0,⟨#[]⟩,x.names,x.kids⟩ else ⟨6,AE x.text BU 0,⟨#[]⟩,x.names,x.kids⟩ by rw[Pf,if_pos (Aa dB)]);by_cases bF:AE x.text BU 0 < 0
       ·have aQ:=Ab ((Aa cS).trans (if_pos bF));generalize AE x.text BU 0=F at bF;have aR:=(aP.set 1 (.int .i64 F)).set 0 (.int .i64 7);have ch:=(cN.setFar (p:=⟨h.heap.size,1,none⟩) cJ (.int .i64 F)).setFar (p:=⟨h.heap.size,0,none⟩) cJ (.int .i64 7);have aS:=(bE.setFar (p:=⟨h.heap.size,1,none⟩) bx (.int .i64 F)).setFar (p:=⟨h.heap.size,0,none⟩) bx (.int .i64 7);have S:=(cO.setCell (p:=⟨h.heap.size,1,none⟩) bz (.int .i64 F)).setCell (p:=⟨h.heap.size,0,none⟩) bz (.int .i64 7);have aT:=AA (AA cP ⟨h.heap.size,1,none⟩ (.int .i64 F) bC) ⟨h.heap.size,0,none⟩ (.int .i64 7) bC;have aU:=AA (AA cQ ⟨h.heap.size,1,none⟩ (.int .i64 F) bD) ⟨h.heap.size,0,none⟩ (.int .i64 7) bD;obtain ⟨cc,cd,ce,cf,cg⟩:=E9 ch;have dD:∃ aV,aV=(cM.setCell ⟨h.heap.size,1,none⟩ (.int .i64 F)).setCell ⟨h.heap.size,0,none⟩ (.int .i64 7):=⟨_,rfl⟩
        go_wp2_with fail
        obtain ⟨aV,cT⟩:=dD;rw[← cT] at aR ch aS S aT aU ⊢;clear cT m0 aL aM aN aO bw U V X Y b6 b7 b8 b9 ca cc cd ce cf cg;have ci:∀ q,q < g.heap.size→aV.heap[q]? =g.heap[q]? :=fun q hq=>((S.block q (by omega)).trans (Aa bi q (by omega) (by omega))).trans (M.block q hq);have dE:aE < g.heap.size:=Z.row.lt;have cU:aV.cell? ⟨aE,0,none⟩=some (.slice bW ns.length cv):=(World.cell?_of_block (w:=g) (ci aE dE)).trans (Z.row.cell 0);have nms:XF aV bW ns:=fun j aj=>by
         obtain ⟨cV,dF,h1,h2,h3⟩:=dn j aj;exact ⟨cV,dF,h1,by have:=S.size;omega,(World.cell?_of_block (w:=g) (ci cV h2)).trans h3⟩
        have dG:ns.length≤1048576:=by
         have h9:=(JW (Aa ap)).2.1;have h8:=Aa cu;have h7:=(Aa H).m;simp at h9;omega
        refine (JV aE bW ns.length cv ns x.text _ cU (by have:=S.size;omega) rfl dG nms).mono ?_;rintro r dH ⟨rfl,ax⟩;have bG:=aR.after ax NLN;have dI:=aS.after ax NLN;have dJ:=S.trans (ax.mono S.size);have dK:=Au aT ax NLN;have dM:=Au aU ax NLN;have ey:h.heap.size < dH.heap.size:=bG.lt;clear aR ch aS S aT aU ax ci cU nms;have ak:=aQ;generalize AE x.text ns 0=ay at ak aQ ⊢;obtain ⟨m0,aL,aM,aN,aO⟩:=E9 bG;have bw:=fun k=>bG.frozen k;have dN:=bG.set 1 (.int .i64 ay);have dO:=dI.setFar (p:=⟨h.heap.size,1,none⟩) bx (.int .i64 ay);have dP:=dJ.setCell (p:=⟨h.heap.size,1,none⟩) bz (.int .i64 ay);have dQ:=AA dK ⟨h.heap.size,1,none⟩ (.int .i64 ay) bC;have dR:=AA dM ⟨h.heap.size,1,none⟩ (.int .i64 ay) bD;go_wp2_with fail
        go_meet
        exact Ab ⟨7,ay,⟨#[]⟩,Aa ak,dN,dO,dQ,dR,dP⟩
       ·have aQ:=Ab ((Aa cS).trans (if_neg bF));have ak:=aQ;generalize AE x.text BU 0=F at bF ak aQ;have aR:=aP.set 1 (.int .i64 F);have aS:=bE.setFar (p:=⟨h.heap.size,1,none⟩) bx (.int .i64 F);have S:=cO.setCell (p:=⟨h.heap.size,1,none⟩) bz (.int .i64 F);have aT:=AA cP ⟨h.heap.size,1,none⟩ (.int .i64 F) bC;have aU:=AA cQ ⟨h.heap.size,1,none⟩ (.int .i64 F) bD;go_wp2_with fail
        go_meet
        exact Ab ⟨6,F,⟨#[]⟩,Aa ak,aR,aS,aT,aU,S⟩
      ·have e5:(x.op== 5)=false:=zB.2 h5;have dS:=Ab (show CkN av.heap.size h.heap.size (g.heap.size+1) #[.slice O k P,.slice A m cs,.slice C t.length E] ns x u l o s wr _ from ⟨x.op,x.num,x.text,by rw[Pf,if_neg h5],ae,Q,bu,bv,I⟩);clear h5;go_wp2_with fail
       go_meet
       exact dS
     case rest=>
      obtain ⟨aW,aX,aY,cW,ae,Q,bu,bv,I⟩:=Aa hcut;have ak:=Ab cW;clear cW hcut b4;generalize wc=R at ae Q bu bv I ⊢;obtain ⟨m0,aL,aM,aN,aO⟩:=E9 ae;obtain ⟨U,V,X,_⟩:=Cd Q;have Y:=fun k=>Q.frozen k;have ez:h.heap.size < R.heap.size:=ae.lt;have cX:=Au (Aa bq) I NLN;go_wp2_with (at_builtin;refine wpList_append_lies _ rfl _ _ 22 rfl z.heap.size 68 de (.agg #[.int .i64 0,.int .i64 0,.string ByteArray.empty,.slice none 0 0,.slice none 0 0]) 5 80 Tryz.underlying22 df dg dh di rfl (by decide) _ _ _ rfl (World.ownsRow.alloc cX _) ⟨R.heap.size,0,none⟩ 1 1 [.int .i64 aW,.int .i64 aX,.string aY,.slice u x.names.length l,.slice o x.kids.length s] rfl rfl ?c1 ?c2 (by decide) ?c3 ?c4 ?c5 (R.heap.size+1) (by simp) ?_)
      case c1=>exact Gw _ _ _ _ _ _ _ _ (by simp)
      case c2=>intro v cY;simp at cY;rcases cY with rfl | rfl | rfl | rfl | rfl <;> rfl
      case c3=>unfold maxLen;omega
      case c4=>omega
      case c5=>simp;omega
      intro g7 c7 bH cZ aZ hat eA;have bI:Below R.heap.size R (R.alloc (.cells #[.int .i64 aW,.int .i64 aX,.string aY,.slice u x.names.length l,.slice o x.kids.length s] 68)):=BRN.alloc NLN _;have af:=(Q.alloc (.cells #[.int .i64 aW,.int .i64 aX,.string aY,.slice u x.names.length l,.slice o x.kids.length s] 68)).grown aZ (fun e=>Ae Q cX (by decide) e.symm);obtain ⟨cy,cz,cA,_⟩:=Cd af;have cB:=fun k=>af.frozen k;have c6:=((Aa au).blocks (w':=R.alloc (.cells #[.int .i64 aW,.int .i64 aX,.string aY,.slice u x.names.length l,.slice o x.kids.length s] 68)) (fun q h1 h2=>(bI.block q (zM h2 I.size)).trans (I.block q h2)))
      have cj:=(Aa au).lts;have ag:=Au bu bI NLN;have ah:=Au bv bI NLN;have c8:=c6.snoc (x:=⟨aW,aX,aY,x.names,x.kids⟩) (u:= .slice u x.names.length l) (k:= .slice o x.kids.length s) (IQ ag (by omega)) (IQ ah (by omega)) (fun j aj q hq e=>by have h1:=(cj.2.1 j aj q hq).2;have h2:=(ag.lt q e).1;omega) (fun j aj q hq e=>by have h1:=(cj.2.2 j aj q hq).2;have h2:=(ah.lt q e).1;omega) (v':= .slice (some ⟨g7,0,none⟩) (k+1) c7) (w2:=bH) (by rw[Aa bp];have h7:=cZ;rw[← ds,← List.map_take] at h7;exact h7) aZ;have dT:=af.set 0 (.slice (some ⟨g7,0,none⟩) (k+1) c7);have c9:∀ q,q < z.heap.size→q≠g.heap.size+1→(bH.setCell ⟨g.heap.size+1,0,none⟩ (.slice (some ⟨g7,0,none⟩) (k+1) c7)).heap[q]? =z.heap[q]? :=fun q h1 h2=>by
       rw[heap_setCell_other _ _ q _ h2,aZ.block q (by have:=I.size;simp;omega) (fun e=>by have:=((Aa bq).lt q e.symm).1;omega),bI.block q (by have:=I.size;omega),I.block q (by omega)];exact Aa bi q h1 h2
      have ck:Below (g.heap.size+1) z (bH.setCell ⟨g.heap.size+1,0,none⟩ (.slice (some ⟨g7,0,none⟩) (k+1) c7)):=(((aJ.trans (I.mono (by omega))).alloc (by have:=I.size;omega) _).grown aZ (by have:=I.size;simp;omega) (fun q hq=>by have:=((Aa bq).lt q hq).1;omega)).setCell (p:=⟨g.heap.size+1,0,none⟩) NLN _;have dU:=Ab (show Bt (bH.setCell ⟨g.heap.size+1,0,none⟩ (.slice (some ⟨g7,0,none⟩) (k+1) c7)) z.heap.size (.slice (some ⟨g7,0,none⟩) (k+1) c7) ((N.take (k+1)).map (Pf ns)) (bf ++ [.slice u x.names.length l]) (bg ++ [.slice o x.kids.length s]) by
       rw[Aa cE,Aa ak];exact c8.blocks (fun q h1 h2=>heap_setCell_other _ _ q _ (by show q≠g.heap.size+1;omega)))
      have dV:=Ab c9;clear c8 c6 cj ag ah c9 aZ hat cZ;go_wp2_with fail
      go_roundw
      case rel=>exact ⟨k+1,_,_,_,Aa cF,by go_num,dT,dU,ck,dV⟩
      case measure=>have:=Aa cF;simp[intOf];omega
    ·have e:k=n:=by omega
     subst e;obtain ⟨O,P,rfl,_⟩:=Ad (Aa au).own;have bp:=Ab (show ((N.take k).map (Pf ns)).length=k by rw[zV,zb];have:=Aa aa;omega);have dW:=Ab (show N.take k=N by rw[← Aa aa,z3]);have cl:=(bX.after M NLN).below aJ (by omega);have cm:=(a9.after M NLN).below aJ (by omega);obtain ⟨dX,eB,eC,_⟩:=Cd bh;obtain ⟨U,V,X,_⟩:=Cd cl;have Y:=fun j=>cl.frozen j;obtain ⟨u0,u1⟩:=Ba cm;have bR:=fun j=>cm.frozen j;have dY:w.heap.size+1≠g.heap.size+1:=by omega
     have dZ:w.heap.size+1+1≠g.heap.size+1:=by omega
     have d0:g.heap.size+1≠w.heap.size+1:=by omega
     have d1:g.heap.size+1≠w.heap.size+1+1:=by omega
     have da:((N.take k).map (Pf ns)).length=k:=Aa bp;rw[da] at au dX bh;clear da;have eD:Below w.heap.size w wr:=b1;have d2:=((((cl.set 0 (.slice O k P)).set 1 (.slice A m cs)).set 2 (.slice C t.length E)).setFar (p:=⟨w.heap.size+1+1,0,none⟩) (by show w.heap.size+1≠w.heap.size+1+1;omega) (.int .i64 0)).setFar (p:=⟨w.heap.size+1+1,1,none⟩) (by show w.heap.size+1≠w.heap.size+1+1;omega) (.int .i64 0);have d3:=((((cm.setFar (p:=⟨w.heap.size+1,0,none⟩) (by show w.heap.size+1+1≠w.heap.size+1;omega) (.slice O k P)).setFar (p:=⟨w.heap.size+1,1,none⟩) (by show w.heap.size+1+1≠w.heap.size+1;omega) (.slice A m cs)).setFar (p:=⟨w.heap.size+1,2,none⟩) (by show w.heap.size+1+1≠w.heap.size+1;omega) (.slice C t.length E)).set 0 (.int .i64 0)).set 1 (.int .i64 0);have ck:=((((b1.setCell (p:=⟨w.heap.size+1,0,none⟩) (zJ _) (.slice O k P)).setCell (p:=⟨w.heap.size+1,1,none⟩) (zJ _) (.slice A m cs)).setCell (p:=⟨w.heap.size+1,2,none⟩) (zJ _) (.slice C t.length E)).setCell (p:=⟨w.heap.size+1+1,0,none⟩) (by show w.heap.size≤w.heap.size+1+1;omega) (.int .i64 0)).setCell (p:=⟨w.heap.size+1+1,1,none⟩) (by show w.heap.size≤w.heap.size+1+1;omega) (.int .i64 0);have kp:∀ q,w2.heap.size≤q→(((((wr.setCell ⟨w.heap.size+1,0,none⟩ (.slice O k P)).setCell ⟨w.heap.size+1,1,none⟩ (.slice A m cs)).setCell ⟨w.heap.size+1,2,none⟩ (.slice C t.length E)).setCell ⟨w.heap.size+1+1,0,none⟩ (.int .i64 0)).setCell ⟨w.heap.size+1+1,1,none⟩ (.int .i64 0)).heap[q]? =wr.heap[q]? :=fun q h1=>by
      have a1:q≠w.heap.size+1:=by omega
      have a2:q≠w.heap.size+1+1:=by omega
      rw[heap_setCell_other _ _ q _ a2,heap_setCell_other _ _ q _ a2,heap_setCell_other _ _ q _ a1,heap_setCell_other _ _ q _ a1,heap_setCell_other _ _ q _ a1]
     have a8:=Aa cu;have d4:=Ab (show ∀ y∈N.map (Pf ns),okN y∧y.text.size≤1048576 from fun y hy=>by
      obtain ⟨x,hx,rfl⟩:=zQ.1 hy;exact okM ((Aa H).fields x hx) ((Aa bP).sizes x hx))
     have bJ:wr.ownsRow (g.heap.size+1+1) 60 4 (.slice A m cs) m (Cy L):=At bc (fun q hq=>Aa bi q (bc.lt q hq).2 (by have:=(bc.lt q hq).1;omega));have cn:=Au Z.types M NLN;have bK:wr.ownsRow B 3 1 (.slice C t.length E) t.length (Ar t):=At cn (fun q hq=>Aa bi q (cn.lt q hq).2 (by have:=(Z.types.lt q hq).2;omega));have eE:w2.heap.size≤B:=by have:=Z.low;omega
     have d5:t.length≤1048576:=by
      have h9:=(JW (Aa ap)).1;rw[Gt (Aa T) (Aa a6) (Aa a7)] at h9;have h8:=(Aa H).n;simp at h9;omega
     have d6:=Ab (show ∀ W:World,KpW w2.heap.size wr W→GQ W O k P (N.map (Pf ns))∧KN W A m cs L∧BT W C t.length E t from fun W hk=>by
      have db:=(Aa au).blocks (w':=W) (fun q h1 h2=>hk q (by omega) h2);rw[Aa dW] at db;exact ⟨db.nds (by rw[zV];exact Aa aa) (by omega) (Aa d4),Ih (At bJ (fun q hq=>hk q (by have:=(bJ.lt q hq).1;omega) (bJ.lt q hq).2)) (Aa bN) (by omega) (Aa cp).sizes,Ej (At bK (fun q hq=>hk q (by have:=(bK.lt q hq).1;omega) (bK.lt q hq).2)) rfl d5⟩)
     have d7:=Ab kp;have d8:=Ab (show N.map (Pf ns)=N.map (Pk (Ep ns ts)) from List.map_congr_left fun x hx=>Ac9 a8 ((Aa H).fields x hx) (fun h5=>by obtain ⟨j,aj,d9⟩:=Z1 hx;exact Vp (Aa T) (Aa a6) (Aa a7) (Aa ap) (j:=j) (by rw[zH aj,d9]) h5));clear kp bJ bK cn;go_wp2_with fail
     obtain ⟨aB,e1,e2,_⟩:=Cd d2;obtain ⟨g0,g1⟩:=Ba d3;exact bodyPost_ret (v:= .tuple #[.agg #[.slice O k P,.slice A m cs,.slice C t.length E],.agg #[.int .i64 0,.int .i64 0]]) (by simp[results,Tryz.results11,go_sem,aB,e1,e2,g0,g1]) rfl ⟨⟨.ok (N.map (Pk (Ep ns ts)),L,t),.inr ⟨Aa T,Es,Aa a6,Aa a7,by rw[Aa ap]⟩,.inr ⟨_,_,_,_,_,_,_,_,_,_,_,_,rfl,rfl,fun W ea=>by rw[← Aa d8];exact Aa d6 W fun q h1 h2=>(ea q (by omega) (by simpa using h2)).trans (Aa d7 q h1)⟩⟩,ck⟩
  ·have ap:=Ab aF;clear aF bV;have bX:=ao.after J NLN;have a9:=ac.after J NLN;have K:=az.trans (J.mono az.size);have bL:=bX.alloc (.cells #[.int .i64 f.1,.int .i64 f.2] 28);have bM:=a9.alloc (.cells #[.int .i64 f.1,.int .i64 f.2] 28);have ad:=Al.new g #[.int .i64 f.1,.int .i64 f.2] 28;have dc:=K.alloc K.size (.cells #[.int .i64 f.1,.int .i64 f.2] 28);have eF:(f.1 != 0)=true:=zS.2 hf;have dp:w.heap.size+1+1 < g.heap.size:=a9.lt;have bZ:∃ aq,aq=g.alloc (.cells #[.int .i64 f.1,.int .i64 f.2] 28):=⟨_,rfl⟩
   obtain ⟨eb,ec⟩:=Ba ad;obtain ⟨U,V,X,_⟩:=Cd bL;have Y:=fun k=>bL.frozen k;obtain ⟨u0,u1⟩:=Ba bM;have bR:=fun k=>bM.frozen k;dsimp only;obtain ⟨aq,ar⟩:=bZ;go_wp2_with fail
   rw[← ar] at bL bM ad dc eb ec U V X Y u0 u1 bR ⊢;clear ar;have dY:w.heap.size+1≠g.heap.size:=by omega
   have dZ:w.heap.size+1+1≠g.heap.size:=by omega
   have d0:g.heap.size≠w.heap.size+1:=by omega
   have d1:g.heap.size≠w.heap.size+1+1:=by omega
   go_region
   all_goals
    have bS:=((((bL.set 0 (.slice none 0 0)).set 1 (.slice none 0 0)).set 2 (.slice none 0 0)).setFar (p:=⟨w.heap.size+1+1,0,none⟩) (by show w.heap.size+1≠w.heap.size+1+1;omega) (.int .i64 f.1)).setFar (p:=⟨w.heap.size+1+1,1,none⟩) (by show w.heap.size+1≠w.heap.size+1+1;omega) (.int .i64 f.2);have bT:=((((bM.setFar (p:=⟨w.heap.size+1,0,none⟩) (by show w.heap.size+1+1≠w.heap.size+1;omega) (.slice none 0 0)).setFar (p:=⟨w.heap.size+1,1,none⟩) (by show w.heap.size+1+1≠w.heap.size+1;omega) (.slice none 0 0)).setFar (p:=⟨w.heap.size+1,2,none⟩) (by show w.heap.size+1+1≠w.heap.size+1;omega) (.slice none 0 0)).set 0 (.int .i64 f.1)).set 1 (.int .i64 f.2);have bU:=(((((dc.setCell (p:=⟨w.heap.size+1,0,none⟩) (zJ _) (.slice none 0 0)).setCell (p:=⟨w.heap.size+1,1,none⟩) (zJ _) (.slice none 0 0)).setCell (p:=⟨w.heap.size+1,2,none⟩) (zJ _) (.slice none 0 0)).setCell (p:=⟨w.heap.size+1+1,0,none⟩) (by show w.heap.size≤w.heap.size+1+1;omega) (.int .i64 f.1)).setCell (p:=⟨w.heap.size+1+1,1,none⟩) (by show w.heap.size≤w.heap.size+1+1;omega) (.int .i64 f.2)).drew;go_wp2_with fail
    obtain ⟨aB,e1,e2,_⟩:=Cd bS;obtain ⟨g0,g1⟩:=Ba bT;exact bodyPost_ret (v:= .tuple #[.agg #[.slice none 0 0,.slice none 0 0,.slice none 0 0],.agg #[.int .i64 f.1,.int .i64 f.2]]) (by simp[results,Tryz.results11,go_sem,aB,e1,e2,g0,g1]) rfl ⟨⟨.error f,.inr ⟨Aa T,Es,Aa a6,Aa a7,by rw[Aa ap]⟩,.inl ⟨f,rfl,rfl⟩⟩,bU⟩
set_option maxHeartbeats 800000
theorem Ti (c a:Int)(w:World):
  Calls Tryz.prog 7 #[.agg #[.int .i64 c,.int .i64 a],.agg #[.int .i64 c,.int .i64 a]] w fun e w'=>e= .returned (.bool true)∧Below w.heap.size w w':=by
 have b:=((Below.refl w.heap.size w).alloc NLN (.cells #[.int .i64 c,.int .i64 a] 28)).alloc (by simp) (.cells #[.int .i64 c,.int .i64 a] 28);go_enter Tryz.func7,Tryz.ntmps7
 go_wp2
 go_ret
 exact ⟨rfl,b⟩
def DI:UP→(List Nd × List St × List Int) × (Int × Int)
 | .ok t=>(t,(0,0))
 | .error f=>(([], [], []),f)
theorem okX {D:List Dc}{x:Nd}(h:As x=true)(ht:x.text.size≤1048576):okN (Pk D x)∧(Pk D x).text.size≤1048576∧(Pk D x).names.length+(Pk D x).kids.length≤65535:=by
 have h1:=okM (ns:= []) h ht;have b:x.names.length≤64:=by
  have h2:=h;rw[As,zI] at h2;have h2:=h2.2
  repeat' split at h2
  all_goals
   first
    |cases h2;done
    |(simp only[zI,zG] at h2;first | omega | (have:=(FZ h2.1.1).1;omega))
 have hk:x.kids.length≤3:=by
  have h2:=h;rw[As,zI,zG] at h2;have h2:=h2.1;unfold Dn at h2
  repeat' split at h2
  all_goals omega
 unfold Pk;split
 ·cases De D x.text with
  |none=>exact ⟨⟨zF _,zF _,fun s hs=>by cases hs⟩,zF _,zF _⟩
  |some d=>exact ⟨⟨zF _,zF _,fun s hs=>by cases hs⟩,zF _,zF _⟩
 ·rename_i a;rw[Pf,if_neg a] at h1;exact ⟨h1.1,h1.2,by omega⟩
theorem Ada {w:World}{a b:Option Addr}{n c m d:Nat}{N:List Nd}{L:List St}{q:UP}(h1:GQ w a n c N)(h2:KN w b m d L)(h:Jy N L q):okT (DI q).1.1 (DI q).1.2.1 (DI q).1.2.2:=by
 have g:okT [] [] []:=⟨⟨by simp,fun x hx=>(by cases hx)⟩,⟨by simp,fun s hs=>(by cases hs)⟩,by simp⟩
 rcases h with ⟨_,rfl⟩ | ⟨i,Es,k,l,rfl⟩
 ·exact g
 ·cases hs:DE Es (Dj, [], []) L with
  |error f=>exact g
  |ok st=>
   have W:=Fv i;have j:=(JW hs).1;rw[Gt i k l] at j;have p:=W.n;have r:=W.m;refine ⟨⟨by simp[DI];omega,fun y hy=>?_⟩,⟨by simp[DI];omega,fun s o=>h2.sizes s o⟩,by simp[DI] at j ⊢;omega⟩;obtain ⟨x,hx,rfl⟩:=zQ.1 hy;exact okX (W.fields x hx) (h1.sizes x hx)
theorem XT (w:World)(lo:Nat):Ee w lo 0 none 0 0 none 0 0 none 0 0 [] [] [] [] []:=
 ⟨Bt.nil w lo,World.ownsRow_nil _ _ _ _,World.ownsRow_nil _ _ _ _,fun q hq=>(by cases hq),⟨fun q hq=>(by cases hq),fun j a=>absurd a (by simp),fun j a=>absurd a (by simp)⟩,fun q hq=>(by cases hq),fun q hq=>(by cases hq),zF _,rfl,rfl,rfl⟩
def TyM (w:World) (x:Option Addr) (n cx:Nat) (y:Option Addr) (m cy:Nat) (z:Option Addr) (p cz:Nat) (t:List Nd × List St × List Int):Prop:=GQ w x n cx t.1∧KN w y m cy t.2.1∧BT w z p cz t.2.2
theorem TyM.below {w w':World}{x y b:Option Addr}{n c m d p f:Nat}{t:List Nd × List St × List Int}(h:TyM w x n c y m d b p f t)(a:Below w.heap.size w w'):TyM w' x n c y m d b p f t:=
 ⟨h.1.below a NLN,h.2.1.below a NLN,h.2.2.below a NLN⟩
theorem Aef {w:World}{x y d f g i:Option Addr}{n j m l p o a q b r c s:Nat}{t:List Nd × List St × List Int}(h:TyM w x n j y m l d p o t)(k:TyM w f a q g b r i c s t):
  Calls Tryz.prog 6 #[.agg #[.slice x n j,.slice y m l,.slice d p o],.agg #[.slice f a q,.slice g b r,.slice i c s]] w fun e w'=>e= .returned (.bool true)∧Below w.heap.size w w':=by
 obtain rfl:n=a:=h.1.len.symm.trans k.1.len;obtain rfl:m=b:=h.2.1.len.symm.trans k.2.1.len;obtain rfl:p=c:=h.2.2.len.symm.trans k.2.2.len;exact QY _ _ _ _ _ _ _ _ _ _ _ _ _ _ _ t.1 t.2.1 t.2.2 w h.1 k.1 h.2.1 k.2.1 h.2.2 k.2.2
theorem IR {w w':World}{b lo hi:Nat}{cs:Array Value}{t:TypeId}(h:Al w b cs t)(T:Aj lo hi w w')(hd:b < lo∨hi≤b):Al w' b cs t:=⟨(T.block b h.lt hd).trans h.out⟩
theorem Ex.pos_pl (e:Ex):e.pos∈DG e:=by cases e <;> simp[DG,Ex.pos]
theorem Iz (D:List Dc):∀ (e:Ex) (f:Int × Int),Bc D e= .error f→f.2∈DG e
 | .int ..,_,h=>by cases h
 | .text ..,_,h=>by cases h
 | .bool ..,_,h=>by cases h
 | .set ..,_,h=>by cases h
 | .name i s,_,h=>by rw[CU h];simp[DG]
 | .attr ..,_,h=>by cases h;simp[DG]
 | .lett ..,_,h=>by cases h;simp[DG]
 | .un i op k,f,h=>by
  rw[Bc] at h;cases h1:Bc D k with
  |error g=>rw[h1] at h;cases h;exact zl _ (Iz D k _ h1)
  |ok a=>rw[h1] at h;rw[CU (show QJ (9,i) _= .error f from h)];simp[DG]
 | .bin i op k l,f,h=>by
  rw[Bc] at h;cases h1:Bc D k with
  |error g=>rw[h1] at h;cases h;have:=Iz D k _ h1;simp[DG,this]
  |ok a=>
   cases h2:Bc D l with
   |error g=>rw[h1,h2] at h;cases h;have:=Iz D l _ h2;simp[DG,this]
   |ok b=>rw[h1,h2] at h;rw[CU (show QJ (9,i) _= .error f from h)];simp[DG]
 | .ite i k l m,f,h=>by
  rw[Bc] at h;cases h1:Bc D k with
  |error g=>rw[h1] at h;cases h;have:=Iz D k _ h1;simp[DG,this]
  |ok a=>
   cases h2:Bc D l with
   |error g=>rw[h1,h2] at h;cases h;have:=Iz D l _ h2;simp[DG,this]
   |ok b=>
    cases h3:Bc D m with
    |error g=>rw[h1,h2,h3] at h;cases h;have:=Iz D m _ h3;simp[DG,this]
    |ok c=>rw[h1,h2,h3] at h;rw[CU (show QJ (9,i) _= .error f from h)];simp[DG]
theorem Ds.pl {N:List Nd}{j:Nat}{e:Ex}(h:Ds N j e):∀ p∈DG e,0≤p∧p < N.length:=by
 have d:=h.lt
 induction h with
 |un h _ _ _ t a=>intro p hp;simp[DG] at hp;rcases hp with q | q <;> first | exact a t.lt p q | omega
 |bin h _ _ _ t u a b=>intro p hp;simp[DG] at hp;rcases hp with q | q | q <;> first | exact a t.lt p q | exact b u.lt p q | omega
 |ite h _ _ _ t u v a b c=>intro p hp;simp[DG] at hp;rcases hp with q | q | q | q <;> first | exact a t.lt p q | exact b u.lt p q | exact c v.lt p q | omega
 |_=>intro p hp;simp[DG] at hp;omega
theorem TS {Es:List Ex}{k:Int}{e:Ex}(h:Cn Es k=some e):e∈Es:=by
 unfold Cn at h;split at h
 ·cases h
 ·exact z5 h
theorem AaP {st:Cs}{x:Sx}{f:Int × Int}(h:E8 st x= .error f):∃ e,x.cond=some e∧f.2∈DG e:=by
 obtain ⟨j,b,nm,a,c⟩:=x;cases a with
 |none=>cases h
 |some e=>
  refine ⟨e,rfl, ?_⟩;simp only[E8,DH] at h;cases ht:Bc st.1 e with
  |error g=>rw[ht] at h;simp only[Nl,Ed,ite_self] at h;cases h;exact Iz _ _ _ ht
  |ok t=>rw[ht] at h;simp only[Nl,Ed] at h;(repeat' split at h) <;> first | (cases h;exact e.pos_pl) | cases h
theorem Yr {st:Cs}{x:Sx}{f:Int × Int}(h:DA st x= .error f):∃ e,x.grant=some e∧f.2∈DG e:=by
 obtain ⟨j,b,nm,c,a⟩:=x;cases a with
 |none=>cases h
 |some e=>
  refine ⟨e,rfl, ?_⟩;simp only[DA] at h;cases ht:Bc st.1 e with
  |error g=>rw[ht] at h;cases h;exact Iz _ _ _ ht
  |ok t=>rw[ht,H9] at h;split at h <;> first | (cases h;exact e.pos_pl) | cases h
theorem Xc {Es:List Ex} :∀ (L:List St) (st:Cs) (f:Int × Int),DE Es st L= .error f→∃ e∈Es,f.2∈DG e
 | [],st,f,h=>by cases h
 |s ::L,st,f,h=>by
  rw[DE,Eg] at h;cases h1:FY Es st s with
  |error g=>rw[h1] at h;cases h;obtain ⟨e,he,hf⟩:=AaP h1;exact ⟨e,TS he,hf⟩
  |ok a=>
   rw[h1] at h;cases h2:DC Es a s with
   |error g=>simp only[Except.bind,h2] at h;cases h;obtain ⟨e,he,hf⟩:=Yr h2;exact ⟨e,TS he,hf⟩
   |ok b=>simp only[Except.bind,h2] at h;exact Xc L b f h
theorem Jy.at_ {N:List Nd}{L:List St}{f:Int × Int}(h:Jy N L (.error f))(b:Bo N L=true): 0≤f.2∧f.2 < N.length:=by
 rcases h with ⟨h,_⟩ | ⟨_,Es,i,c,hf⟩
 ·rw[b] at h;cases h
 ·cases a:DE Es (Dj, [], []) L with
  |ok st=>rw[a] at hf;cases hf
  |error g=>
   rw[a] at hf;cases hf;obtain ⟨e,he,hp⟩:=Xc L _ _ a;obtain ⟨j,d,rfl⟩:=Z1 he;exact (c j d).pl _ hp
theorem Jy.code {N:List Nd}{L:List St}{f:Int × Int}(h:Jy N L (.error f)):f.1≠0:=by
 rcases h with ⟨_,h⟩ | ⟨_,Es,b,c,hf⟩
 ·cases h;decide
 ·cases a:DE Es (Dj, [], []) L with
  |ok st=>rw[a] at hf;cases hf
  |error g=>rw[a] at hf;cases hf;rw[← ML Es L 0] at a;have:=KY a;omega
def ldQ (P:List Int):UP→UP
 | .ok t=> .ok t
 | .error f=> .error (f.1,P.getD f.2.toNat 0)
def Yp (R:List Nd × List St × List Int × Int × Int) (q:UP):Prop:=
 (R.2.2.2.1≠0∧q= .error (R.2.2.2.1,R.2.2.2.2))∨(R.2.2.2.1=0∧∃ q0,Jy R.1 R.2.1 q0∧q=ldQ R.2.2.1 q0)
theorem Yp.one {R:List Nd × List St × List Int × Int × Int}{q r:UP}(h:Yp R q)(k:Yp R r):q=r:=by
 rcases h with ⟨h1,rfl⟩ | ⟨h1,c,h2,rfl⟩ <;> rcases k with ⟨a,rfl⟩ | ⟨a,d,b,rfl⟩
 ·rfl
 ·exact absurd a h1
 ·exact absurd h1 a
 ·rw[h2.one b]
theorem Ady (t:ByteArray)(x:QR)(h:(Ik t x).2.2.2.1=0):(Ik t x).2.2.1.length=(Ik t x).1.length:=by
 unfold Ik at h ⊢
 (repeat' split) <;> first | rfl | (simp only[Do,GB])
def TyG (b:Bool) (W:World) (lo:Nat) (x:Option Addr) (n cx:Nat) (y:Option Addr) (m cy:Nat) (z:Option Addr) (p cz:Nat) (t:List Nd × List St × List Int):Prop:=if b then ∃ nv kv hi,Ee W lo hi x n cx y m cy z p cz t.1 nv kv t.2.1 t.2.2 else TyM W x n cx y m cy z p cz t
theorem TyG.nil (b:Bool)(W:World)(lo:Nat):TyG b W lo none 0 0 none 0 0 none 0 0 ([], [], []):=by
 cases b
 ·exact ⟨⟨rfl,by decide,fun x hx=>(by cases hx),fun j a=>absurd a (by simp)⟩,⟨rfl,by decide,fun x hx=>(by cases hx),fun j a=>absurd a (by simp)⟩,VN W⟩
 ·exact ⟨[], [],0,XT W lo⟩
theorem TyG.low {b:Bool}{W:World}{lo c:Nat}{x:Option Addr}{n d:Nat}{y:Option Addr}{m f:Nat}{g:Option Addr}{p i:Nat}{t:List Nd × List St × List Int}(h:TyG b W lo x n d y m f g p i t)(a:c≤lo):TyG b W c x n d y m f g p i t:=by
 cases b
 ·exact h
 ·obtain ⟨j,k,hi,h⟩:=h;exact ⟨j,k,hi,⟨h.nd.low a,CA h.st a,CA h.ty a,h.apart,h.inN,h.inS,h.inT,h.top,h.nn,h.ns,h.nt⟩⟩
def CkB (b:Bool) (q:UP) (w:World) (r:Ending) (w':World):Prop:=(∃ x n cx y m cy z p cz,r= .returned (.tuple #[.agg #[.slice x n cx,.slice y m cy,.slice z p cz],.agg #[.int .i64 (DI q).2.1,.int .i64 (DI q).2.2]])∧∀ W:World,w'.heap.size≤W.heap.size→KpW w.heap.size w' W→TyG b W w.heap.size x n cx y m cy z p cz (DI q).1)∧Below w.heap.size w w'
theorem Ee.kp {w w':World}{lo hi n a m b p c:Nat}{x y d:Option Addr}{N:List Nd}{f g:List Value}{L:List St}{T:List Int}(h:Ee w lo hi x n a y m b d p c N f g L T)(hk:KpW lo w w')(hs:w.heap.size≤w'.heap.size):Ee w' lo hi x n a y m b d p c N f g L T:=
 ⟨h.nd.blocks hk,Ac h.st (fun q hq=>hk q (h.st.lt q hq).1 (h.st.lt q hq).2),Ac h.ty (fun q hq=>hk q (h.ty.lt q hq).1 (h.ty.lt q hq).2),h.apart,h.inN,h.inS,h.inT,zD h.top hs,h.nn,h.ns,h.nt⟩
theorem AeU (a b:Option Addr)(n c m d:Nat)(N:List Nd)(L:List St)(w:World)(h1:GQ w a n c N)(h2:KN w b m d L)(h:∀ x∈N,x.num≤9223372036854775807):
  Calls Tryz.prog 11 #[.agg #[.slice a n c,.slice b m d]] w fun r w'=>∃ q,Jy N L q∧CkB false q w r w':=by
 refine (Vn _ _ _ _ _ _ N L w h1 h2 h).mono ?_;rintro r w' ⟨⟨q,hq,i⟩,j⟩;refine ⟨q,hq, ?_,j⟩;rcases i with ⟨f,rfl,rfl⟩ | ⟨l,o,s,x,t,u,y,v,z,A,p,B,rfl,rfl,g⟩
 ·exact ⟨none,0,0,none,0,0,none,0,0,rfl,fun W _ _=>TyG.nil false W _⟩
 ·exact ⟨_,_,_,_,_,_,_,_,_,rfl,fun W _ k=>g W k⟩
theorem AeV (a b:Option Addr)(n c m d:Nat)(N:List Nd)(L:List St)(i a1 a2 a3 a4 a5 j l o h:Addr)(w:World)(h1:GQ w a n c N)(h2:KN w b m d L)(t:Jl w)(u:KM w h)(v:Y6 w i a1 a2 a3 a4 a5 j l o h)(z:∀ x∈N,x.num≤9223372036854775807):
  Calls Tryz.prog 13 #[.agg #[.slice a n c,.slice b m d]] w fun r w'=>∃ q,Jy N L q∧CkB true q w r w':=by
 refine (Vf _ _ _ _ _ _ N L i a1 a2 a3 a4 a5 j l o h w h1 h2 t u v z).mono ?_;rintro r w' ⟨⟨q,hq,A⟩,B⟩;refine ⟨q,hq.cn, ?_,B⟩;rcases A with ⟨f,rfl,rfl⟩ | ⟨F,H,I,x,J,K,y,M,O,P,p,Q,C,E,hi,rfl,rfl,g⟩
 ·exact ⟨none,0,0,none,0,0,none,0,0,rfl,fun W _ _=>TyG.nil true W _⟩
 ·exact ⟨_,_,_,_,_,_,_,_,_,rfl,fun W s k=>⟨C,E,hi,g.kp k s⟩⟩
abbrev pt5 (W:World) (b b':Nat) (x0 x1 x2 g0 g1:Value):World:=((((W.setCell ⟨b,0,none⟩ x0).setCell ⟨b,1,none⟩ x1).setCell ⟨b,2,none⟩ x2).setCell ⟨b',0,none⟩ g0).setCell ⟨b',1,none⟩ g1
theorem Adw {W:World}{b a:Nat}{c d f x0 x1 x2 g i g0 g1:Value}(R:Al W b #[c,d,f] 26)(F:Al W a #[g,i] 28)(h:b≠a):Al (pt5 W b a x0 x1 x2 g0 g1) b #[x0,x1,x2] 26∧Al (pt5 W b a x0 x1 x2 g0 g1) a #[g0,g1] 28:=
 ⟨((((R.set 0 x0).set 1 x1).set 2 x2).setFar (p:=⟨a,0,none⟩) h g0).setFar (p:=⟨a,1,none⟩) h g1,((((F.setFar (p:=⟨b,0,none⟩) h.symm x0).setFar (p:=⟨b,1,none⟩) h.symm x1).setFar (p:=⟨b,2,none⟩) h.symm x2).set 0 g0).set 1 g1⟩
theorem Adx {W:World}{B b a:Nat}{x0 x1 x2 g0 g1:Value}(h:b < B)(c:a < B):(pt5 W b a x0 x1 x2 g0 g1).heap.size=W.heap.size∧KpW B W (pt5 W b a x0 x1 x2 g0 g1):=
 ⟨by simp[pt5],fun q hq _=>by unfold pt5;rw[heap_setCell_other _ _ q _ (by show q≠a;omega),heap_setCell_other _ _ q _ (by show q≠a;omega),heap_setCell_other _ _ q _ (by show q≠b;omega),heap_setCell_other _ _ q _ (by show q≠b;omega),heap_setCell_other _ _ q _ (by show q≠b;omega)]⟩
theorem Acc {w W:World}{B b a:Nat}{x0 x1 x2 g0 g1:Value}(D:Below B w W)(h:B≤b)(c:B≤a):Below B w (pt5 W b a x0 x1 x2 g0 g1):=
 ((((D.setCell (p:=⟨b,0,none⟩) h x0).setCell (p:=⟨b,1,none⟩) h x1).setCell (p:=⟨b,2,none⟩) h x2).setCell (p:=⟨a,0,none⟩) c g0).setCell (p:=⟨a,1,none⟩) c g1
set_option maxHeartbeats 6400000
def LdA (b:Bool) (R:List Nd × List St × List Int × Int × Int) (w:World) (r:Ending) (w':World):Prop:=∃ q,Yp R q∧okT (DI q).1.1 (DI q).1.2.1 (DI q).1.2.2∧CkB b q w r w'
theorem Xb {r:Func}{b:Bool}{R:List Nd × List St × List Int × Int × Int}{q:UP}{w W:World}{s:Array Value}{x:Option Addr}{n a:Nat}{y:Option Addr}{m c:Nat}{d:Option Addr}{p f:Nat}{v z A E F:Value}{C g:Int}{lo:Nat}{h:World}(H:Al W w.heap.size #[v,z,A] 26)(I:Al W (w.heap.size+1) #[E,F] 28)(D:Below w.heap.size w W)(J:w.heap.size+1 < lo)(h1:Yp R q)(h2:okT (DI q).1.1 (DI q).1.2.1 (DI q).1.2.2)(h3:∀ V:World,W.heap.size≤V.heap.size→KpW lo W V→TyG b V lo x n a y m c d p f (DI q).1)(K:(DI q).2=(C,g))(t:h=pt5 W w.heap.size (w.heap.size+1) (.slice x n a) (.slice y m c) (.slice d p f) (.int .i64 C) (.int .i64 g)∨h=(pt5 W w.heap.size (w.heap.size+1) (.slice x n a) (.slice y m c) (.slice d p f) (.int .i64 C) (.int .i64 g)).drew)
  (L:∀ V:World,V.cell? ⟨w.heap.size,0,none⟩=some (.slice x n a)→V.cell? ⟨w.heap.size,1,none⟩=some (.slice y m c)→V.cell? ⟨w.heap.size,2,none⟩=some (.slice d p f)→V.cell? ⟨w.heap.size+1,0,none⟩=some (.int .i64 C)→V.cell? ⟨w.heap.size+1,1,none⟩=some (.int .i64 g)→(results r s).run Tryz.prog V= .ok (.tuple #[.agg #[.slice x n a,.slice y m c,.slice d p f],.agg #[.int .i64 C,.int .i64 g]]) V):
  bodyPost Tryz.prog r (LdA b R w) Exit.ret { tmps:=s,defers:= [] } h:=by
 obtain ⟨i,j⟩:=Adw (x0:= .slice x n a) (x1:= .slice y m c) (x2:= .slice d p f) (g0:= .int .i64 C) (g1:= .int .i64 g) H I (by omega);obtain ⟨l,u⟩:=Adx (W:=W) (B:=lo) (x0:= .slice x n a) (x1:= .slice y m c) (x2:= .slice d p f) (g0:= .int .i64 C) (g1:= .int .i64 g) (show w.heap.size < lo by omega) J;have o:=Acc (x0:= .slice x n a) (x1:= .slice y m c) (x2:= .slice d p f) (g0:= .int .i64 C) (g1:= .int .i64 g) D (Nat.le_refl w.heap.size) (zJ w.heap.size);generalize pt5 W w.heap.size (w.heap.size+1) (.slice x n a) (.slice y m c) (.slice d p f) (.int .i64 C) (.int .i64 g)=V at i j l u o t;have e:h.heap=V.heap∧Below w.heap.size w h:=by
  rcases t with rfl | rfl
  ·exact ⟨rfl,o⟩
  ·exact ⟨rfl,o.drew⟩
 obtain ⟨e,M⟩:=e;replace i:Al h _ _ _:=⟨by rw[e];exact i.out⟩
 replace j:Al h _ _ _:=⟨by rw[e];exact j.out⟩
 refine bodyPost_ret (L h (i.cell 0) (i.cell 1) (i.cell 2) (j.cell 0) (j.cell 1)) rfl ⟨q,h1,h2,⟨x,n,a,y,m,c,d,p,f,by rw[K],fun X N O=>(h3 X (by rw[← l,← e];exact N) fun k e1 e2=>(O k (by omega) (by rw[e,l];exact e2)).trans (by rw[e];exact u k e1 e2)).low (by omega)⟩,M⟩
structure LdV (w w1:World) (lo:Nat) (w3:World) (t0 t1 t2:Value) (c a:Int) (V:World):Prop where
 T:Al V w3.heap.size #[t0,t1,t2] 26
 G:Al V (w1.heap.size+1) #[.int .i64 c,.int .i64 a] 28
 R:Al V w.heap.size #[.slice none 0 0,.slice none 0 0,.slice none 0 0] 26
 F:Al V (w.heap.size+1) #[.int .i64 0,.int .i64 0] 28
 low:Below w.heap.size w V
 low1:Below w1.heap.size w1 V
 kp:KpW lo w3 V
 sz:w3.heap.size≤V.heap.size
theorem LdV.set {w b d V:World}{lo:Nat}{g i j:Value}{c a:Int}(h:LdV w b lo d g i j c a V)(h1:w.heap.size+1 < b.heap.size)(h2:b.heap.size+1 < lo)(h3:lo≤d.heap.size)(f:Int):LdV w b lo d g i j c f (V.setCell ⟨b.heap.size+1,1,none⟩ (.int .i64 f)):=
 ⟨h.T.setFar (p:=⟨b.heap.size+1,1,none⟩) (by show d.heap.size≠b.heap.size+1;omega) _,h.G.set 1 (.int .i64 f),h.R.setFar (p:=⟨b.heap.size+1,1,none⟩) (by show w.heap.size≠b.heap.size+1;omega) _,h.F.setFar (p:=⟨b.heap.size+1,1,none⟩) (by show w.heap.size+1≠b.heap.size+1;omega) _,h.low.setCell (p:=⟨b.heap.size+1,1,none⟩) (by show w.heap.size≤b.heap.size+1;omega) _,h.low1.setCell (p:=⟨b.heap.size+1,1,none⟩) (by show b.heap.size≤b.heap.size+1;omega) _,fun q e1 e2=>(heap_setCell_other _ _ q _ (by show q≠b.heap.size+1;omega)).trans (h.kp q e1 e2),by simpa using h.sz⟩
theorem AcR {P:World→Prop}{w b d:World}{lo:Nat}{g i j:Value}{c a c0 k:Int}(R:Al d w.heap.size #[.slice none 0 0,.slice none 0 0,.slice none 0 0] 26)(F:Al d (w.heap.size+1) #[.int .i64 0,.int .i64 0] 28)(G:Al d (b.heap.size+1) #[.int .i64 c0,.int .i64 k] 28)(D:Below w.heap.size w d)(l:Below b.heap.size b d)(h1:w.heap.size+1 < b.heap.size)(h2:b.heap.size+1 < lo)(h3:lo≤d.heap.size)(h:∀ V,LdV w b lo d g i j c a V→P V):P (((d.alloc (.cells #[g,i,j] 26)).setCell ⟨b.heap.size+1,0,none⟩ (.int .i64 c)).setCell ⟨b.heap.size+1,1,none⟩ (.int .i64 a)):=by
 have f:=(Below.refl d.heap.size d).alloc NLN (.cells #[g,i,j] 26);have K:LdV w b lo d g i j c0 k (d.alloc (.cells #[g,i,j] 26)):=⟨Al.new _ _ _,G.after f NLN,R.after f NLN,F.after f NLN,D.trans (f.mono D.size),l.trans (f.mono l.size),fun q _ e=>f.block q e,f.size⟩
 refine h _ (LdV.set (a:=k) ?_ h1 h2 h3 a);exact ⟨K.T.setFar (p:=⟨b.heap.size+1,0,none⟩) (by show d.heap.size≠b.heap.size+1;omega) _,K.G.set 0 (.int .i64 c),K.R.setFar (p:=⟨b.heap.size+1,0,none⟩) (by show w.heap.size≠b.heap.size+1;omega) _,K.F.setFar (p:=⟨b.heap.size+1,0,none⟩) (by show w.heap.size+1≠b.heap.size+1;omega) _,K.low.setCell (p:=⟨b.heap.size+1,0,none⟩) (by show w.heap.size≤b.heap.size+1;omega) _,K.low1.setCell (p:=⟨b.heap.size+1,0,none⟩) (by show b.heap.size≤b.heap.size+1;omega) _,fun q e1 e2=>(heap_setCell_other _ _ q _ (by show q≠b.heap.size+1;omega)).trans (K.kp q e1 e2),by simp⟩
theorem TR (b:Bool)(t:ByteArray)(x:QR)(d:DP (AI t).toks x)(w:World)
  (U:Hid (∀ W,Below w.heap.size w W→Calls Tryz.prog (cond b 12 10) #[.string t] W (UQ (Ik t x) W)))
  (ao:Hid (∀ W a n c aD m d N L,Below w.heap.size w W→GQ W a n c N→KN W aD m d L→(∀ x∈N,x.num≤9223372036854775807)→Calls Tryz.prog (cond b 13 11) #[.agg #[.slice a n c,.slice aD m d]] W fun r w'=>∃ q,Jy N L q∧CkB b q W r w')):
  Calls Tryz.prog (cond b 5 4) #[.string t] w (LdA b (Ik t x) w):=by
 have aE:=Ab (Ym t x d);have ap:=Ab (ZN d);have aq:=Ab (Ady t x);generalize Ik t x=R at aE ap aq U ⊢;obtain ⟨N,L,P,C,aF⟩:=R;have X:=((Below.refl w.heap.size w).alloc NLN (.cells #[.slice none 0 0,.slice none 0 0,.slice none 0 0] 26)).alloc (by simp) (.cells #[.int .i64 0,.int .i64 0] 28);have aG:=(Al.new w #[.slice none 0 0,.slice none 0 0,.slice none 0 0] 26).alloc (.cells #[.int .i64 0,.int .i64 0] 28);have ar:=Al.new (w.alloc (.cells #[.slice none 0 0,.slice none 0 0,.slice none 0 0] 26)) #[.int .i64 0,.int .i64 0] 28;simp only[World.size_alloc] at ar;cases b
 case' false=>have aH:=trivial
 case' true=>have aI:=trivial
 all_goals
  simp only[cond_true,cond_false] at U ao ⊢
  first
   |go_enter Tryz.func4,Tryz.ntmps4
   |go_enter Tryz.func5,Tryz.ntmps5
  go_wp2_with fail
  refine (Aa U _ X).mono ?_;rintro r Y ⟨⟨nd,br,bs,bt,bu,rfl,Z,aa,ab,-⟩,b1⟩;obtain ⟨x1,c1,rfl,-⟩:=Ad Z.own;obtain ⟨x2,c2,rfl,-⟩:=Ad aa;obtain ⟨ba,c3,rfl,hp⟩:=Ad ab;dsimp only at Z aa ab hp ⊢;have I:=Aa aE;have aJ:=Z.nds rfl (by have:=I.1.1;omega) (fun x hx=>⟨(I.1.2 x hx).1,(I.1.2 x hx).2.1⟩);have S1:=Ih aa rfl (by have:=I.2.1.1;omega) I.2.1.2;have aK:=aG.after b1 NLN;have au:=ar.after b1 NLN;have av:=X.trans (b1.mono X.size);go_upto_if 16 with fail
  refine PO (P:=Code.wp _ _ _ _) ?_;intro o A aL J;have B:=aK.after A NLN;have E:=au.after A NLN;have aw:=aJ.below A NLN;have ax:=S1.below A NLN;have M:=av.trans (A.mono av.size);have ay:w.heap.size+1 < Y.heap.size:=au.lt;have aM:=Ab (show ∀ j,(ac:j < P.length)→∃ g,ba=some ⟨g,0,none⟩∧(w.heap.size+1 < g∧g < Y.heap.size)∧Y.cell? ⟨g,j,none⟩=some (.int .i64 P[j]) from fun j ac=>by
   obtain ⟨g,ad,bb,hc⟩:=hp (by omega);refine ⟨g,ad,⟨by simp at bb;omega,(ab.lt g (by rw[ad];rfl)).2⟩,hc j _ (by simp[Ar,ac])⟩)
  clear X aG ar b1 Z aa ab hp I aJ S1 aK au av;have aN:Below w.heap.size w o:=M;have az:Y.heap.size+1 < o.heap.size:=J.lt;by_cases hc:C=0
  case neg=>
   have ec:(C != 0)=true:=zS.2 hc;have H:=Ab hc;clear hc;have h:=(Below.refl o.heap.size o).drew;obtain ⟨ae,l⟩:=Ba J;obtain ⟨u,aO⟩:=Ba (J.after h NLN);obtain ⟨aP,v,y,-⟩:=Cd B;obtain ⟨z,aQ,aR,-⟩:=Cd (B.after h NLN);obtain ⟨aS,aT⟩:=Ba E;obtain ⟨q2,q3⟩:=Ba (E.after h NLN);have aU:=fun k=>B.frozen k;have aV:=fun k=>(B.after h NLN).frozen k;have aW:=fun k=>E.frozen k;have aX:=fun k=>(E.after h NLN).frozen k;go_wp2_with fail
   go_region
   all_goals
    go_wp2_with fail
    refine Xb (q:= .error (C,aF)) (lo:=o.heap.size) B E aN (by omega) (.inl ⟨Aa H,rfl⟩) ⟨⟨zF _,fun x hx=>by cases hx⟩,⟨zF _,fun x hx=>by cases hx⟩,zF _⟩ (fun W _ _=>TyG.nil _ W _) rfl (.inr rfl) (fun V v y z l u=>?_);simp[results,Tryz.results4,Tryz.results5,go_sem,v,y,z,l,u]
  subst hc;obtain ⟨O,aY⟩:=Aa ap rfl;have Q:=Aa aq rfl;have aZ:=Ab (And.intro O Q);have a0:=Ab (Aa ao o _ _ _ _ _ _ N L M aw ax aY);have bc:=Ab (fun q (hq:Jy N L q)=>Ada aw ax hq);clear O aY Q ap aq ao U;obtain ⟨ae,l⟩:=Ba J;obtain ⟨bd,bf⟩:=Ba aL;go_wp2_with fail
  refine (Aa a0).mono ?_;rintro r a1 ⟨q,hq,⟨bg,bh,d1,bi,bj,d2,bk,bl,d3,rfl,a2⟩,b3⟩;have af:=B.after b3 NLN;have ag:=E.after b3 NLN;have S:=J.after b3 NLN;have ah:=M.trans (b3.mono M.size);have ai:=A.trans (b3.mono A.size);have H:=Ab hq;have aj:=Ab a2;have aA:=b3.size;clear B E J aL M aN aw ax b3 hq a2 ae l bd bf a0;dsimp only;have aB:=(Below.refl a1.heap.size a1).alloc NLN (.cells #[.slice bg bh d1,.slice bi bj d2,.slice bk bl d3] 26);have ak:=S.after aB NLN;obtain ⟨g0,g1⟩:=Ba ak;have a3:=fun k=>ak.frozen k;cases q with
  |ok bm=>
   dsimp only[DI] at aj ⊢;go_upto_if 26 with fail
   refine AcR (P:=Code.wp _ _ _ _) af ag S ah ai ay az aA ?_;intro V K;clear af ag S ah ai aB ak g0 g1 a3;obtain ⟨ae,l⟩:=Ba K.G;obtain ⟨m0,bn,bo,-⟩:=Cd K.T;obtain ⟨aP,v,y,-⟩:=Cd K.R;obtain ⟨aS,aT⟩:=Ba K.F;have aU:=fun k=>K.R.frozen k;have aW:=fun k=>K.F.frozen k;have h:=(Below.refl V.heap.size V).drew;obtain ⟨u,aO⟩:=Ba (K.G.after h NLN);obtain ⟨bv,bw,bx,-⟩:=Cd (K.T.after h NLN);obtain ⟨z,aQ,aR,-⟩:=Cd (K.R.after h NLN);obtain ⟨q2,q3⟩:=Ba (K.F.after h NLN);have aV:=fun k=>(K.R.after h NLN).frozen k;have aX:=fun k=>(K.F.after h NLN).frozen k;go_wp2_with fail
   try (go_region)
   all_goals
    try go_wp2_with fail
    refine Xb (q:= .ok bm) (lo:=o.heap.size) K.R K.F K.low (by omega) (.inr ⟨rfl,_,Aa H,rfl⟩) (Aa bc _ (Aa H)) (fun W s k=>Aa aj W (zD K.sz s) fun q e1 e2=>(k q e1 (zM e2 K.sz)).trans (K.kp q e1 e2)) rfl (by first | (have:=aH;exact .inr rfl) | (have:=aI;exact .inl rfl)) (fun V v y z l u=>?_)
    simp[results,Tryz.results4,Tryz.results5,go_sem,v,y,z,l,u]
  |error f=>
   obtain ⟨O,Q⟩:=Aa aZ;have hat:=(Aa H).at_ O;have aC:=(Aa H).code;obtain ⟨f,a4⟩:=f;dsimp only at hat aC Q;obtain ⟨j,ac⟩:∃ j:Nat,a4=j:=⟨a4.toNat,by omega⟩
   subst ac;have a5:j < P.length:=by omega
   obtain ⟨g,bp,⟨bz,ad⟩,a6⟩:=Aa aM j a5;have bA:g≠w.heap.size:=by omega
   have bB:g≠w.heap.size+1:=by omega
   subst bp;have a7:=Ab (show ldQ P (.error (f,(j:Int)))= .error (f,P[j]) by simp[ldQ,a5]);generalize P[j]=al at a6 a7;have ec:(f != 0)=true:=zS.2 aC;have bC:(j:Int) < (P.length:Int):=by omega
   have bD:(0 :Int)≤(j:Int):=by omega
   dsimp only[DI] at aj ⊢;clear O Q hat aC aM aZ;go_upto_if 26 with fail
   refine AcR (P:=Code.wp _ _ _ _) af ag S ah ai ay az aA ?_;intro V K;clear af ag S ah ai aB ak g0 g1 a3;obtain ⟨ae,l⟩:=Ba K.G;have bE:=fun k=>K.G.frozen k;have bq:=(K.low1.cell (p:=⟨g,j,none⟩) ad).trans a6;obtain ⟨aP,v,y,-⟩:=Cd K.R;obtain ⟨aS,aT⟩:=Ba K.F;have aU:=fun k=>K.R.frozen k;have aW:=fun k=>K.F.frozen k;have i:=K.set ay az aA al;obtain ⟨m0,bn,bo,-⟩:=Cd i.T;obtain ⟨bF,bG,bH,-⟩:=Cd i.R;obtain ⟨bI,bJ⟩:=Ba i.F;obtain ⟨h0,h1⟩:=Ba i.G;have bK:=fun k=>i.R.frozen k;have bL:=fun k=>i.F.frozen k;have a8:=Ab (show Yp (N,L,P,0,aF) (.error (f,al)) from .inr ⟨rfl,_,Aa H,(Aa a7).symm⟩);have a9:=Ab (show okT [] [] [] from ⟨⟨zF _,fun x hx=>by cases hx⟩,⟨zF _,fun x hx=>by cases hx⟩,zF _⟩);have h:=(Below.refl V.heap.size V).drew;obtain ⟨u,aO⟩:=Ba (K.G.after h NLN);have bM:=(h.cell (p:=⟨g,j,none⟩) (by have:=K.low1.size;show g < V.heap.size;omega)).trans bq;obtain ⟨z,aQ,aR,-⟩:=Cd (K.R.after h NLN);obtain ⟨q2,q3⟩:=Ba (K.F.after h NLN);have aV:=fun k=>(K.R.after h NLN).frozen k;have aX:=fun k=>(K.F.after h NLN).frozen k;go_wp2_with fail
   go_region
   all_goals
    go_wp2_with fail
    first
     |have:=aH
      refine Xb (q:= .error (f,al)) (lo:=o.heap.size) i.R i.F i.low (by omega) (Aa a8) (Aa a9) (fun W s k=>Aa aj W (zD i.sz s) fun q e1 e2=>(k q e1 (zM e2 i.sz)).trans (i.kp q e1 e2)) rfl (.inr rfl) (fun V v y z l u=>?_)
     |have:=aI
      refine Xb (q:= .error (f,al)) (lo:=o.heap.size) K.R K.F K.low (by omega) (Aa a8) (Aa a9) (fun W _ _=>TyG.nil _ W _) rfl (.inr rfl) (fun V v y z l u=>?_)
    simp[results,Tryz.results4,Tryz.results5,go_sem,v,y,z,l,u]
end Go.Proofs.YtchakjeegneeoaaGreatDoor
