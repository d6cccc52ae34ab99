/-
  HS, QM0, QM, QN. Own work.
-/
import Derived.Test.YtffkofkjpckmpaaGreatDoorMXAU
import Derived.Test.YtffkofkjpckmpaaGreatDoorMXBJ
import Derived.Test.YtffkofkjpckmpaaGreatDoorMXAX
import Derived.Test.YtffkofkjpckmpaaGreatDoorMXBI
namespace Go.Proofs.YtffkofkjpckmpaaGreatDoor
open Go.RowKit
set_option linter.unusedVariables false
theorem WQ (l:List UInt8){k m:Int}{s:List UInt8}{b a:Nat}(h:BY l= .tok k m s b):BM ⟨k,m,AB s,a⟩∧s.length≤l.length:=by
 have d:∀ r,Bz r= .tok k m s b→BM ⟨k,m,AB s,a⟩∧s.length≤r.length:=by
  intro r h;rw[Bz] at h;split at h
  ·cases h
  ·simp only[N5.tok.injEq] at h;obtain ⟨h1,_,h3,_⟩:=h;refine ⟨?_,by rw[← h3,zg];omega⟩;split at h1
   ·rename_i hi;refine .inr (.inr (.inr ⟨.inl h1.symm, ?_⟩));rw[Dg,← h3];refine za _ (za _ ?_);simpa[Fc] using hi
   ·exact .inr (.inr (.inl h1.symm))
 have f:∀ r,CX r= .tok k m s b→BM ⟨k,m,AB s,a⟩∧s.length≤r.length:=by
  intro r h;rw[CX] at h;split at h
  ·cases h
  ·simp only[N5.tok.injEq] at h;exact ⟨.inl h.1.symm,by rw[← h.2.2.1];simp⟩
 have ht:∀ r,BP r= .tok k m s b→BM ⟨k,m,AB s,a⟩∧s.length≤r.length:=by
  intro r h;rw[BP] at h;split at h
  ·cases h
  ·simp only[N5.tok.injEq] at h;exact ⟨.inr (.inl h.1.symm),by rw[← h.2.2.1,zg];omega⟩
 have hs:∀ c r,Be c (c ::r)= .tok k m s b→BM ⟨k,m,AB s,a⟩∧s.length≤(c ::r).length:=by
  intro c r h;rw[Be] at h;split at h
  ·rename_i h2;simp only[N5.tok.injEq] at h;refine ⟨.inr (.inr (.inr ⟨.inr h.1.symm, ?_⟩)),by rw[← h.2.2.1,zg];omega⟩;rw[Dg,← h.2.2.1];refine za _ (zV _ ?_);simpa using h2
  ·split at h
   ·rename_i h2;simp only[N5.tok.injEq] at h;refine ⟨.inr (.inr (.inr ⟨.inr h.1.symm, ?_⟩)),by rw[← h.2.2.1];simp⟩;rw[Dg,← h.2.2.1];refine zV _ (zb.2 ⟨c, ?_,rfl⟩);simpa using h2
   ·cases h
 match l,h with
 | [],h=>cases h
 |c ::r,h=>
  rw[BY] at h;split at h
  ·exact d _ h
  ·split at h
   ·exact f _ h
   ·split at h
    ·obtain ⟨h1,h2⟩:=ht _ h;exact ⟨h1,by simp;omega⟩
    ·exact hs _ _ h
theorem MQ (n:Nat):∀ (f:Nat) (l:List UInt8) (out:List Ae),l.length≤4000→(∀ t∈out,BM t∧t.text.size≤4000)→∀ t∈(AE n f l out).toks,BM t∧t.text.size≤4000
 | 0,l,out,_,h=>h
 |f+1,l,out,hl,h=>by
  rw[AE];have b:=Gv false l;split
  ·exact h
  ·rename_i c r d;rw[d] at b;split
   ·intro t ht;cases ht
   ·rename_i k m s i g;refine MQ n f _ _ (by rw[zj];omega) ?_;intro t ht;rcases zH.1 ht with ht | ht
    ·exact h t ht
    ·rw[zJ.1 ht];obtain ⟨h1,h2⟩:=WQ (c ::r) (a:=n - (r.length+1)) g;refine ⟨h1, ?_⟩;show (AB s).size≤4000;have e:(AB s).size=s.length:=by simp[AB,ByteArray.size]
     rw[e];omega
theorem Ik (t:ByteArray):∀ u∈(Ay t).toks,BM u∧u.text.size≤4000:=by
 unfold Ay;split
 ·intro u hu;cases hu
 ·exact MQ t.size (t.size+1) (Aj t) [] (by rw[At];omega) (fun u hu=>by cases hu)
theorem Iu (t:ByteArray):∀ u∈(Ay t).toks,BM u∧u.text.size≤maxLen:=fun u hu=>⟨(Ik t u hu).1,by have:=(Ik t u hu).2;unfold maxLen;omega⟩
theorem SV {K:List (List Int)}{a b:Nat}{c:List (Nat × Nat)}(h:AJ K a c b):∀ t,a≤t→t < b→∃ ks:List (Nat × Nat),K[t]? =some (Av ks)∧∀ p∈ks,p.1 < t:=by
 induction h with
 |nil a=>intro t h1 h2;omega
 |@cons a t b ks c hk ht hf d f=>
  intro q h1 h2;by_cases h3:q < t
  ·exact d q h1 h3
  by_cases h4:q=t
  ·subst h4;exact ⟨ks,ht,fun p hp=>(hk.lt p hp).2⟩
  ·exact f q (by omega) h2
theorem ZG {e:Ex} :∀ {Es:List Ex},e∈Es→e.cnt≤JV Es
 |x ::Es,h=>by
  have e5:JV (x ::Es)=x.cnt+JV Es:=by simp[JV]
  rw[e5];rcases zG.1 h with rfl | h
  ·omega
  ·have:=ZG h;omega
def isR (w:World) (Es:List Ex) (k:Int):Prop:=∃ (m:Nat) (e:Ex),k=m∧Es[m]? =some e∧e.fit w∧e.cnt≤4000
def ZF (w:World) (Es:List Ex) (s:St):Prop:=
 (s.kind=1∧s.name.size≤32∧isR w Es s.cond∧s.grant= -1)∨(s.kind=2∧isR w Es s.cond∧(s.grant= -1∨isR w Es s.grant))∨(s.kind=3∧s.cond= -1∧(s.grant= -1∨isR w Es s.grant))
structure Zp (N:List Nd) (L:List St):Prop where
 n:N.length≤4000
 m0: 1≤L.length
 m:L.length≤600
 fields:∀ x∈N,Aw x=true
 kids:∀ (i:Nat) (x:Nd),N[i]? =some x→∀ k∈x.kids,0≤k∧k < (i:Int)
 roots:∀ s∈L,(s.cond= -1∨(0≤s.cond∧s.cond < N.length))∧(s.grant= -1∨(0≤s.grant∧s.grant < N.length))
 stm:∀ s∈L,(s.kind=1∧s.name.size≤32∧0≤s.cond∧s.grant= -1)∨(s.kind=2∧0≤s.cond)∨(s.kind=3∧s.cond= -1)
 cnt:∀ (Es:List Ex),Es.length=N.length→(∀ j,(h:j < Es.length)→DK N j Es[j])→∀ s∈L,∀ k,(k=s.cond∨k=s.grant)→0≤k→∀ e,Es[k.toNat]? =some e→e.cnt≤4000
theorem Jf:∀ {L:List St},BK L=true→∀ s∈L,CT s=true
 |x ::L,h,s,hs=>by
  simp only[BK,zE] at h;rcases zG.1 hs with rfl | hs
  ·exact h.1.1
  ·exact Jf h.2 s hs
theorem Fk {N:List Nd}{L:List St}(h:By N L=true):Zp N L:=by
 simp only[By,zE,zF] at h;obtain ⟨⟨⟨h1,⟨h2,h3⟩,h4⟩,h5⟩,h6⟩:=h;obtain ⟨S,r,ht⟩:∃ S,CJ (N.map Nd.kids) N.length [] 0=some S∧Av S=L.flatMap As:=by
  rw[EF] at h6;cases hq:CJ (N.map Nd.kids) N.length [] 0 with
  |none=>rw[hq] at h6;cases h6
  |some S=>rw[hq] at h6;exact ⟨S,rfl,of_decide_eq_true h6⟩
 obtain ⟨b,_⟩:=FM N.length (.nil 0) (fun p hp=>(by cases hp)) r;rw[zW] at b;have m:∀ s∈L,∀ k∈As s,∃ p∈S,k=(p.1:Int):=fun s hs k hk=>by
  have:k∈Av S:=by rw[ht];exact List.mem_flatMap.2 ⟨s,hs,hk⟩
  rw[Av] at this;obtain ⟨p,hp,rfl⟩:=zb.1 this;exact ⟨p,hp,rfl⟩
 have c:∀ s∈L,∀ k∈As s,0≤k∧k < N.length:=fun s hs k hk=>by
  obtain ⟨p,hp,rfl⟩:=m s hs k hk;have:=(b.lt p hp).2;omega
 have d:∀ s∈L,s.kind≠3→s.cond∈As s:=fun s _ h=>by rw[As,if_pos h];simp
 have n:∀ s∈L,s.grant≠-1→s.grant∈As s:=fun s _ h=>by rw[As,if_pos h];simp
 have t:=Jf h4;have stm:∀ s∈L,(s.kind=1∧s.name.size≤32∧0≤s.cond∧s.grant= -1)∨(s.kind=2∧0≤s.cond)∨(s.kind=3∧s.cond= -1):=fun s hs=>by
  have h:=t s hs;rw[CT] at h;by_cases f:s.kind=1
  ·rw[if_pos f] at h;simp only[zE,zF] at h;exact .inl ⟨f,LD h.1,(c s hs _ (d s hs (by omega))).1,h.2⟩
  rw[if_neg f] at h;by_cases o:s.kind=2
  ·exact .inr (.inl ⟨o,(c s hs _ (d s hs (by omega))).1⟩)
  rw[if_neg o] at h;by_cases a:s.kind=3
  ·rw[if_pos a] at h;simp only[zE,zF] at h;exact .inr (.inr ⟨a,h.2⟩)
  ·rw[if_neg a] at h;cases h
 refine ⟨h1,h2,h3,fun x hx=>z1.1 h5 x hx,fun i x hx k hk=>?_,fun s hs=>⟨?_, ?_⟩,stm,fun Es hl u s hs k hk h0 e he=>?_⟩
 ·have hi:i < N.length:=(zX.1 hx).1;obtain ⟨ks,e1,e2⟩:=SV b i (zN _) hi;rw[zd,hx] at e1;have e3:x.kids=Av ks:=Option.some.inj e1;rw[e3,Av] at hk;obtain ⟨p,hp,rfl⟩:=zb.1 hk;have:=e2 p hp;omega
 ·by_cases a:s.kind=3
  ·rcases stm s hs with h | h | h
   ·omega
   ·omega
   ·exact .inl h.2
  ·exact .inr (c s hs _ (d s hs a))
 ·by_cases g:s.grant= -1
  ·exact .inl g
  ·exact .inr (c s hs _ (n s hs g))
 ·have v:k∈As s:=by
   rcases hk with rfl | rfl
   ·apply d s hs;intro a;rcases stm s hs with h | h | h <;> omega
   ·exact n s hs (by omega)
  obtain ⟨p,hp,rfl⟩:=m s hs k v;have l:∀ q∈S,q.1 < Es.length:=fun q hq=>by rw[hl];exact (b.lt q hq).2
  have w:=M2 b (S.attach.map (fun q=>Es[q.1.1]'(l q.1 q.2))) (by simp) (fun j h1 h2=>by
   have:=u (S[j]).1 (l _ (zP h1));simpa using this)
  rw[z0] at he;have hm:e∈S.attach.map (fun q=>Es[q.1.1]'(l q.1 q.2)):=by
   refine zb.2 ⟨⟨p,hp⟩,List.mem_attach _ _, ?_⟩;exact (zX.1 he).2
  have:=ZG hm;omega
theorem Qu {N:List Nd}{L:List St}{w:World}{Es:List Ex}(h:Zp N L)(hl:Es.length=N.length)(g:∀ j,(h:j < Es.length)→DK N j Es[j])(hf:∀ e∈Es,e.fit w):∀ s∈L,ZF w Es s:=fun s hs=>by
 obtain ⟨d,i⟩:=h.roots s hs;have get:∀ k,(k=s.cond∨k=s.grant)→0≤k∧k < N.length→isR w Es k:=fun k hk c=>
  ⟨k.toNat,Es[k.toNat]'(by omega),by omega,zM _,hf _ (zP _),h.cnt Es hl g s hs k hk c.1 _ (zM (by omega))⟩
 have f:s.grant= -1∨isR w Es s.grant:=i.imp id (fun c=>get _ (.inr rfl) c);rcases h.stm s hs with ⟨a,b,m,l⟩ | ⟨a,b⟩ | ⟨a,b⟩
 ·exact .inl ⟨a,b,get _ (.inl rfl) (d.resolve_left (by omega)),l⟩
 ·exact .inr (.inl ⟨a,get _ (.inl rfl) (d.resolve_left (by omega)),f⟩)
 ·exact .inr (.inr ⟨a,b,f⟩)
theorem FZ {Es:List Ex}{m:Nat}{e:Ex}(h:Es[m]? =some e):XS Es (m:Int)=e.pr:=by
 rw[XS,z0,h]
theorem QG {Es:List Ex}{m:Nat}{e:Ex}(h:Es[m]? =some e):EG Es (m:Int)=e.val:=by
 rw[EG,if_neg (by omega),z0,h]
theorem JW {w:World}{Es:List Ex}{g:Int}(h:g= -1∨isR w Es g):(SA Es g).size≤16000100:=by
 have e1:(⟨#[103,114,97,110,116,32]⟩:ByteArray).size=6:=rfl;rcases h with rfl | ⟨m,e,rfl,h1,h2,h3⟩
 ·exact (by decide:(⟨#[100,101,110,121]⟩:ByteArray).size≤16000100)
 ·rw[SA,if_neg (by omega),FZ h1,zD,e1];have:=e.pr_size h2;omega
theorem SQ {w:World}{Es:List Ex}{g:Int}(h:isR w Es g):(XS Es g).size≤16000000:=by
 obtain ⟨m,e,rfl,h1,h2,h3⟩:=h;rw[FZ h1];have:=e.pr_size h2;omega
theorem ST {w:World}{Es:List Ex}{s:St}(h:ZF w Es s):(Lm Es s).size≤40000000∧0 < (Lm Es s).size:=by
 have f:(⟨#[108,101,116,32]⟩:ByteArray).size=4:=rfl;have g:(⟨#[32,61,32]⟩:ByteArray).size=3:=rfl;have i:(⟨#[119,104,101,110,32]⟩:ByteArray).size=5:=rfl;have j:(⟨#[32,61,62,32]⟩:ByteArray).size=4:=rfl;have k:(⟨#[101,108,115,101,32]⟩:ByteArray).size=5:=rfl;have c:(⟨#[59,10]⟩:ByteArray).size=2:=rfl;rcases h with ⟨b,d,a,l⟩ | ⟨b,d,a⟩ | ⟨b,d,a⟩
 ·have:=SQ a;rw[Lm,if_pos b];simp only[zD,f,g,c];omega
 ·have:=SQ d;have:=JW a;rw[Lm,if_neg (by omega),if_pos b];simp only[zD,i,j,c];omega
 ·have:=JW a;rw[Lm,if_neg (by omega),if_neg (by omega)];simp only[zD,k,c];omega
def Gu (Es:List Ex) (L:List St):ByteArray:=Dl (L.map (Lm Es))
theorem SU (Es:List Ex)(L:List St)(k:Nat)(h:k < L.length):Gu Es (L.take (k+1))=Gu Es (L.take k) ++Lm Es L[k]:=by
 rw[Gu,Gu,zx h,zl,List.map_cons,Z1,KS]
theorem JR {w:World}{Es:List Ex} :∀ {L:List St},(∀ s∈L,ZF w Es s)→(Gu Es L).size≤40000000 * L.length
 | [],_=>by simp[Gu,Dl,ByteArray.size]
 |s ::L,h=>by
  have h1:=(ST (h s (zQ ..))).1;have h2:=JR (L:=L) (fun x hx=>h x (zS _ hx));rw[Gu] at h2;rw[Gu,List.map_cons,Dl,zD,List.length_cons];omega
theorem Aa9 {w:World}{Es:List Ex} :∀ {L:List St},1≤L.length→(∀ s∈L,ZF w Es s)→(Gu Es L).size≠0
 | [],h,_=>by simp at h
 |s ::L,_,h=>by
  have h1:=(ST (h s (zQ ..))).2;rw[Gu,List.map_cons,Dl,zD];omega
set_option maxRecDepth 100000
set_option maxHeartbeats 1600000
def IY (N:List Nd) (L:List St) (s:ByteArray):Prop:=
 (By N L=false∧s=⟨#[]⟩)∨(By N L=true∧∃ Es:List Ex,Es.length=N.length∧(∀ j,(h:j < Es.length)→DK N j Es[j])∧s=Gu Es L)
theorem ZH (w:World):Pr w.heap.size w.heap.size ⟨#[]⟩ (w.alloc (.cells #[.pointer none,.slice none 0 0] 63)):=by
 exact Or.inl ⟨NLN,.slice none 0 0,(Am.new w #[.pointer none,.slice none 0 0] 63).out,World.ownsRow_nil _ _ _ _,by simp[Value.ownBlock]⟩
theorem Ou (B b:Nat)(a:World)(A:CU a)(C:Rj a)(E:a.heap.size≤B)(Es:List Ex)(j:Nat)(s:St)(hs:ZF a Es s)(acc:ByteArray)(w:World)(i:Below B a w)(h:Pr B b acc w)(k:acc.size≤30000000000):
  Calls Tryz.prog 20 #[.pointer (some ⟨b,0,none⟩),.agg #[.int .i64 j,.int .i64 s.kind,.string s.name,EG Es s.cond,EG Es s.grant]] w (GL B b (acc ++Lm Es s) w):=by
 have o:∀ e:Ex,e.fit a→DX B b a e.val e.put e.cnt:=Cd B b a A C E;have z:∀ g,(g= -1∨isR a Es g)→∃ v,v=EG Es g∧(v= .nilIface∨∃ t u,v= .iface t u)∧ZE B b a v (SA Es g):=fun g d=>by
  rcases d with rfl | ⟨m,e,rfl,h1,h2,h3⟩
  ·exact ⟨_,rfl,.inl rfl,Oo B b a⟩
  ·obtain ⟨t,u,c⟩:=e.form;refine ⟨.iface t u,by rw[QG h1,c],.inr ⟨t,u,rfl⟩, ?_⟩;have:=Oq B b a t u e.put e.cnt (c ▸ o e h2) h3;rw[BO] at this;rw[SA,if_neg (by omega),FZ h1];exact this
 rcases hs with ⟨f,p,⟨m,e,hm,h1,h2,h3⟩,F⟩ | ⟨f,⟨m,e,hm,h1,h2,h3⟩,l⟩ | ⟨f,p,l⟩
 ·obtain ⟨t,u,c⟩:=e.form;rw[Lm,if_pos f,f,F,hm,QG h1,FZ h1,c,Gm];have:=Ot B b a j s.name t u e.put e.cnt (c ▸ o e h2) h3 (e.put_size h2 0) p acc w i h k;rw[BO] at this;exact this
 ·obtain ⟨t,u,c⟩:=e.form;have d:=JW l;obtain ⟨v,q,r,n⟩:=z _ l;rw[Lm,if_neg (by omega),if_pos f,f,hm,QG h1,FZ h1,c,← q];rcases r with rfl | ⟨x,y,rfl⟩
  ·have:=Ie B b a j s.name t u e.put e.cnt (c ▸ o e h2) h3 (e.put_size h2 0) _ (.inl rfl) (SA Es s.grant) n d acc w i h k;rw[BO] at this;exact this
  ·have:=Ie B b a j s.name t u e.put e.cnt (c ▸ o e h2) h3 (e.put_size h2 0) _ (.inr ⟨x,y,rfl⟩) (SA Es s.grant) n d acc w i h k;rw[BO] at this;exact this
 ·have d:=JW l;obtain ⟨v,q,r,n⟩:=z _ l;rw[Lm,if_neg (by omega),if_neg (by omega),f,p,Gm,← q];rcases r with rfl | ⟨x,y,rfl⟩
  ·exact If B b a j s.name _ (.inl rfl) (SA Es s.grant) n d acc w i h k
  ·exact If B b a j s.name _ (.inr ⟨x,y,rfl⟩) (SA Es s.grant) n d acc w i h k
theorem Pq (Es:List Ex)(k:Int):EG Es k= .nilIface∨∃ t u,EG Es k= .iface t u:=by
 rw[EG];split
 ·exact .inl rfl
 ·split
  ·exact .inr (Ex.form _)
  ·exact .inl rfl
theorem Mt (a b:Option Addr)(n c m d:Nat)(N:List Nd)(L:List St)(w:World)(h1:IZ w a n c N)(h2:PO w b m d L)(aa:CU w)(ab:Rj w)(ac:∀ x∈N,x.num≤9223372036854775807):
  Calls Tryz.prog 7 #[.agg #[.slice a n c,.slice b m d]] w fun r w'=>(∃ s,r= .returned (.string s)∧IY N L s)∧Below w.heap.size w w':=by
 have I:=Ab h1.len;have z:=Ab h2.len;have av:=Ab ac;have ad:=Am.new w #[.slice a n c,.slice b m d] 27;have j:=(Below.refl w.heap.size w).alloc NLN (.cells #[.slice a n c,.slice b m d] 27);have J:=h1.below j NLN;have K:=h2.below j NLN;have M:=aa.below j NLN;have ae:=ab.below j NLN;clear h1 h2 aa ab ac;go_enter Tryz.func7,Tryz.ntmps7
 go_wp2_with fail
 refine (Gd _ _ _ _ _ _ N L _ J K M).mono ?_;rintro r f ⟨rfl,l⟩;have O:=j.trans (l.mono j.size);have af:=J.below l NLN;have ag:=K.below l NLN;have aw:=M.below l NLN;have ax:=ae.below l NLN;have ah:=ad.after l NLN;clear J K M ae ad j l;have ay:=O.size;have aQ:w.heap.size < f.heap.size:=ah.lt;dsimp only;cases t:By N L with
 |false=>
  have P:=Ab t;clear t;go_wp2_with fail
  go_ret
  exact ⟨⟨_,rfl,.inl ⟨Aa P,rfl⟩⟩,O⟩
 |true=>
  have P:=Ab t;have p:=Ab (Fk t);clear t;have q:=(Below.refl f.heap.size f).alloc NLN (.cells #[.pointer none,.slice none 0 0] 63);have ai:=ZH f;have Q:=ah.after q NLN;have az:(f.alloc (.cells #[.pointer none,.slice none 0 0] 63)).cell? ⟨w.heap.size,0,none⟩=some (.slice a n c):=Q.cell 0;have aA:(f.alloc (.cells #[.pointer none,.slice none 0 0] 63)).cell? ⟨w.heap.size,1,none⟩=some (.slice b m d):=Q.cell 1;have aj:=Ab (KU a b n c m d N L f _ af q (ag.below q NLN) (fun e=>e.fit f) (On (Aa p).fields (Aa av) (Aa p).kids) (by rw[← Aa I];exact (Aa p).roots));go_wp2_with fail
  refine (Aa aj).mono ?_;rintro r R ⟨⟨v,Es,rfl,S,T,hf,A⟩,U⟩;have aB:(f.alloc (.cells #[.pointer none,.slice none 0 0] 63)).heap.size=f.heap.size+1:=by simp
  have aC:Pr f.heap.size f.heap.size ⟨#[]⟩ R:=ai.below U;have V:Below f.heap.size f R:=q.trans (U.mono q.size);have W:=Ab (Qu (Aa p) (by rw[S,Aa I]) T hf);have aD:=Ab T;have aE:=Ab (show Es.length=N.length by rw[S,Aa I]);have B:=Ab (show 1≤m∧m≤600 by rw[← Aa z];exact ⟨(Aa p).m0,(Aa p).m⟩);rw[aB] at A;obtain ⟨aR,aS,rfl,hx⟩:=Af A;obtain ⟨g,rfl,aT,ak⟩:=hx (by have:=Aa B;omega);obtain ⟨aU,al,_⟩:=SY A;have aF:=Ab ak;have aG:g≠f.heap.size:=by omega
  have aV:m≤600:=(Aa B).2;clear S T hf hx ak aj A U ai az aA Q q ag af;dsimp only;go_wp2_with fail
  go_loopw [12] (fun i wr=>∃ k:Nat,k≤m∧i= .int .i64 k∧Pr f.heap.size f.heap.size (Gu Es (L.take k)) wr∧Kp f.heap.size f.heap.size R wr) (fun i _=>m - (intOf i).toNat)
  case atStart=>exact ⟨0,by omega,rfl,aC,Kp.refl _ _ _⟩
  case round=>
   obtain ⟨k,hk,rfl,C,y⟩:=hrel;by_cases X:k < m
   ·have aW:(k:Int) < (m:Int):=by omega
    have E:k < L.length:=by rw[Aa z];exact X
    have Y:=y.row al aG (by decide);have o:∀ r,r < 5→∀ u,(Nj Es k L[k])[r]? =some u→wr.cell? ⟨g,k * 5+r,none⟩=some u:=fun r aH u hu=>by
     rw[Y.cell,← al.cell];refine Aa aF _ _ ?_;rw[ZD Es L 0 k E r aH,zW];exact hu
    have ao:=o 0 (by decide) _ rfl;have c1:=o 1 (by decide) _ rfl;have c2:=o 2 (by decide) _ rfl;have c3:=o 3 (by decide) _ rfl;have c4:=o 4 (by decide) _ rfl;simp only[zr] at ao;have aI:=y.size;have aJ:=V.size;have F:=Ab (show (Gu Es (L.take k)).size≤30000000000 by
     have h1:=JR (w:=f) (Es:=Es) (L:=L.take k) (fun s hs=>Aa W s (yF hs));have h2:=Aa B;rw[zg] at h1;omega)
    have ap:=Ab (zL aJ aI);have H:=Ab (SU Es L k E);have h:=Ab (fun Z (aK:Below f.heap.size f Z) (aL:Pr f.heap.size f.heap.size (Gu Es (L.take k)) Z)=>Ou f.heap.size f.heap.size f aw ax NLN Es k L[k] (Aa W _ (zP E)) _ Z aK aL (Aa F));have aq:=Ab X;have aX:=Y.lt;generalize Gu Es (L.take k)=acc at C H h F;generalize L[k]=s at ao c1 c2 c3 c4 H h o;generalize Lm Es s=st at H h;clear o Y X E;have ar:=Pq Es s.cond;have au:=Pq Es s.grant;generalize EG Es s.cond=aY at c3 h ar;generalize EG Es s.grant=aZ at c4 h au;generalize s.kind=a0 at c1 h;generalize s.name=nm at c2 h;rcases ar with rfl | ⟨a1,u3,rfl⟩ <;> rcases au with rfl | ⟨a2,u4,rfl⟩
    all_goals
     go_wp2_with fail
     refine (Aa h _ ?_ (C.alloc _)).mono ?_
     ·exact (V.trans y.low).alloc (Aa ap) _
     rintro r a3 ⟨rfl,aM,aN⟩;dsimp only;go_wp2_with fail
     go_roundw
     case rel=>exact ⟨k+1,Aa aq,by go_num,by rw[Aa H];exact aM,(y.trans (Kp.alloc0 wr _ (Aa ap))).trans aN⟩
     case measure=>have:=Aa aq;simp[intOf];omega
   ·have e:k=m:=by omega
    subst e;have aO:=Ab (show Gu Es (L.take k)=Gu Es L by rw[← Aa z,List.take_length]);have F:=Ab (show (Gu Es L).size≠0 from Aa9 (w:=f) (by rw[Aa z];exact (Aa B).1) (Aa W));rw[Aa aO] at C;go_wp2_with fail
    refine (UP _ _ _ _ C (Aa F)).mono ?_;rintro r a4 ⟨rfl,aP⟩;dsimp only;go_wp2_with fail
    go_ret
    exact ⟨⟨_,rfl,.inr ⟨Aa P,Es,Aa aE,Aa aD,rfl⟩⟩,O.trans (((V.trans y.low).trans aP).mono ay)⟩
end Go.Proofs.YtffkofkjpckmpaaGreatDoor
