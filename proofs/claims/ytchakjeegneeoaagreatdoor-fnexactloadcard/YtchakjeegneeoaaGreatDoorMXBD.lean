/-
  NUG, ECM, NUI, ECO, GX0, GX. Own work.
-/
import Derived.Test.YtchakjeegneeoaaGreatDoorMXAW
import Derived.Test.YtchakjeegneeoaaGreatDoorMXAS
import Derived.Test.YtchakjeegneeoaaGreatDoorMXAU
import Derived.Test.YtchakjeegneeoaaGreatDoorMXAE
namespace Go.Proofs.YtchakjeegneeoaaGreatDoor
open Go.RowKit
set_option linter.unusedVariables false
structure Sx where
 at':Int
 kind:Int
 name:ByteArray
 cond:Option Ex
 grant:Option Ex
def Bu:Option Ex→Value
 |none=> .nilIface
 |some e=>e.val
def Nq (x:Sx):List Value:= [.int .i64 x.at',.int .i64 x.kind,.string x.name,Bu x.cond,Bu x.grant]
def Hj (S:List Sx):List Value:=S.flatMap Nq
theorem Acm:∀ (S:List Sx),(Hj S).length=S.length * 5
 | []=>rfl
 |x ::S=>by
  have:=Acm S;rw[Hj] at this ⊢;rw[zn,zA,this,List.length_cons];simp[Nq];omega
theorem Nr:∀ (S:List Sx) (j:Nat) (h:j < S.length) (r:Nat),r < 5→(Hj S)[j * 5+r]? =(Nq S[j])[r]?
 |x ::S,0,h,r,hr=>by
  rw[Hj,zn,Nat.zero_mul,zX,List.getElem?_append_left (by simp[Nq];omega)];simp
 |x ::S,j+1,h,r,hr=>by
  have a:=Nr S j (by simpa using h) r hr;rw[Hj] at a ⊢;rw[zn,Z7 (by simp[Nq];omega)];have e:(j+1) * 5+r - (Nq x).length=j * 5+r:=by simp[Nq];omega
  rw[e,a];simp only[List.getElem_cons_succ]
 | [],_,h,_,_=>absurd h (by simp)
def AH:Option Ex→Nat
 |none=>0
 |some e=>e.cnt
def Gv:Option Ex→Nat→List Nd
 |none,_=> []
 |some e,b=>BH e b
def Mw:Option Ex→List Int
 |none=> []
 |some e=>DG e
def Gp:Option Ex→Nat→Int
 |none,_=>-1
 |some e,b=>((b+e.cnt - 1 :Nat):Int)
def Jt (w:World):Option Ex→Prop
 |none=>True
 |some e=>e.sok w
theorem IZ (o:Option Ex)(b:Nat):(Gv o b).length=AH o:=by
 cases o
 ·rfl
 ·exact Am _ _
theorem Ki (o:Option Ex):(Mw o).length=AH o:=by
 cases o
 ·rfl
 ·exact Bn _
def AK:Nat→List Sx→List Nd
 |_, []=> []
 |b,x ::S=>Gv x.cond b ++Gv x.grant (b+AH x.cond) ++AK (b+AH x.cond+AH x.grant) S
def Dm:List Sx→List Int
 | []=> []
 |x ::S=>Mw x.cond ++Mw x.grant ++Dm S
def Cu:Nat→List Sx→List St
 |_, []=> []
 |b,x ::S=>⟨x.kind,x.name,Gp x.cond b,Gp x.grant (b+AH x.cond)⟩ ::Cu (b+AH x.cond+AH x.grant) S
def CI (S:List Sx):Nat:=(S.map fun x=>AH x.cond+AH x.grant).sum
theorem Bp (x:Sx)(S:List Sx):CI (x ::S)=AH x.cond+AH x.grant+CI S:=by simp[CI]
theorem Do:∀ (S:List Sx) (b:Nat),(AK b S).length=CI S
 | [],_=>rfl
 |x ::S,b=>by rw[AK,zA,zA,IZ,IZ,Do S,Bp]
theorem GB:∀ (S:List Sx),(Dm S).length=CI S
 | []=>rfl
 |x ::S=>by rw[Dm,zA,zA,Ki,Ki,GB S,Bp]
theorem Fy:∀ (S:List Sx) (b:Nat),(Cu b S).length=S.length
 | [],_=>rfl
 |x ::S,b=>by rw[Cu,List.length_cons,Fy S,List.length_cons]
theorem JS (a B:List Sx):CI (a ++B)=CI a+CI B:=by simp[CI]
theorem k9 (x:Sx):∀ (S:List Sx) (b:Nat),AK b (S ++ [x])=AK b S ++Gv x.cond (b+CI S) ++Gv x.grant (b+CI S+AH x.cond)
 | [],b=>by simp[AK,CI]
 |y ::S,b=>by
  rw[List.cons_append,AK,AK,k9 x S,Bp];have e:b+AH y.cond+AH y.grant+CI S=b+(AH y.cond+AH y.grant+CI S):=by omega
  rw[e];simp only[zC]
theorem Lw (x:Sx):∀ (S:List Sx),Dm (S ++ [x])=Dm S ++Mw x.cond ++Mw x.grant
 | []=>by simp[Dm]
 |y ::S=>by
  rw[List.cons_append,Dm,Dm,Lw x S];simp only[zC]
theorem IP (x:Sx):∀ (S:List Sx) (b:Nat),Cu b (S ++ [x])=Cu b S ++ [⟨x.kind,x.name,Gp x.cond (b+CI S),Gp x.grant (b+CI S+AH x.cond)⟩]
 | [],b=>by simp[Cu,CI]
 |y ::S,b=>by
  rw[List.cons_append,Cu,Cu,IP x S,Bp];have e:b+AH y.cond+AH y.grant+CI S=b+(AH y.cond+AH y.grant+CI S):=by omega
  rw[e];rfl
theorem Qh (L:List St)(s:St):Cy (L ++ [s])=Cy L ++ [.int .i64 s.kind,.string s.name,.int .i64 s.cond,.int .i64 s.grant]:=by simp[Cy]
def AdR (B nb:Nat) (N:List Nd) (P:List Int) (nd pl:Value) (nv kv:List Value) (M:List Nd) (Q:List Int) (ix:Int) (w:World) (r:Ending) (w':World):Prop:=
 r= .returned (.int .i64 ix)∧∃ nd' pl' nv' kv',My w' B nb (N ++M) (P ++Q) nd' pl' (nv ++nv') (kv ++kv')∧Nk B nb nd pl w nd' pl' w'
theorem Aeu (B a:Nat)(b:World)(hB:b.heap.size≤B)(o:Option Ex)(hs:Jt b o)(N:List Nd)(P:List Int)(nd c:Value)(d f:List Value)(w:World)(g:Below B b w)(h:My w B a N P nd c d f)(h1:N.length+AH o≤65535)(h2:P.length+AH o≤65535):
  Calls Tryz.prog 87 #[.pointer (some ⟨a,0,none⟩),Bu o] w (AdR B a N P nd c d f (Gv o N.length) (Mw o) (Gp o N.length) w):=by
 cases o with
 |none=>exact (Acl a w).mono fun r w' ⟨e1,e2⟩=>⟨e1,nd,c, [], [],by rw[e2];simpa[Gv,Mw] using h,by rw[e2];exact Nk.refl _ _ _ _ _⟩
 |some e=>exact (TY B a b hB e hs N P nd c d f w g h h1 h2).mono fun r w' ⟨e1,i,j,k,l,m,n,_⟩=>⟨by rw[e1,Am];rfl,i,j,k,l,m,n⟩
theorem My.other {w w':World}{B b:Nat}{N:List Nd}{P:List Int}{nd c:Value}{d f:List Value}(h:My w B b N P nd c d f){v:Value}{m:Nat}{g:List Value}{lo:Nat}(O:w.ownsRow lo 60 4 v m g)(hk:∀ q,q < w.heap.size→v.ownBlock≠some q→w'.heap[q]? =w.heap[q]?):My w' B b N P nd c d f:=
 ⟨⟨(hk b h.row.lt (Ae h.row O (by decide))).trans h.row.out⟩,
   h.nodes.upto (fun q hq=>hk q (h.nodes.lts.1 q hq).2 (fun e=>Ai O h.nodes.own (by decide) q e hq)) (fun j a q hq=>hk q (h.nodes.lts.2.1 j a q hq).2 (fun e=>Ai O (h.nodes.names j (by rw[← h.nodes.len];exact a) a) (by decide) q e hq)) (fun j a q hq=>hk q (h.nodes.lts.2.2 j a q hq).2 (fun e=>Ai O (h.nodes.kids j (by rw[← h.nodes.lenk];exact a) a) (by decide) q e hq)),
   Ac h.places (fun q hq=>hk q (h.places.lt q hq).2 (fun e=>Ai O h.places (by decide) q e hq)),h.apart,h.low⟩
theorem Nk.stm {B a:Nat}{nd b d f:Value}{w w':World}{N:List Nd}{P:List Int}{g i:List Value}(h:Nk B a nd b w d f w')(C:My w B a N P nd b g i){v:Value}{m:Nat}{c:List Value}{lo:Nat}(O:w.ownsRow lo 60 4 v m c):w'.ownsRow lo 60 4 v m c:=
 Ac O (fun q hq=>h.block q (O.lt q hq).2 (fun e=>Ae C.row O (by decide) (by rw[hq,e])) (fun e=>Ai O C.nodes.own (by decide) q hq e) (fun e=>Ai O C.places (by decide) q hq e))
set_option maxRecDepth 100000
set_option maxHeartbeats 6400000
def Zp (v r:Value):Prop:=(True∧v= .nilIface∧r= .nilIface)∨∃ t u s o,v= .iface t u∧r= .iface s o
theorem Aeb {i:Func}{j:Array Value}{w W:World}{b:Nat}{c0 c1 c2 c3 c4 a c d f g:Value}{t:TypeId}{Q:Ending→World→Prop}(k:Al W (b+1) #[c0,c1,c2,c3,c4] t)(D:Below b w W)(l:∀ V:World,V.cell? ⟨b+1,0,none⟩=some a→V.cell? ⟨b+1,1,none⟩=some c→V.cell? ⟨b+1,2,none⟩=some d→V.cell? ⟨b+1,3,none⟩=some f→V.cell? ⟨b+1,4,none⟩=some g→(results i j).run Tryz.prog V= .ok (.agg #[a,c,d,f,g]) V)(m:∀ V,Below b w V→Q (.returned (.agg #[a,c,d,f,g])) V):bodyPost Tryz.prog i Q Exit.ret { tmps:=j,defers:= [] } (((((W.setCell ⟨b+1,0,none⟩ a).setCell ⟨b+1,1,none⟩ c).setCell ⟨b+1,2,none⟩ d).setCell ⟨b+1,3,none⟩ f).setCell ⟨b+1,4,none⟩ g):=by
 have h:=((((k.set 0 a).set 1 c).set 2 d).set 3 f).set 4 g;exact bodyPost_ret (l _ (h.cell 0) (h.cell 1) (h.cell 2) (h.cell 3) (h.cell 4)) rfl (m _ (((((D.setCell (p:=⟨b+1,0,none⟩) (zJ _) a).setCell (p:=⟨b+1,1,none⟩) (zJ _) c).setCell (p:=⟨b+1,2,none⟩) (zJ _) d).setCell (p:=⟨b+1,3,none⟩) (zJ _) f).setCell (p:=⟨b+1,4,none⟩) (zJ _) g))
theorem Ac4 {P:World→Prop}{w W:World}{b:Nat}{c0 c1 c2 c3 c4 a c:Value}{cs:Array Value}{t u:TypeId}(R:Al W b #[c0,c1,c2,c3,c4] t)(f:Al W (b+1) cs u)(D:Below b w W)(d:b+1≠b)(h:∀ V:World,Al V b #[c0,c1,c2,a,c] t→Al V (b+1) cs u→Below b w V→P V):P ((W.setCell ⟨b,3,none⟩ a).setCell ⟨b,4,none⟩ c):=
 h _ ((R.set 3 a).set 4 c) ((f.setFar (p:=⟨b,3,none⟩) d a).setFar (p:=⟨b,4,none⟩) d c) ((D.setCell (p:=⟨b,3,none⟩) NLN a).setCell (p:=⟨b,4,none⟩) NLN c)
theorem SH (b:Nat)(g:World)(j A:Int)(nm:ByteArray){i l q d:Value}(h1:Zp i q)(h2:Zp l d)(B:Hid (U7 b g i q))(C:Hid (U7 b g l d))(w:World)(s:Below g.heap.size g w):
  Calls Tryz.prog 62 #[.agg #[.int .i64 j,.int .i64 A,.string nm,i,l],.func (.func 63) #[.pointer (some ⟨b,0,none⟩)] #[]] w fun r w'=>r= .returned (.agg #[.int .i64 j,.int .i64 A,.string nm,q,d])∧Below w.heap.size w w':=by
 have t:=Ab s;have hB:=s.size;have m:(Tryz.f99.name== "runtime.NumGoroutine")=false:=by kernel_rfl
 have n: Tryz.f99.body.isNone=false:=by kernel_rfl
 have L:w.heap.size+1≠w.heap.size:=by omega
 clear s;rcases h1 with ⟨M,rfl,rfl⟩ | ⟨N,O,Q,R,rfl,rfl⟩ <;> rcases h2 with ⟨S,rfl,rfl⟩ | ⟨T,U,W,X,rfl,rfl⟩
 all_goals
  go_enter Tryz.func62,Tryz.ntmps62
  go_wp2_with fail
  refine PO (P:=Code.wp _ _ _ _) ?_;intro a o u E;have F:=Ab ((Aa t).trans (o.mono hB));obtain ⟨-,-,-,d,Y⟩:=Gr u;have H:Below a.heap.size a a.drew:=BRN.drew;go_region_law (first
   |((first | refine BO rfl 99 _ Tryz.func99 m n _ _ _ rfl (.iface N O) (.func (.func 63) #[.pointer (some ⟨b,0,none⟩)] #[]) rfl rfl (fun v' w'=>v'=(.iface Q R)∧Below a.heap.size a w') ((Aa B a.drew (Aa F).drew).mono (fun r w' h=>⟨_,h.1,rfl,H.trans h.2⟩)) ?_ | (have:=M;refine BO rfl 99 _ Tryz.func99 m n _ _ _ rfl .nilIface (.func (.func 63) #[.pointer (some ⟨b,0,none⟩)] #[]) rfl rfl (fun v' w'=>v'= .nilIface∧Below a.heap.size a w') ((Aa B a.drew (Aa F).drew).mono (fun r w' h=>⟨_,h.1,rfl,H.trans h.2⟩)) ?_));rintro i c ⟨rfl,v⟩;have x:=u.after v NLN;have I:=E.after v NLN;obtain ⟨-,-,-,-,Z⟩:=Gr x;have f:=o.trans (v.mono o.size))
   |((first | refine BO rfl 99 _ Tryz.func99 m n _ _ _ rfl (.iface T U) (.func (.func 63) #[.pointer (some ⟨b,0,none⟩)] #[]) rfl rfl (fun v' w'=>v'=(.iface W X)∧Below c.heap.size c w') ((Aa C c ((Aa t).trans (f.mono hB))).mono (fun r w' h=>⟨_,h.1,rfl,h.2⟩)) ?_ | (have:=S;refine BO rfl 99 _ Tryz.func99 m n _ _ _ rfl .nilIface (.func (.func 63) #[.pointer (some ⟨b,0,none⟩)] #[]) rfl rfl (fun v' w'=>v'= .nilIface∧Below c.heap.size c w') ((Aa C c ((Aa t).trans (f.mono hB))).mono (fun r w' h=>⟨_,h.1,rfl,h.2⟩)) ?_));rintro l w2 ⟨rfl,y⟩;have p:=x.after y NLN;have J:=I.after y NLN;obtain ⟨-,-,-,aa,ab⟩:=Gr p;have ac:=fun k=>p.frozen k;have K:=f.trans (y.mono f.size)))
 all_goals
  clear aa ab ac Z d Y;refine Ac4 (P:=Exit.then _ _ _ _) p J K L ?_;clear p J K x I f u E o;intro ak ad z ae;obtain ⟨al,ao,q2,q3,q4⟩:=Gr ad;obtain ⟨ap,aq,ar,au,av⟩:=Gr z;have aw:=fun k=>z.frozen k;go_wp2_with fail
  refine Aeb z ae (fun V af ag ah ai aj=>?_) (fun V h=>⟨rfl,h⟩);simp[results,Tryz.results62,go_sem,af,ag,ah,ai,aj]
theorem SJ (D:List Dc)(o:Option Ex):Zp (Bu o) (Bu (o.map (Ia D))):=by
 cases o with
 |none=>exact .inl ⟨trivial,rfl,rfl⟩
 |some e=>obtain ⟨t,u,h⟩:=e.form;obtain ⟨s,o,k⟩:=(Ia D e).form;exact .inr ⟨t,u,s,o,h,k⟩
def Pi (D:List Dc) (o:Option Ex):Option Ex:=o.map (Ia D)
def Sm (D:List Dc) (x:Sx):Sx:=⟨x.at',x.kind,x.name,Pi D x.cond,Pi D x.grant⟩
theorem SK (b mb:Nat)(D:List Dc)(a:World)(hc:a.cell? ⟨b,0,none⟩=some (.map (some mb)))(d:b < a.heap.size)(f:Di a mb D)(x:Sx)(w:World)(g:Below a.heap.size a w):
  Calls Tryz.prog 62 #[.agg #[.int .i64 x.at',.int .i64 x.kind,.string x.name,Bu x.cond,Bu x.grant],.func (.func 63) #[.pointer (some ⟨b,0,none⟩)] #[]] w fun r w'=>r= .returned (.agg #[.int .i64 x.at',.int .i64 x.kind,.string x.name,Bu (Pi D x.cond),Bu (Pi D x.grant)])∧Below w.heap.size w w':=by
 have c:∀ o:Option Ex,U7 b a (Bu o) (Bu (Pi D o)):=fun o=>by
  cases o with
  |none=>exact SE b a
  |some e=>exact Dl b mb D a hc d f e
 exact SH b a x.at' x.kind x.name (SJ D x.cond) (SJ D x.grant) (Ab (c _)) (Ab (c _)) w g
set_option maxHeartbeats 3200000
theorem WZ:(Tryz.prog.info? 60).map (fun i=>(i.zero,i.size,i.bytes))=some (some (.agg #[.int .i64 0,.string ByteArray.empty,.int .i64 0,.int .i64 0]),4,40):=by kernel_rfl
def AeZ (S:List Sx) (w:World) (r:Ending) (w':World):Prop:=
 (∃ nd pl nv kv sv,r= .returned (.tuple #[.agg #[nd,sv],pl])∧Bt w' w.heap.size nd (AK 0 S) nv kv∧w'.ownsRow w.heap.size 60 4 sv S.length (Cy (Cu 0 S))∧w'.ownsRow w.heap.size 3 1 pl (Dm S).length (Ar (Dm S))∧(∀ q,pl.ownBlock=some q→∀ j,(hj:j < kv.length)→kv[j].ownBlock≠some q))∧Below w.heap.size w w'
theorem Kg (o:Option Ex):(Bu o).oneCell'=true:=by
 cases o with
 |none=>rfl
 |some e=>obtain ⟨t,u,h⟩:=Ex.form e;rw[Bu,h];rfl
theorem Nv (S:List Sx)(g m c:Nat)(aP:Array Value)(w:World)(aQ:S.length=m)(R:Al w g aP 119)(aR:∀ (r:Nat) (u:Value),(Hj S)[r]? =some u→aP[r]? =some u)(aS:∀ x∈S,Jt w x.cond∧Jt w x.grant)(aT:CI S≤65535)(b0:m≤65535):
  Calls Tryz.prog 53 #[.slice (some ⟨g,0,none⟩) m c] w (AeZ S w):=by
 have ap:=Ab aQ;have bp:=Ab aR;have bq:=Ab aT;have br:=Ab aS;obtain ⟨bs,bt,bu,bv,bw⟩:=info_parts WZ;have aU:=(Below.refl w.heap.size w).alloc NLN (.cells #[.slice none 0 0,.slice none 0 0] 36);have aq:=aU.alloc aU.size (.cells #[.slice none 0 0,.slice none 0 0] 147);have bx:=(Al.new w #[.slice none 0 0,.slice none 0 0] 36).alloc (.cells #[.slice none 0 0,.slice none 0 0] 147);have ar:=Al.new (w.alloc (.cells #[.slice none 0 0,.slice none 0 0] 36)) #[.slice none 0 0,.slice none 0 0] 147;simp only[World.size_alloc] at ar;have bz:My ((w.alloc (.cells #[.slice none 0 0,.slice none 0 0] 36)).alloc (.cells #[.slice none 0 0,.slice none 0 0] 147)) w.heap.size (w.heap.size+1) [] [] (.slice none 0 0) (.slice none 0 0) [] []:=⟨ar,Bt.nil _ _,World.ownsRow_nil _ _ _ _,(fun q hq=>by cases hq),zJ _⟩
 have bA:(Tryz.f87.name== "runtime.NumGoroutine")=false:=by kernel_rfl
 have bB: Tryz.f87.body.isNone=false:=by kernel_rfl
 clear aQ aR aT aS ar;go_enter Tryz.func53,Tryz.ntmps53
 go_wp2_with fail
 go_loopw [5,11] (fun v i wr=>∃ (k:Nat) (nd L:Value) (s t:List Value),k≤m∧i= .int .i64 k∧wr.ownsRow w.heap.size 60 4 v k (Cy (Cu 0 (S.take k)))∧My wr w.heap.size (w.heap.size+1) (AK 0 (S.take k)) (Dm (S.take k)) nd L s t∧Al wr w.heap.size #[.slice none 0 0,.slice none 0 0] 36∧Below w.heap.size w wr) (fun _ i _=>m - (intOf i).toNat)
 case atStart=>exact ⟨0,_,_,_,_,by omega,rfl,World.ownsRow_nil _ _ _ _,bz,bx,aq⟩
 case round=>
  obtain ⟨k,nd,L,s,t,hk,rfl,y,a,PR,A⟩:=hrel;by_cases N:k < m
  ·have b3:(k:Int) < (m:Int):=by omega
   have ae:k < S.length:=by rw[Aa ap];exact N
   have aV:=R.after A NLN;have B:∀ r,r < 5→∀ u,(Nq S[k])[r]? =some u→wr.cell? ⟨g,k * 5+r,none⟩=some u:=fun r bC u af=>by
    rw[aV.cell];refine Aa bp _ _ ?_;rw[Nr S k ae r bC];exact af
   have c0:=B 0 (by decide) _ rfl;have c1:=B 1 (by decide) _ rfl;have c2:=B 2 (by decide) _ rfl;have c3:=B 3 (by decide) _ rfl;have c4:=B 4 (by decide) _ rfl;simp only[zZ] at c0;have au:S.take (k+1)=S.take k ++ [S[k]]:=zf ae;have bD:(S.take k).length=k:=by rw[zb];omega
   have av:CI (S.take k)+(AH S[k].cond+AH S[k].grant)≤65535:=by
    have h1:=Aa bq;have h2:S=S.take (k+1) ++S.drop (k+1):=(z1 _ _).symm;rw[h2,au,JS,JS,Bp] at h1;omega
   have ag:=k9 S[k] (S.take k) 0;have aw:=Lw S[k] (S.take k);have eT:=IP S[k] (S.take k) 0;rw[← au] at ag aw eT;rw[zX,← Do (S.take k) 0] at ag eT;have ax:(AK 0 (S.take k)).length+(AH S[k].cond+AH S[k].grant)≤65535:=by rw[Do];exact av
   have ay:(Dm (S.take k)).length+(AH S[k].cond+AH S[k].grant)≤65535:=by rw[GB];exact av
   have az:=Qh (Cu 0 (S.take k)) ⟨S[k].kind,S[k].name,Gp S[k].cond (AK 0 (S.take k)).length,Gp S[k].grant ((AK 0 (S.take k)).length+AH S[k].cond)⟩;rw[← eT] at az;have C:=Ab (And.intro ag (And.intro aw az));obtain ⟨aW,aX⟩:=Aa br S[k] (zO ae);have aA:=Ab (And.intro aW aX);have aY:=Ab N;have b5:=aV.lt;clear B ag aw eT az au bD av aW aX N;generalize S[k]=x at c0 c1 c2 c3 c4 ax ay C aA;dsimp only at C;have E:=Ab (show ∀ v z F H O P,z.ownsRow w.heap.size 60 4 v (k+1) (Cy (Cu 0 (S.take k)) ++ [.int .i64 x.kind,.string x.name,.int .i64 (Gp x.cond (AK 0 (S.take k)).length),.int .i64 (Gp x.grant ((AK 0 (S.take k)).length+AH x.cond))])→My z w.heap.size (w.heap.size+1) (AK 0 (S.take k) ++Gv x.cond (AK 0 (S.take k)).length ++Gv x.grant ((AK 0 (S.take k)).length+AH x.cond)) (Dm (S.take k) ++Mw x.cond ++Mw x.grant) F H O P→z.ownsRow w.heap.size 60 4 v (k+1) (Cy (Cu 0 (S.take (k+1))))∧My z w.heap.size (w.heap.size+1) (AK 0 (S.take (k+1))) (Dm (S.take (k+1))) F H O P from fun v z F H O P h1 h2=>by
    obtain ⟨e1,e2,e3⟩:=Aa C;rw[e1,e2,e3];exact ⟨h1,h2⟩)
   generalize Cy (Cu 0 (S.take k))=aq at y E;generalize AK 0 (S.take k)=M at a E ax ay C;generalize Dm (S.take k)=Q at a E ax ay C;clear C ae;obtain ⟨q3,ah⟩:∃ v,v=Bu x.cond:=⟨_,rfl⟩
   obtain ⟨q4,ai⟩:∃ v,v=Bu x.grant:=⟨_,rfl⟩
   rw[← ah] at c3;rw[← ai] at c4;have aB:=A.alloc A.size (.cells #[.int .i64 x.at',.int .i64 x.kind,.string x.name,q3,q4] 119);have aj:=(Below.refl wr.heap.size wr).alloc NLN (.cells #[.int .i64 x.at',.int .i64 x.kind,.string x.name,q3,q4] 119);have aZ:=Al.new wr #[.int .i64 x.at',.int .i64 x.kind,.string x.name,q3,q4] 119;have aC:=Ab (Aeu w.heap.size (w.heap.size+1) w NLN x.cond (Aa aA).1 M Q nd L s t _ aB (a.below aj) (by omega) (by omega));have T:=Ab (fun nd L s t W (bE:Below w.heap.size w W) h=>Aeu w.heap.size (w.heap.size+1) w NLN x.grant (Aa aA).2 (M ++Gv x.cond M.length) (Q ++Mw x.cond) nd L s t W bE h (by rw[zA,IZ];omega) (by rw[zA,Ki];omega));have a0:(M ++Gv x.cond M.length).length=M.length+AH x.cond:=by rw[zA,IZ]
   rw[a0] at T;rw[← ah] at aC;rw[← ai] at T;have a3:=Kg x.cond;have a4:=Kg x.grant;rw[← ah] at a3;rw[← ai] at a4;have ak:=World.ownsRow.alloc y (.cells #[.int .i64 x.at',.int .i64 x.kind,.string x.name,q3,q4] 119);have o:=a.below aj;have n:=PR.after aj NLN;clear ah ai aj a0;go_wp2_with fail
   rw[run_store _ _ _ _ _ a3];go_simp
   rw[run_store _ _ _ _ _ a4];go_simp
   go_wp2_with fail
   refine (Aa aC).mono ?_;rintro r w2 ⟨rfl,bF,bG,bH,bI,a5,U⟩;have a6:=U.row o aZ (by decide) (by decide) (by decide);have I:=U.row o n (by decide) (by decide) (by decide);have aD:=U.stm o ak;have aE:=aB.trans U.low;clear U o aZ n ak aB aC c0 c1 c2 c3 c4;generalize Gp x.cond M.length=al at E ⊢;generalize Gp x.grant (M.length+AH x.cond)=V at E T;obtain ⟨f,l,rfl,_⟩:=Ad aD;have X:=a5.below (Gi w2);have Y:=a6.after (Gi w2) NLN;have a7:=I.after (Gi w2) NLN;have a8:=Ac (w':=w2.drew) aD (fun q hq=>rfl);have aF:=aE.trans ((Gi w2).mono aE.size);have a9:=Ab ((Aa T _ _ _ _ _ aF X).mono (R':=fun e w'=>∃ v,e= .returned v∧(v= .int .i64 V∧∃ F H O P,My w' w.heap.size (w.heap.size+1) (M ++Gv x.cond M.length ++Gv x.grant (M.length+AH x.cond)) (Q ++Mw x.cond ++Mw x.grant) F H (s ++bH ++O) (t ++bI ++P)∧Nk w.heap.size (w.heap.size+1) bF bG w2.drew F H w')) (fun r w' h=>⟨_,h.1,rfl,h.2⟩));have b1:w2.drew.cell? ⟨wr.heap.size,1,none⟩=some (.int .i64 x.kind):=Y.cell 1;have b2:w2.drew.cell? ⟨wr.heap.size,2,none⟩=some (.string x.name):=Y.cell 2;have b4:w2.drew.cell? ⟨wr.heap.size,4,none⟩=some q4:=Y.cell 4;clear a5 a6 I aD aE T;dsimp only;go_wp2_with fail
   apply Adq
   ·intro bJ;go_region_law (first
     |(refine BO rfl 87 _ Tryz.func87 bA bB _ _ _ rfl (.pointer (some ⟨w.heap.size+1,0,none⟩)) q4 rfl rfl _ (Aa a9) ?_;rintro b6 Z ⟨rfl,Lk,aG,ba,bb,bc,aa⟩;have aH:=aa.row X Y (by decide) (by decide) (by decide);have ao:=aa.row X a7 (by decide) (by decide) (by decide);have ab:=aa.stm X a8;have ac:=aF.trans aa.low;have a1:Z.cell? ⟨wr.heap.size,1,none⟩=some (.int .i64 x.kind):=aH.cell 1;have a2:Z.cell? ⟨wr.heap.size,2,none⟩=some (.string x.name):=aH.cell 2;have bd:=World.news_of_block (heap_alloc_new Z (.cells #[.int .i64 x.kind,.string x.name,.int .i64 al,.int .i64 V] 60));have bf:=World.ownsRow.alloc ab (.cells #[.int .i64 x.kind,.string x.name,.int .i64 al,.int .i64 V] 60))
     |(refine step_append_lies _ rfl _ _ 23 rfl w.heap.size 60 bs (.agg #[.int .i64 0,.string ByteArray.empty,.int .i64 0,.int .i64 0]) 4 40 Tryz.underlying23 bt bu bv bw rfl (by decide) (.slice f k l) k aq rfl bf ⟨Z.heap.size,0,none⟩ 1 1 [.int .i64 x.kind,.string x.name,.int .i64 al,.int .i64 V] rfl rfl bd (by intro u af;simp at af;rcases af with rfl | rfl | rfl | rfl <;> rfl) (by decide) (by unfold maxLen;omega) (by omega) (by have:=ac.size;simp;omega) _ rfl ?_;intro g7 c7 aI bg aJ hat N))
    all_goals
     have aK:=Bd aJ;have bh:=bc.other ab aK;have bi:Al aI w.heap.size #[.slice none 0 0,.slice none 0 0] 36:=⟨(aK _ ao.lt (Ae ao ab (by decide))).trans ao.out⟩
     have bj:=(ac.alloc ac.size (.cells #[.int .i64 x.kind,.string x.name,.int .i64 al,.int .i64 V] 60)).grown aJ (by have:=ac.size;simp;omega) (fun q hq=>(ab.lt q hq).1);have J:=Ab (And.intro (Aa E _ _ _ _ _ _ bg bh) (And.intro bi bj));clear aK bh bi bj bg aJ hat N bd bf ab a1 a2 ac aH ao bc aa;generalize Z.heap.size=h5;revert J;revert bb;revert ba;revert aG;revert Lk;revert aI;revert c7;revert g7;revert h5;exact bJ.out
   intro h5 g7 c7 aI Lk aG ba bb J;clear b1 b2 b4 X Y a7 a8 aF a9;go_wp2_with fail
   go_roundw
   case rel=>exact ⟨k+1,Lk,aG,_,_,Aa aY,by go_num,(Aa J).1.1,(Aa J).1.2,(Aa J).2.1,(Aa J).2.2⟩
   case measure=>have:=Aa aY;simp[intOf];omega
  ·have e:k=m:=by omega
   subst e;have eT:S.take k=S:=by rw[← Aa ap,z3]
   rw[eT] at y a;obtain ⟨f,l,rfl,_⟩:=Ad y;obtain ⟨b,d,rfl,_⟩:=Ad a.nodes.own;obtain ⟨aL,aM,rfl,_⟩:=Ad a.places;have o:=a.below (Gi wr);have n:=PR.after (Gi wr) NLN;have ak:=Ac (w':=wr.drew) y (fun q hq=>rfl);have bK:=A.trans ((Gi wr).mono A.size);have bL:wr.drew.cell? ⟨w.heap.size+1,0,none⟩=some (.slice b (AK 0 S).length d):=o.row.cell 0;have bM:wr.drew.cell? ⟨w.heap.size+1,1,none⟩=some (.slice aL (Dm S).length aM):=o.row.cell 1;have bN:wr.drew.cell? ⟨w.heap.size,0,none⟩=some (.slice none 0 0):=n.cell 0;have bO:wr.drew.cell? ⟨w.heap.size,1,none⟩=some (.slice none 0 0):=n.cell 1;have bP:=n.frozen 0;have bQ:=n.frozen 1;have I:=n.set 0 (.slice b (AK 0 S).length d);have bR:(wr.drew.setCell ⟨w.heap.size,0,none⟩ (.slice b (AK 0 S).length d)).cell? ⟨w.heap.size,1,none⟩=some (.slice none 0 0):=I.cell 1;have bS:=I.frozen 1;have bT:wr.cell? ⟨w.heap.size+1,0,none⟩=some (.slice b (AK 0 S).length d):=a.row.cell 0;have bU:wr.cell? ⟨w.heap.size+1,1,none⟩=some (.slice aL (Dm S).length aM):=a.row.cell 1;have bV:wr.cell? ⟨w.heap.size,0,none⟩=some (.slice none 0 0):=PR.cell 0;have bW:wr.cell? ⟨w.heap.size,1,none⟩=some (.slice none 0 0):=PR.cell 1;have bX:=PR.frozen 0;have bY:=PR.frozen 1;clear bR bS;go_wp2_with fail
   go_region_law fail
   all_goals
    have K:∀ q,q≠w.heap.size→((wr.setCell ⟨w.heap.size,0,none⟩ (.slice b (AK 0 S).length d)).setCell ⟨w.heap.size,1,none⟩ (.slice f k l)).heap[q]? =wr.heap[q]? :=fun q hq=>(heap_setCell_other _ ⟨w.heap.size,1,none⟩ q _ hq).trans (heap_setCell_other wr ⟨w.heap.size,0,none⟩ q _ hq);have aN:=(PR.set 0 (.slice b (AK 0 S).length d)).set 1 (.slice f k l);have bk:((wr.setCell ⟨w.heap.size,0,none⟩ (.slice b (AK 0 S).length d)).setCell ⟨w.heap.size,1,none⟩ (.slice f k l)).cell? ⟨w.heap.size,0,none⟩=some (.slice b (AK 0 S).length d):=aN.cell 0;have bl:((wr.setCell ⟨w.heap.size,0,none⟩ (.slice b (AK 0 S).length d)).setCell ⟨w.heap.size,1,none⟩ (.slice f k l)).cell? ⟨w.heap.size,1,none⟩=some (.slice f k l):=aN.cell 1;have aO:=(A.setCell (p:=⟨w.heap.size,0,none⟩) NLN (.slice b (AK 0 S).length d)).setCell (p:=⟨w.heap.size,1,none⟩) NLN (.slice f k l);have bm:=a.nodes.upto (fun q hq=>K q (fun e=>Ae PR a.nodes.own (by decide) (by rw[hq,e]))) (fun j ad q hq=>K q (fun e=>Ae PR (a.nodes.names j (by rw[← a.nodes.len];exact ad) ad) (by decide) (by rw[hq,e]))) (fun j ad q hq=>K q (fun e=>Ae PR (a.nodes.kids j (by rw[← a.nodes.lenk];exact ad) ad) (by decide) (by rw[hq,e])));have bn:=Ac y (fun q hq=>K q (fun e=>Ae PR y (by decide) (by rw[hq,e])));have bo:=Ac a.places (fun q hq=>K q (fun e=>Ae PR a.places (by decide) (by rw[hq,e])));have bZ:=a.apart;clear K aN bL bM bT bU bN bO bV bW bP bQ bX bY I n o ak bK;generalize (wr.setCell ⟨w.heap.size,0,none⟩ (.slice b (AK 0 S).length d)).setCell ⟨w.heap.size,1,none⟩ (.slice f k l)=z at bk bl aO bm bn bo ⊢;go_wp2_with fail
    refine bodyPost_ret (v:= .tuple #[.agg #[.slice b (AK 0 S).length d,.slice f k l],.slice aL (Dm S).length aM]) (by simp[results,Tryz.results53,go_sem,bk,bl]) rfl ⟨⟨_,_,s,t,_,rfl, ?_, ?_, ?_,bZ⟩, ?_⟩
    ·exact bm.blocks (fun q _ _=>rfl)
    ·rw[Aa ap];exact Ac bn (fun q hq=>rfl)
    ·exact Ac bo (fun q hq=>rfl)
    ·exact aO.trans ((Gi z).mono aO.size)
theorem CA {w:World}{B a:Nat}{e:TypeId}{size n:Nat}{v:Value}{b:List Value}(h:w.ownsRow B e size v n b)(hB:a≤B):w.ownsRow a e size v n b:=by
 refine ⟨h.1, ?_⟩;rcases h.2 with q | ⟨g,cap,c,h1,h2,h3⟩
 ·exact .inl q
 ·exact .inr ⟨g,cap,c,h1,zD hB h2,h3⟩
theorem Bt.low {w:World}{lo d:Nat}{v:Value}{N:List Nd}{f g:List Value}(h:Bt w lo v N f g)(a:d≤lo):Bt w d v N f g:=
 ⟨h.len,h.lenk,CA h.own a,fun j b c=>CA (h.names j b c) a,fun j b c=>CA (h.kids j b c) a,h.apart,h.apartk⟩
set_option maxHeartbeats 1600000
theorem GP {w w':World}{B:Nat}(a:Below B w w')(hB:w.heap.size≤B)(o:Option Ex)(h:Jt w o):Jt w' o:=by
 cases o with
 |none=>trivial
 |some e=>exact Ex.sok_below a hB e h
def TdA (S:List Sx) (a:Option Addr) (k f:Nat) (w:World) (r:Ending) (w':World):Prop:=
 (∃ nd pl nv kv sv,r= .returned (.agg #[nd,sv,.slice a k f])∧Bt w' w.heap.size nd (AK 0 S) nv kv∧w'.ownsRow w.heap.size 60 4 sv S.length (Cy (Cu 0 S))∧w'.ownsRow w.heap.size 3 1 pl (Dm S).length (Ar (Dm S)))∧Below w.heap.size w w'
theorem SL (S:List Sx)(g m c:Nat)(o:Array Value)(a:Option Addr)(k f:Nat)(w:World)(A:S.length=m)(R:Al w g o 119)(B:∀ (r:Nat) (u:Value),(Hj S)[r]? =some u→o[r]? =some u)(s:∀ x∈S,Jt w x.cond∧Jt w x.grant)(C:CI S≤65535)(E:m≤65535):
  Calls Tryz.prog 64 #[.slice (some ⟨g,0,none⟩) m c,.slice a k f] w (TdA S a k f w):=by
 have j:=(Below.refl w.heap.size w).alloc NLN (.cells #[.slice none 0 0,.slice none 0 0,.slice none 0 0] 26);have J:=Al.new w #[.slice none 0 0,.slice none 0 0,.slice none 0 0] 26;have F:=Ab (Nv S g m c o (w.alloc (.cells #[.slice none 0 0,.slice none 0 0,.slice none 0 0] 26)) A (R.after j NLN) B (fun x hx=>⟨GP j NLN _ (s x hx).1,GP j NLN _ (s x hx).2⟩) C E);clear s B R C E A;go_enter Tryz.func64,Tryz.ntmps64
 go_wp2_with fail
 refine (Aa F).mono ?_;rintro r t ⟨⟨nd,W,X,Y,Z,rfl,n,i,l,K⟩,y⟩;have H:=j.trans (y.mono j.size);have L:=J.after y NLN;obtain ⟨b,d,rfl,_⟩:=Ad n.own;obtain ⟨h,cs,rfl,_⟩:=Ad i;clear F y K;have I:(w.alloc (.cells #[.slice none 0 0,.slice none 0 0,.slice none 0 0] 26)).heap.size=w.heap.size+1:=by simp
 rw[I] at n i l;have z:=L.alloc (.cells #[.slice b (AK 0 S).length d,.slice h S.length cs] 36);have M:=H.alloc H.size (.cells #[.slice b (AK 0 S).length d,.slice h S.length cs] 36);have kp:∀ q,w.heap.size+1≤q→q < t.heap.size→((((t.alloc (.cells #[.slice b (AK 0 S).length d,.slice h S.length cs] 36)).setCell ⟨w.heap.size,0,none⟩ (.slice b (AK 0 S).length d)).setCell ⟨w.heap.size,1,none⟩ (.slice h S.length cs)).setCell ⟨w.heap.size,2,none⟩ (.slice a k f)).heap[q]? =t.heap[q]? :=fun q h1 h2=>by
  rw[heap_setCell_other _ _ q _ (by show q≠w.heap.size;omega),heap_setCell_other _ _ q _ (by show q≠w.heap.size;omega),heap_setCell_other _ _ q _ (by show q≠w.heap.size;omega),Below.heap_alloc _ _ q h2]
 have N:=Ab ((n.blocks kp).low (zJ w.heap.size));have O:=Ab (CA (Ac i (fun q hq=>kp q (i.lt q hq).1 (i.lt q hq).2)) (zJ w.heap.size));have P:=Ab (CA (Ac l (fun q hq=>kp q (l.lt q hq).1 (l.lt q hq).2)) (zJ w.heap.size));clear kp n i l I;have Q:=((z.set 0 (.slice b (AK 0 S).length d)).set 1 (.slice h S.length cs)).set 2 (.slice a k f);have T:=((M.setCell (p:=⟨w.heap.size,0,none⟩) NLN (.slice b (AK 0 S).length d)).setCell (p:=⟨w.heap.size,1,none⟩) NLN (.slice h S.length cs)).setCell (p:=⟨w.heap.size,2,none⟩) NLN (.slice a k f);generalize (AK 0 S).length=U at *;obtain ⟨c0,c1,c2,_⟩:=Cd z;have aa:=fun k=>z.frozen k;dsimp only;go_wp2_with fail
 obtain ⟨V,e1,e2,_⟩:=Cd Q;exact bodyPost_ret (v:= .agg #[.slice b U d,.slice h S.length cs,.slice a k f]) (by simp[results,Tryz.results64,go_sem,V,e1,e2]) rfl ⟨⟨_,_,_,_,_,rfl,Aa N,Aa O,Aa P⟩,T⟩
def mx (a b:Int):Int:=if a < b then b else a
def Cj:Ex→Int
 | .un _ _ k=>mx 0 (Cj k)+1
 | .bin _ _ l r=>mx (mx 0 (Cj l)) (Cj r)+1
 | .ite _ c t e=>mx (mx (mx 0 (Cj c)) (Cj t)) (Cj e)+1
 |_=>1
def JZ:Option Ex→Int
 |none=>0
 |some e=>Cj e
theorem F7 (a b:Int):a≤mx a b∧b≤mx a b∧(mx a b=a∨mx a b=b):=by unfold mx;split <;> omega
theorem Bf:∀ (e:Ex),1≤Cj e∧Cj e≤(e.cnt:Int)
 | .int .. =>by simp[Cj,Ex.cnt]
 | .text .. =>by simp[Cj,Ex.cnt]
 | .bool .. =>by simp[Cj,Ex.cnt]
 | .set .. =>by simp[Cj,Ex.cnt]
 | .name .. =>by simp[Cj,Ex.cnt]
 | .attr .. =>by simp[Cj,Ex.cnt]
 | .lett .. =>by simp[Cj,Ex.cnt]
 | .un _ _ k=>by
  have h1:=Bf k;have a:=F7 0 (Cj k);simp only[Cj,Ex.cnt];omega
 | .bin _ _ l r=>by
  have h1:=Bf l;have h2:=Bf r;have a:=F7 0 (Cj l);have b:=F7 (mx 0 (Cj l)) (Cj r);simp only[Cj,Ex.cnt];omega
 | .ite _ c t e=>by
  have h1:=Bf c;have h2:=Bf t;have h3:=Bf e;have a:=F7 0 (Cj c);have b:=F7 (mx 0 (Cj c)) (Cj t);have d:=F7 (mx (mx 0 (Cj c)) (Cj t)) (Cj e);simp only[Cj,Ex.cnt];omega
def DpA (d:Int) (w:World) (r:Ending) (w':World):Prop:=r= .returned (.int .i64 d)∧Below w.heap.size w w'
theorem Ya (w:World):Calls Tryz.prog 88 #[.nilIface] w (DpA 0 w):=by
 go_enter Tryz.func88,Tryz.ntmps88
 go_wp2_with fail
 go_ret
 exact ⟨rfl,BRN⟩
theorem Aad (e:Ex):Cj e=e.kids.foldl (fun a k=>mx a (Cj k)) 0+1:=by cases e <;> rfl
theorem Yb (T:TypeId)(v:Value)(K:List Ex)(hk:KdX T v (K.map Ex.val))(B:K.length≤3)(hB:∀ k∈K,1≤Cj k∧Cj k≤65535)(V:∀ k∈K,∀ w,Calls Tryz.prog 88 #[k.val] w (DpA (Cj k) w))(w:World):Calls Tryz.prog 88 #[.iface T v] w (DpA (K.foldl (fun a k=>mx a (Cj k)) 0+1) w):=by
 obtain ⟨O,P,Q,hk,f,b⟩:=hk;have C:=Ab (Js f.1 f.2.1 f.2.2);have b:=Ab b;have E:=Ab V;have F:=Ab hB;obtain ⟨m,i⟩:∃ m,m=K.length:=⟨_,rfl⟩
 have R:m≤3:=by omega
 have o:=Ab i;have p:(K.map Ex.val).length=m:=by rw[zV,i]
 unfold KdA at b;rw[p] at b;clear i f p B V hB;go_enter Tryz.func88,Tryz.ntmps88
 go_wp2_with fail
 rw[Aa C,Oper.upon_enter];refine (Aa b _).mono ?_;rintro r S ⟨a,rfl,H,I⟩;dsimp only;go_wp2_with fail
 go_loopw [3,11] (fun J j wr=>∃ (k:Nat) (x:Int),k≤m∧j= .int .i64 k∧J= .int .i64 x∧(0≤x∧x≤65535)∧Hid (x=(K.take k).foldl (fun a k=>mx a (Cj k)) 0)∧KdR w.heap.size wr a (K.map Ex.val)∧Below w.heap.size w wr) (fun _ j _=>m - (intOf j).toNat)
 case atStart=>exact ⟨0,0,zF _,rfl,rfl,by omega,Ab rfl,H,I⟩
 case round=>
  obtain ⟨k,x,U,rfl,rfl,hx,l,q,b2⟩:=hrel;by_cases n:k < m
  ·have W:(k:Int) < (m:Int):=by omega
   have c:k < K.length:=by rw[← Aa o];exact n
   obtain ⟨g,rfl,s⟩:=q.at (k:=k) (by rw[zV];exact c);rw[List.getElem_map] at s;obtain ⟨t,u,ev⟩:=K[k].form;have h:=Aa E K[k] (zO c);have L:=Aa F K[k] (zO c);rw[ev] at s h;have y:=Ab (show mx x (Cj K[k])=(K.take (k+1)).foldl (fun a k=>mx a (Cj k)) 0 by rw[zf c,zt,← Aa l];rfl);generalize Cj K[k]=d at h L y;have M:=Ab h;have z:=Ab n;clear h ev l c n;go_wp2_with fail
   refine (Aa M _).mono ?_;rintro r X ⟨rfl,b3⟩;have N:=q.keep fun g cs _ r=>r.after b3 NLN;have b4:=b2.trans (b3.mono b2.size);dsimp only;go_wp2_with fail
   all_goals
    go_roundw
    case rel=>exact ⟨k+1,mx x d,Aa z,by go_num,by simp only[mx] <;> (repeat' split) <;> first | rfl | omega,by have:=F7 x d;omega,y,N,b4⟩
    case measure=>have:=Aa z;simp[intOf];omega
  ·have e:k=m:=by omega
   have A:=Aa l;rw[e,Aa o,z3] at A;go_wp2_with fail
   go_ret
   exact ⟨by rw[← A];rfl,b2⟩
theorem Qd (e:Ex)(h:e.cnt≤65535)(w:World):Calls Tryz.prog 88 #[e.val] w (DpA (Cj e) w):=by
 obtain ⟨T,v,b,hk,_⟩:=e.mth;rw[b,Aad];exact Yb T v e.kids hk e.kids_3 (fun k a=>by have:=Bf k;have:=e.kids_lt k a;omega) (fun k a=>Qd k (by have:=e.kids_lt k a;omega)) w
termination_by e.cnt
decreasing_by exact Ex.kids_lt _ _ (by assumption)
theorem Aae (o:Option Ex)(h:AH o≤65535)(w:World):Calls Tryz.prog 88 #[Bu o] w (DpA (JZ o) w):=by
 cases o with
 |none=>exact Ya w
 |some e=>exact Qd e h w
end Go.Proofs.YtchakjeegneeoaaGreatDoor
