import Derived.Test.YtppafecmccdplaaGreatMXAS
open Go.Proofs.Tryz
open Option renaming none->T,some->Y
open Go.Value renaming int->U,slice->X,string->Q
open Go.IntKind renaming i64->V
open Go renaming World->Z,Addr->jD
open Go.Proofs.Tryz renaming prog->jL
namespace Go.Proofs.YtppafecmccdplaaGreat
set_option maxRecDepth 100000
set_option maxHeartbeats 3200000
open Go.RowKit
set_option linter.unusedVariables false
set_option linter.unusedSimpArgs false
variable {ops:Array Oper}{k l:K5}{L:List I5}{r:List K5}{rest:List Oper}{b a:Nat}{o:Oper}{v:Value}{w w0:Z}
theorem Dx (e:Ex): 1<=Am e:=by
 cases e<;>simp only[Am]<;>first|omega|(split<;>omega)
theorem AO.at0 (h:AO w (Y ⟨b,a,T⟩) (k ::r)):w.cell? ⟨b,a,T⟩=Y (U V k.op)/\w.cell? ⟨b,a+1,T⟩=Y (U V k.num)/\w.cell? ⟨b,a+2,T⟩=Y (Q k.text)/\w.cell? ⟨b,a+3,T⟩=Y (X k.an k.nn k.cn)/\w.cell? ⟨b,a+4,T⟩=Y (X k.ka k.kn k.kc):=by
 obtain⟨c,d,e,_,hc⟩:=h 0 (by simp);cases e;have c0:=hc 0 (by decide);have c1:=hc 1 (by decide);have c2:=hc 2 (by decide);have c3:=hc 3 (by decide);have c4:=hc 4 (by decide);simp only[zw,ze]at c0 c1 c2 c3 c4;exact⟨c0,c1,c2,c3,c4⟩
theorem AO.at1 (h:AO w (Y ⟨b,a,T⟩) (k ::l ::r)):w.cell? ⟨b,a+5,T⟩=Y (U V l.op)/\w.cell? ⟨b,a+6,T⟩=Y (U V l.num)/\w.cell? ⟨b,a+7,T⟩=Y (Q l.text)/\w.cell? ⟨b,a+8,T⟩=Y (X l.an l.nn l.cn)/\w.cell? ⟨b,a+9,T⟩=Y (X l.ka l.kn l.kc):=by
 obtain⟨c,d,e,_,hc⟩:=h 1 (by simp);cases e;have c0:=hc 0 (by decide);have c1:=hc 1 (by decide);have c2:=hc 2 (by decide);have c3:=hc 3 (by decide);have c4:=hc 4 (by decide);simp only[Nat.one_mul,ze]at c0 c1 c2 c3 c4;exact⟨c0,c1,c2,c3,c4⟩
theorem AO.at2 {m:K5}(h:AO w (Y ⟨b,a,T⟩) (k ::l ::m ::r)):w.cell? ⟨b,a+10,T⟩=Y (U V m.op)/\w.cell? ⟨b,a+11,T⟩=Y (U V m.num)/\w.cell? ⟨b,a+12,T⟩=Y (Q m.text)/\w.cell? ⟨b,a+13,T⟩=Y (X m.an m.nn m.cn)/\w.cell? ⟨b,a+14,T⟩=Y (X m.ka m.kn m.kc):=by
 obtain⟨c,d,e,_,hc⟩:=h 2 (by simp);cases e;have c0:=hc 0 (by decide);have c1:=hc 1 (by decide);have c2:=hc 2 (by decide);have c3:=hc 3 (by decide);have c4:=hc 4 (by decide);simp only[Nat.reduceMul,ze]at c0 c1 c2 c3 c4;exact⟨c0,c1,c2,c3,c4⟩
theorem OG.two {w0:Z}{k l:J5}(h:Qh w0 k.a k.n k.c k.i.val.names)(h':Qh w0 l.a l.n l.c l.i.val.names):OG w0 [k,l]:=fun j b=>by
 simp only[zT,List.not_mem_nil,or_false]at b;rcases b with rfl|rfl<;>assumption
theorem DI {a:Act}{Q:Exit->Act->Z->Prop}{B:Nat}(hv:BY w0 B v L w)(K:List J5)(c:Array Value)(d:OG w0 K)(f:∀j u,(K.flatMap J5.cs)[j]? =Y u->(w.alloc (.cells c 113)).cell? ((⟨w.heap.size,0,T⟩:jD).add j)=Y u)(p:L.length+K.length<=4194304)(g:B<=w.heap.size)(k:o.guard=T)(s x:Operand)
  (l:o.op= .call { callee:= .builtin .append,args:=#[s,x],argTypes:=#[109,109] })(hs:a.eval s=v)(m:Nat)(hx:a.eval x=X (Y ⟨w.heap.size,0,T⟩) m m)(hm:K.length=m)
  (h:∀b n' c' w',BY w0 B (X b n' c') (L++K.map J5.i) w'->Below B w w'->wpList jL ops Q rest (a.put o.dst (X b n' c')) w'):wpList jL ops Q (o ::rest) a (w.alloc (.cells c 113)):=by
 have C:=AN w (.cells c 113);exact Lx k s x l w0 B v L hs (hv.below C) ⟨w.heap.size,0,T⟩ m m K hx hm d f (by omega) (by simp;omega) fun b n' c' w' q n=>h b n' c' w' q ((C.mono g).trans n)
theorem GG {a:Act}{Q:Exit->Act->Z->Prop}{B:Nat}{M:List I5}(hv:BY w0 B v L w){y:Option jD}{m c:Nat}(hu:BY w0 B (X y m c) M w)(h0: 0<m)(d:L.length+m<=4194304)(f:B<=w.heap.size)(i:o.guard=T)(s x:Operand)
  (j:o.op= .call { callee:= .builtin .append,args:=#[s,x],argTypes:=#[109,109] })(hs:a.eval s=v)(hx:a.eval x=X y m c)
  (h:∀b n' c' w',BY w0 B (X b n' c') (L++M) w'->Below B w w'->wpList jL ops Q rest (a.put o.dst (X b n' c')) w'):wpList jL ops Q (o ::rest) a w:=by
 obtain⟨b,c',e,k⟩:=hu.form;obtain⟨rfl,hm,rfl⟩:y=b/\m=M.length/\c=c':=by simpa using e
 obtain⟨g,K,rfl,rfl,l,n⟩:=k (by omega);exact Lx i s x j w0 B v L hs hv ⟨g,0,T⟩ m c K hx (by rw[hm,zU]) l n d f h
theorem Mn (w:Z)(a:Array Value)(t:TypeId):∃b,b=w.alloc (.cells a t)/\An w b/\Ah b w.heap.size a t:=⟨_,rfl,(Below.refl _ w).alloc NLN _,Ah.new w a t⟩
theorem Zg.below {w0 w w':Z}{e:Ex}(h:Zg w0 w k e)(B:An w w'):Zg w0 w' k e:=fun a b=>h a (B.trans (b.mono B.size))
theorem Vn.below {w':Z}{e:Ex}(h:Vn w k e)(B:An w w'):Vn w' k e:=fun a b=>h a (B.trans (b.mono B.size))
theorem Acb (w0:Z)(op num:Int)(text:ByteArray)(an:Option jD)(nn cn:Nat)(ka:Option jD)(kc:Nat)(y z:K5)(i:Int)(e0 e1:Ex)(al: 11<=op/\op<=24)(c:Nat)(o:c+Am (.bin i op e0 e1)<=1048576)(w:Z)(A:AO w ka [y,z])(J:Zg w0 w y e0)(K:Vn w y e0)(L:Zg w0 w z e1)(M:Vn w z e1):
  Calls jL 52 #[.agg #[U V op,U V num,Q text,X an nn cn,X ka 2 kc],U V c] w fun r w'=>(∃v,r= .returned v/\BY w0 w.heap.size v (Ar (.bin i op e0 e1) c) w')/\An w w':=by
 have B:=fun a=>AM e0 a;have l1:=fun a=>AM e1 a;have N:=Ab (show Ar (.bin i op e0 e1) c=Ar e0 c++Ar e1 (c+Am e0)++[(AQ (op-3) 0).i] by rw[Ar,if_neg (by omega),if_neg (by omega),B];rfl);rw[Aa N];clear N;rw[Am]at o;rw[if_neg (by omega)]at o;have O:=Ab (Vm op (by omega));have ay:(op==6)=false:=zA.2 (by omega);have az:(op==7)=false:=zA.2 (by omega);have aA:(op==25)=false:=zA.2 (by omega);have aB:(op==26)=false:=zA.2 (by omega);have aC:(op==27)=false:=zA.2 (by omega);obtain⟨b,P,rfl,_,_⟩:=A 0 (by simp);obtain⟨f,ao,d,p⟩:=Mn w #[U V op,U V num,Q text,X an nn cn,X (Y ⟨b,P,T⟩) 2 kc] 101;have C:=A.below d NLN;clear A;have D:=d.size;have q:=Ab (fun (h:Z) (E:An f h)=>J.below d h E (c) (by omega));have S:=Ab (K.below d);have m0:=B (c);generalize Ar e0 (c)=ap at q m0|-;have s:=Ab (fun (h:Z) (E:An f h)=>L.below d h E (c+Am e0) (by omega));have W:=Ab (M.below d);have F:=l1 (c+Am e0);generalize Ar e1 (c+Am e0)=aq at s F|-;clear J K B L M l1;have aD:=Dx e0;have aE:=Dx e1;simp only[Vn]at S W;generalize Am e0=ar at*;generalize Am e1=n1 at*;simp only[yC,Int.cast_ofNat_Int]at q s;have au:=Ab m0;have aF:ap.length<=1048576:=by omega
 have av:=Ab F;have aG:aq.length<=1048576:=by omega
 have aH:(c:Int)<=1048576:=by omega
 have aI:(ar:Int)<=1048576:=by omega
 have aJ:(n1:Int)<=1048576:=by omega
 have aK:=Ab o;subst ao;clear o m0 F;clear al;obtain⟨t,a1,a2,a3,a4⟩:=AO.at0 C;go_enter func52,ntmps52
 go_wp2_with fail
 generalize w.alloc (.cells #[U V op,U V num,Q text,X an nn cn,X (Y ⟨b,P,T⟩) 2 kc] 101)=f at d p C D t a1 a2 a3 a4 q S s W|-;have u:=Brw f;refine(Aa q _ u).mono ?_;rintro r aL ⟨⟨aM,rfl,G⟩,aa⟩;obtain⟨aN,c1,ab,_⟩:=G.form;rw[Aa au]at ab;subst ab;have g:=u.trans (aa.mono u.size);have ac:=G.low (B':=f.heap.size) u.size;clear t a1 a2 a3 a4 G aa;dsimp only;obtain⟨t,a1,a2,a3,a4⟩:=AO.at1 (C.below g NLN);obtain⟨j,k,l,m,n,_⟩:=Aq (p.after g NLN);go_wp2_with fail
 refine(Aa s _ g).mono ?_;rintro r w2 ⟨⟨aO,rfl,H⟩,I⟩;obtain⟨aP,c2,ad,_⟩:=H.form;rw[Aa av]at ad;subst ad;have ae:=g.trans (I.mono g.size);have af:=H.low (B':=f.heap.size) g.size;have ag:=ac.below I;clear ac;clear t a1 a2 a3 a4 H I;clear j k l m n;dsimp only;go_wp2_with (at_builtin;refine GG ag af (by omega) (by (try simp only[zB,zU,List.length_cons,List.length_nil]);omega) ae.size rfl _ _ rfl rfl rfl ?_)
 intro aQ aR c3 aS ah ai;have x:=ae.trans ai;clear ai ag af;obtain⟨j,k,l,m,n,_⟩:=Aq (p.after x NLN);go_wp2_with fail
 refine(Aa O _).mono ?_;rintro r wz ⟨rfl,aj⟩;rw[aj];clear aj O j k l m n;dsimp only;obtain⟨j,k,l,m,n,_⟩:=Aq (p.after x NLN);go_wp2_with (at_builtin;refine DI ah [AQ (op-3) (0)] _ (OG.one (Qh.none0 w0)) (DH _ (AQ (op-3) (0)) _ rfl) (by (try simp only[zB,zU,List.length_cons,List.length_nil]);omega) x.size rfl _ _ rfl rfl _ rfl rfl ?_)
 intro aT aU c4 aV aw ak;have ax:=x.trans ak;clear ak ah j k l m n;go_wp2
 go_ret
 exact⟨⟨_,rfl,by have:=aw.low D;simpa[List.append_assoc,AQ,Lj,Ax]using this⟩,d.trans (ax.mono D)⟩
theorem Acd (w0:Z)(num:Int)(text:ByteArray)(an:Option jD)(nn cn:Nat)(ka:Option jD)(kc:Nat)(A B:K5)(i:Int)(e0 e1:Ex)(c:Nat)(t:c+Am (.bin i 25 e0 e1)<=1048576)(w:Z)(C:AO w ka [A,B])(W:Zg w0 w A e0)(aa:Vn w A e0)(ab:Zg w0 w B e1)(ac:Vn w B e1):
  Calls jL 52 #[.agg #[U V 25,U V num,Q text,X an nn cn,X ka 2 kc],U V c] w fun r w'=>(∃v,r= .returned v/\BY w0 w.heap.size v (Ar (.bin i 25 e0 e1) c) w')/\An w w':=by
 have D:=fun a=>AM e0 a;have l1:=fun a=>AM e1 a;have ad:=Ab (show Ar (.bin i 25 e0 e1) c=Ar e0 c++[(AQ 23 ((c:Int)+(Am e0:Nat)+(Am e1:Nat)+2)).i]++Ar e1 (c+Am e0+1)++[(AQ 22 ((c:Int)+(Am e0:Nat)+(Am e1:Nat)+3)).i]++[(Lj 0).i] by rw[Ar,if_pos rfl];simp only[D,l1,yC];rfl);rw[Aa ad];clear ad;rw[Am]at t;rw[if_pos (by decide)]at t;obtain⟨b,ae,rfl,_,_⟩:=C 0 (by simp);obtain⟨m,aA,k,l⟩:=Mn w #[U V 25,U V num,Q text,X an nn cn,X (Y ⟨b,ae,T⟩) 2 kc] 101;have u:=C.below k NLN;clear C;have E:=k.size;have x:=Ab (fun (p:Z) (F:An m p)=>W.below k p F (c) (by omega));have af:=Ab (aa.below k);have m0:=D (c);generalize Ar e0 (c)=aB at x m0|-;have y:=Ab (fun (p:Z) (F:An m p)=>ab.below k p F (c+Am e0+1) (by omega));have G:=Ab (ac.below k);have H:=l1 (c+Am e0+1);generalize Ar e1 (c+Am e0+1)=aC at y H|-;clear W aa D ab ac l1;have aH:=Dx e0;have aI:=Dx e1;simp only[Vn]at af G;generalize Am e0=q at*;generalize Am e1=n1 at*;simp only[yC,Int.cast_ofNat_Int]at x y;have aD:=Ab m0;have aJ:aB.length<=1048576:=by omega
 have aE:=Ab H;have aK:aC.length<=1048576:=by omega
 have aL:(c:Int)<=1048576:=by omega
 have aM:(q:Int)<=1048576:=by omega
 have aN:(n1:Int)<=1048576:=by omega
 have aO:=Ab t;subst aA;clear t m0 H;obtain⟨n,a1,a2,a3,a4⟩:=AO.at0 u;go_enter func52,ntmps52
 go_wp2_with fail
 generalize w.alloc (.cells #[U V 25,U V num,Q text,X an nn cn,X (Y ⟨b,ae,T⟩) 2 kc] 101)=m at k l u E n a1 a2 a3 a4 x af y G|-;have z:=Brw m;refine(Aa x _ z).mono ?_;rintro r aP ⟨⟨aQ,rfl,I⟩,ag⟩;obtain⟨aR,c1,ah,_⟩:=I.form;rw[Aa aD]at ah;subst ah;have s:=z.trans (ag.mono z.size);have ai:=I.low (B':=m.heap.size) z.size;clear n a1 a2 a3 a4 I ag;dsimp only;obtain⟨n,a1,a2,a3,a4⟩:=AO.at1 (u.below s NLN);obtain⟨d,f,g,h,j,_⟩:=Aq (l.after s NLN);go_wp2_with fail
 refine(Aa G _ s).mono ?_;rintro r w2 ⟨rfl,J⟩;have K:=s.trans (J.mono s.size);have aj:=ai.below J;clear n a1 a2 a3 a4 d f g h j J ai;dsimp only;obtain⟨d,f,g,h,j,_⟩:=Aq (l.after K NLN);go_wp2_with (at_builtin;refine DI aj [AQ (23) ((c:Int)+q+n1+2)] _ (OG.one (Qh.none0 w0)) (DH _ (AQ (23) ((c:Int)+q+n1+2)) _ rfl) (by (try simp only[zB,zU,List.length_cons,List.length_nil]);omega) K.size rfl _ _ rfl rfl _ rfl rfl ?_)
 intro aS aT c3 aU ak al;have o:=K.trans al;clear al aj d f g h j;obtain⟨n,a1,a2,a3,a4⟩:=AO.at1 (u.below o NLN);obtain⟨d,f,g,h,j,_⟩:=Aq (l.after o NLN);go_wp2_with fail
 refine(Aa y _ o).mono ?_;rintro r aV ⟨⟨aW,rfl,L⟩,M⟩;obtain⟨aX,c4,ao,_⟩:=L.form;rw[Aa aE]at ao;subst ao;have ap:=o.trans (M.mono o.size);have aq:=L.low (B':=m.heap.size) o.size;have ar:=ak.below M;clear ak;clear n a1 a2 a3 a4 L M;clear d f g h j;dsimp only;go_wp2_with (at_builtin;refine GG ar aq (by omega) (by (try simp only[zB,zU,List.length_cons,List.length_nil]);omega) ap.size rfl _ _ rfl rfl rfl ?_)
 intro aY aZ c5 a0 au av;have N:=ap.trans av;clear av ar aq;obtain⟨d,f,g,h,j,_⟩:=Aq (l.after N NLN);go_wp2_with (at_builtin;refine DI au [AQ (22) ((c:Int)+q+n1+3)] _ (OG.one (Qh.none0 w0)) (DH _ (AQ (22) ((c:Int)+q+n1+3)) _ rfl) (by (try simp only[zB,zU,List.length_cons,List.length_nil]);omega) N.size rfl _ _ rfl rfl _ rfl rfl ?_)
 intro a5 a6 a7 a8 aw ax;have O:=N.trans ax;clear ax au d f g h j;obtain⟨d,f,g,h,j,_⟩:=Aq (l.after O NLN);go_wp2_with fail
 clear d f g h j;refine(Qi 0 _).mono ?_;rintro r a9 ⟨rfl,P⟩;have S:=O.trans (P.mono O.size);have ay:=aw.below P;clear P aw;dsimp only;obtain⟨d,f,g,h,j,_⟩:=Aq (l.after S NLN);go_wp2_with (at_builtin;refine DI ay [Lj 0] _ (OG.one (Qh.none0 w0)) (DH _ (Lj 0) _ rfl) (by (try simp only[zB,zU,List.length_cons,List.length_nil]);omega) S.size rfl _ _ rfl rfl _ rfl rfl ?_)
 intro ba bb bc bd aF az;have aG:=S.trans az;clear az ay d f g h j;go_wp2
 go_ret
 exact⟨⟨_,rfl,by have:=aF.low E;simpa[List.append_assoc,AQ,Lj,Ax]using this⟩,k.trans (aG.mono E)⟩
theorem Aex (w0:Z)(num:Int)(text:ByteArray)(an:Option jD)(nn cn:Nat)(ka:Option jD)(kc:Nat)(A B:K5)(i:Int)(e0 e1:Ex)(c:Nat)(t:c+Am (.bin i 26 e0 e1)<=1048576)(w:Z)(C:AO w ka [A,B])(S:Zg w0 w A e0)(W:Vn w A e0)(aa:Zg w0 w B e1)(ab:Vn w B e1):
  Calls jL 52 #[.agg #[U V 26,U V num,Q text,X an nn cn,X ka 2 kc],U V c] w fun r w'=>(∃v,r= .returned v/\BY w0 w.heap.size v (Ar (.bin i 26 e0 e1) c) w')/\An w w':=by
 have D:=fun a=>AM e0 a;have l1:=fun a=>AM e1 a;have ac:=Ab (show Ar (.bin i 26 e0 e1) c=Ar e0 c++[(AQ 23 ((c:Int)+(Am e0:Nat)+3)).i,(Lj 1).i]++[(AQ 22 ((c:Int)+(Am e0:Nat)+3+(Am e1:Nat))).i]++Ar e1 (c+Am e0+3) by rw[Ar,if_neg (by decide),if_pos rfl];simp only[D,l1,yC,zJ];rfl);rw[Aa ac];clear ac;rw[Am]at t;rw[if_pos (by decide)]at t;obtain⟨b,ad,rfl,_,_⟩:=C 0 (by simp);obtain⟨l,ax,k,m⟩:=Mn w #[U V 26,U V num,Q text,X an nn cn,X (Y ⟨b,ad,T⟩) 2 kc] 101;have u:=C.below k NLN;clear C;have E:=k.size;have x:=Ab (fun (p:Z) (F:An l p)=>S.below k p F (c) (by omega));have ae:=Ab (W.below k);have m0:=D (c);generalize Ar e0 (c)=ay at x m0|-;have y:=Ab (fun (p:Z) (F:An l p)=>aa.below k p F (c+Am e0+3) (by omega));have G:=Ab (ab.below k);have H:=l1 (c+Am e0+3);generalize Ar e1 (c+Am e0+3)=az at y H|-;clear S W D aa ab l1;have aE:=Dx e0;have aF:=Dx e1;simp only[Vn]at ae G;generalize Am e0=q at*;generalize Am e1=n1 at*;simp only[yC,Int.cast_ofNat_Int]at x y;have aA:=Ab m0;have aG:ay.length<=1048576:=by omega
 have aB:=Ab H;have aH:az.length<=1048576:=by omega
 have aI:(c:Int)<=1048576:=by omega
 have aJ:(q:Int)<=1048576:=by omega
 have aK:(n1:Int)<=1048576:=by omega
 have aL:=Ab t;subst ax;clear t m0 H;obtain⟨n,a1,a2,a3,a4⟩:=AO.at0 u;go_enter func52,ntmps52
 go_wp2_with fail
 generalize w.alloc (.cells #[U V 26,U V num,Q text,X an nn cn,X (Y ⟨b,ad,T⟩) 2 kc] 101)=l at k m u E n a1 a2 a3 a4 x ae y G|-;have z:=Brw l;refine(Aa x _ z).mono ?_;rintro r aM ⟨⟨aN,rfl,I⟩,af⟩;obtain⟨aO,c1,ag,_⟩:=I.form;rw[Aa aA]at ag;subst ag;have J:=z.trans (af.mono z.size);have ah:=I.low (B':=l.heap.size) z.size;clear n a1 a2 a3 a4 I af;dsimp only;obtain⟨d,f,g,h,j,_⟩:=Aq (m.after J NLN);go_wp2_with fail
 clear d f g h j;refine(Qi 1 _).mono ?_;rintro r w2 ⟨rfl,K⟩;have L:=J.trans (K.mono J.size);have ai:=ah.below K;clear K ah;dsimp only;obtain⟨d,f,g,h,j,_⟩:=Aq (m.after L NLN);go_wp2_with (at_builtin;refine DI ai [AQ (23) ((c:Int)+q+3),Lj 1] _ (OG.two (Qh.none0 w0) (Qh.none0 w0)) (Vo _ (AQ (23) ((c:Int)+q+3)) (Lj 1) _ rfl) (by (try simp only[zB,zU,List.length_cons,List.length_nil]);omega) L.size rfl _ _ rfl rfl _ rfl rfl ?_)
 intro aP aQ c3 aR aj ak;have s:=L.trans ak;clear ak ai d f g h j;obtain⟨n,a1,a2,a3,a4⟩:=AO.at1 (u.below s NLN);obtain⟨d,f,g,h,j,_⟩:=Aq (m.after s NLN);go_wp2_with fail
 refine(Aa G _ s).mono ?_;rintro r aS ⟨rfl,M⟩;have N:=s.trans (M.mono s.size);have al:=aj.below M;clear n a1 a2 a3 a4 d f g h j M aj;dsimp only;obtain⟨d,f,g,h,j,_⟩:=Aq (m.after N NLN);go_wp2_with (at_builtin;refine DI al [AQ (22) ((c:Int)+q+3+n1)] _ (OG.one (Qh.none0 w0)) (DH _ (AQ (22) ((c:Int)+q+3+n1)) _ rfl) (by (try simp only[zB,zU,List.length_cons,List.length_nil]);omega) N.size rfl _ _ rfl rfl _ rfl rfl ?_)
 intro aT aU c5 aV ao ap;have o:=N.trans ap;clear ap al d f g h j;obtain⟨n,a1,a2,a3,a4⟩:=AO.at1 (u.below o NLN);obtain⟨d,f,g,h,j,_⟩:=Aq (m.after o NLN);go_wp2_with fail
 refine(Aa y _ o).mono ?_;rintro r aW ⟨⟨aX,rfl,O⟩,P⟩;obtain⟨aY,aZ,aq,_⟩:=O.form;rw[Aa aB]at aq;subst aq;have ar:=o.trans (P.mono o.size);have au:=O.low (B':=l.heap.size) o.size;have av:=ao.below P;clear ao;clear n a1 a2 a3 a4 O P;clear d f g h j;dsimp only;go_wp2_with (at_builtin;refine GG av au (by omega) (by (try simp only[zB,zU,List.length_cons,List.length_nil]);omega) ar.size rfl _ _ rfl rfl rfl ?_)
 intro a0 a5 c7 a6 aC aw;have aD:=ar.trans aw;clear aw av au;go_wp2
 go_ret
 exact⟨⟨_,rfl,by have:=aC.low E;simpa[List.append_assoc,AQ,Lj,Ax]using this⟩,k.trans (aD.mono E)⟩
theorem Ace (w0:Z)(num:Int)(text:ByteArray)(an:Option jD)(nn cn:Nat)(ka:Option jD)(kc:Nat)(D E F:K5)(i:Int)(e0 e1 e2:Ex)(c:Nat)(G:c+Am (.ite i e0 e1 e2)<=1048576)(w:Z)(H:AO w ka [D,E,F])(ah:Zg w0 w D e0)(ai:Vn w D e0)(aj:Zg w0 w E e1)(ak:Vn w E e1)(al:Zg w0 w F e2)(S2:Vn w F e2):
  Calls jL 52 #[.agg #[U V 27,U V num,Q text,X an nn cn,X ka 3 kc],U V c] w fun r w'=>(∃v,r= .returned v/\BY w0 w.heap.size v (Ar (.ite i e0 e1 e2) c) w')/\An w w':=by
 have I:=fun a=>AM e0 a;have l1:=fun a=>AM e1 a;have J:=fun a=>AM e2 a;have ao:=Ab (show Ar (.ite i e0 e1 e2) c=Ar e0 c++[(AQ 23 ((c:Int)+(Am e0:Nat)+(Am e1:Nat)+2)).i]++Ar e1 (c+Am e0+1)++[(AQ 22 ((c:Int)+(Am e0:Nat)+(Am e1:Nat)+2+(Am e2:Nat))).i]++Ar e2 (c+Am e0+Am e1+2) by rw[Ar];simp only[I,l1,J,yC];rfl);rw[Aa ao];clear ao;rw[Am]at G;obtain⟨b,ap,rfl,_,_⟩:=H 0 (by simp);obtain⟨m,aN,k,o⟩:=Mn w #[U V 27,U V num,Q text,X an nn cn,X (Y ⟨b,ap,T⟩) 3 kc] 101;have p:=H.below k NLN;clear H;have K:=k.size;have z:=Ab (fun (n:Z) (t:An m n)=>ah.below k n t (c) (by omega));have aq:=Ab (ai.below k);have m0:=I (c);generalize Ar e0 (c)=aO at z m0|-;have A:=Ab (fun (n:Z) (t:An m n)=>aj.below k n t (c+Am e0+1) (by omega));have L:=Ab (ak.below k);have M:=l1 (c+Am e0+1);generalize Ar e1 (c+Am e0+1)=aP at A M|-;have B:=Ab (fun (n:Z) (t:An m n)=>al.below k n t (c+Am e0+Am e1+2) (by omega));have N:=Ab (S2.below k);have O:=J (c+Am e0+Am e1+2);generalize Ar e2 (c+Am e0+Am e1+2)=aQ at B O|-;clear ah ai I aj ak l1 al S2 J;have aW:=Dx e0;have aX:=Dx e1;have aY:=Dx e2;simp only[Vn]at aq L N;generalize Am e0=u at*;generalize Am e1=n1 at*;generalize Am e2=P at*;simp only[yC,Int.cast_ofNat_Int]at z A B;have aR:=Ab m0;have aZ:aO.length<=1048576:=by omega
 have aS:=Ab M;have a0:aP.length<=1048576:=by omega
 have aT:=Ab O;have a5:aQ.length<=1048576:=by omega
 have a6:(c:Int)<=1048576:=by omega
 have a7:(u:Int)<=1048576:=by omega
 have a8:(n1:Int)<=1048576:=by omega
 have a9:(P:Int)<=1048576:=by omega
 have ba:=Ab G;subst aN;clear G m0 M O;obtain⟨l,a1,a2,a3,a4⟩:=AO.at0 p;go_enter func52,ntmps52
 go_wp2_with fail
 generalize w.alloc (.cells #[U V 27,U V num,Q text,X an nn cn,X (Y ⟨b,ap,T⟩) 3 kc] 101)=m at k o p K l a1 a2 a3 a4 z aq A L B N|-;have C:=Brw m;refine(Aa z _ C).mono ?_;rintro r bb ⟨⟨bc,rfl,S⟩,ar⟩;obtain⟨bd,c1,au,_⟩:=S.form;rw[Aa aR]at au;subst au;have x:=C.trans (ar.mono C.size);have av:=S.low (B':=m.heap.size) C.size;clear l a1 a2 a3 a4 S ar;dsimp only;obtain⟨l,a1,a2,a3,a4⟩:=AO.at1 (p.below x NLN);obtain⟨d,f,g,h,j,_⟩:=Aq (o.after x NLN);go_wp2_with fail
 refine(Aa L _ x).mono ?_;rintro r w2 ⟨rfl,W⟩;have aa:=x.trans (W.mono x.size);have aw:=av.below W;clear l a1 a2 a3 a4 d f g h j W av;dsimp only;obtain⟨d,f,g,h,j,_⟩:=Aq (o.after aa NLN);go_wp2_with (at_builtin;refine DI aw [AQ (23) ((c:Int)+u+n1+2)] _ (OG.one (Qh.none0 w0)) (DH _ (AQ (23) ((c:Int)+u+n1+2)) _ rfl) (by (try simp only[zB,zU,List.length_cons,List.length_nil]);omega) aa.size rfl _ _ rfl rfl _ rfl rfl ?_)
 intro bf bg c3 bh ax ay;have q:=aa.trans ay;clear ay aw d f g h j;obtain⟨l,a1,a2,a3,a4⟩:=AO.at1 (p.below q NLN);obtain⟨d,f,g,h,j,_⟩:=Aq (o.after q NLN);go_wp2_with fail
 refine(Aa A _ q).mono ?_;rintro r bi ⟨⟨bj,rfl,ab⟩,ac⟩;obtain⟨bk,c4,az,_⟩:=ab.form;rw[Aa aS]at az;subst az;have aA:=q.trans (ac.mono q.size);have aB:=ab.low (B':=m.heap.size) q.size;have aC:=ax.below ac;clear ax;clear l a1 a2 a3 a4 ab ac;clear d f g h j;dsimp only;go_wp2_with (at_builtin;refine GG aC aB (by omega) (by (try simp only[zB,zU,List.length_cons,List.length_nil]);omega) aA.size rfl _ _ rfl rfl rfl ?_)
 intro bl bm c5 bn aD aE;have y:=aA.trans aE;clear aE aC aB;obtain⟨l,a1,a2,a3,a4⟩:=AO.at2 (p.below y NLN);obtain⟨d,f,g,h,j,_⟩:=Aq (o.after y NLN);go_wp2_with fail
 refine(Aa N _ y).mono ?_;rintro r bo ⟨rfl,ad⟩;have ae:=y.trans (ad.mono y.size);have aF:=aD.below ad;clear l a1 a2 a3 a4 d f g h j ad aD;dsimp only;obtain⟨d,f,g,h,j,_⟩:=Aq (o.after ae NLN);go_wp2_with (at_builtin;refine DI aF [AQ (22) ((c:Int)+u+n1+2+P)] _ (OG.one (Qh.none0 w0)) (DH _ (AQ (22) ((c:Int)+u+n1+2+P)) _ rfl) (by (try simp only[zB,zU,List.length_cons,List.length_nil]);omega) ae.size rfl _ _ rfl rfl _ rfl rfl ?_)
 intro bp br c7 bs aG aH;have s:=ae.trans aH;clear aH aF d f g h j;obtain⟨l,a1,a2,a3,a4⟩:=AO.at2 (p.below s NLN);obtain⟨d,f,g,h,j,_⟩:=Aq (o.after s NLN);go_wp2_with fail
 refine(Aa B _ s).mono ?_;rintro r bt ⟨⟨bu,rfl,af⟩,ag⟩;obtain⟨bv,bw,aI,_⟩:=af.form;rw[Aa aT]at aI;subst aI;have aJ:=s.trans (ag.mono s.size);have aK:=af.low (B':=m.heap.size) s.size;have aL:=aG.below ag;clear aG;clear l a1 a2 a3 a4 af ag;clear d f g h j;dsimp only;go_wp2_with (at_builtin;refine GG aL aK (by omega) (by (try simp only[zB,zU,List.length_cons,List.length_nil]);omega) aJ.size rfl _ _ rfl rfl rfl ?_)
 intro bx bz bA bB aU aM;have aV:=aJ.trans aM;clear aM aL aK;go_wp2
 go_ret
 exact⟨⟨_,rfl,by have:=aU.low K;simpa[List.append_assoc,AQ,Lj,Ax]using this⟩,k.trans (aV.mono K)⟩
end Go.Proofs.YtppafecmccdplaaGreat
