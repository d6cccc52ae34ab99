/-
  ECB, ECC, ECK, ECL. Own work.
-/
import Derived.Test.YtchakjeegneeoaaGreatDoorMXAT
import Derived.Test.YtchakjeegneeoaaGreatDoorMXAP
import Derived.MapKept
import Derived.Maps.Own
import Derived.Maps.OwnOps
import Derived.Test.YtchakjeegneeoaaGreatDoorMXAO
import Derived.Test.YtchakjeegneeoaaGreatDoorMXAF
import Derived.Deep.RegionHeld3
import Derived.Deep.RegionLaw
namespace Go.Proofs.YtchakjeegneeoaaGreatDoor
set_option maxRecDepth 100000
set_option maxHeartbeats 800000
open Go.RowKit
set_option linter.unusedVariables false
def Di (w:World) (mb:Nat) (K:List Dc):Prop:=(K.map Dc.name).Nodup∧∃ (es:Array MapEntry) (cl:Nat),w.heap[mb]? =some (.map es cl)∧es.toList.map (fun m=>(m.key,m.val))=K.map (fun d=>(Value.string d.name,d.val))
theorem Di.keep {w w':World}{mb:Nat}{K:List Dc}(h:Di w mb K)(a:w'.heap[mb]? =w.heap[mb]?):Di w' mb K:=by
 obtain ⟨h0,b,c,h1,h2⟩:=h;exact ⟨h0,b,c,a.trans h1,h2⟩
theorem Di.lt {w:World}{mb:Nat}{K:List Dc}(h:Di w mb K):mb < w.heap.size:=by
 obtain ⟨_,a,b,h1,_⟩:=h;exact (yC.1 h1).1
theorem Di.below {w w':World}{mb:Nat}{K:List Dc}(h:Di w mb K)(a:Below w.heap.size w w'):Di w' mb K:=h.keep (a.block mb h.lt)
theorem Ng {a:Array MapEntry}{K:List Dc}(h:a.toList.map (fun m=>(m.key,m.val))=K.map (fun d=>(Value.string d.name,d.val))):∀ x∈a.toList,∃ d∈K,x.key= .string d.name∧x.val=d.val:=fun x hx=>by
 have:(x.key,x.val)∈a.toList.map (fun m=>(m.key,m.val)):=zQ.2 ⟨x,hx,rfl⟩;rw[h] at this;obtain ⟨d,hd,e⟩:=zQ.1 this;injection e with e1 e2;exact ⟨d,hd,e1.symm,e2.symm⟩
theorem UX {w:World}{mb:Nat}{K:List Dc}(s:ByteArray){a:Array MapEntry}(h0:(K.map Dc.name).Nodup)(h2:a.toList.map (fun m=>(m.key,m.val))=K.map (fun d=>(Value.string d.name,d.val))):
  (De K s=none∧Instr.findNow .string (.string s) a.toList 0=some none)∨∃ d j,De K s=some d∧Instr.findNow .string (.string s) a.toList 0=some (some (j,d.val)):=by
 have hk:∀ x∈a.toList,MapKept.IsKey .string x.key:=fun x hx=>by
  obtain ⟨d,_,e,_⟩:=Ng h2 x hx;rw[e];trivial
 rcases MapKept.findNow_spec (d:= .string) (k:= .string s) trivial a.toList 0 hk with ⟨b,c⟩ | ⟨j,e,b,c,g⟩
 ·left;refine ⟨?_,b⟩;cases hf:De K s with
  |none=>rfl
  |some d=>
   exfalso;obtain ⟨hd,h⟩:=Wq hf;have:(Value.string d.name,d.val)∈a.toList.map (fun m=>(m.key,m.val)):=by rw[h2];exact zQ.2 ⟨d,hd,rfl⟩
   obtain ⟨x,hx,f⟩:=zQ.1 this;injection f with f _;exact c x hx (by rw[f,h])
 ·right;obtain ⟨d,hd,e1,e2⟩:=Ng h2 e (z5 c);rw[g] at e1;injection e1 with e1;exact ⟨d,0+j,by rw[e1];exact AcX h0 hd,by rw[b,e2]⟩
def Jj (o:Option Dc):Value:=match o with
 |some d=>d.val
 |none=> .agg #[.bool false,.int .i64 0,.int .i64 0]
theorem Zd (w:World)(mb:Nat)(K:List Dc)(s:ByteArray)(h:Di w mb K):
  (Instr.lookup 123 (.map (some mb)) (.string s) true).run Tryz.prog w= .ok (.tuple #[Jj (De K s),.bool (De K s).isSome]) w:=by
 obtain ⟨h0,b,c,h1,h2⟩:=h;rcases UX (w:=w) (mb:=mb) s h0 h2 with ⟨e,a⟩ | ⟨d,j,e,a⟩
 ·rw[e];simp[Jj,Instr.lookup,run_underlying Tryz.underlying123,MapKept.run_getObj_map h1,MapKept.run_checkKey Tryz.underlying9 (k:= .string s) trivial,MapKept.run_findKey Tryz.underlying9 a,Tryz.zeroValue171]
 ·rw[e];simp[Jj,Instr.lookup,run_underlying Tryz.underlying123,MapKept.run_getObj_map h1,MapKept.run_checkKey Tryz.underlying9 (k:= .string s) trivial,MapKept.run_findKey Tryz.underlying9 a]
theorem Wr (w:World)(mb:Nat)(K:List Dc)(s:ByteArray)(h:Di w mb K):
  (Instr.lookup 123 (.map (some mb)) (.string s) false).run Tryz.prog w= .ok (Jj (De K s)) w:=by
 obtain ⟨h0,b,c,h1,h2⟩:=h;rcases UX (w:=w) (mb:=mb) s h0 h2 with ⟨e,a⟩ | ⟨d,j,e,a⟩
 ·rw[e];simp[Jj,Instr.lookup,run_underlying Tryz.underlying123,MapKept.run_getObj_map h1,MapKept.run_checkKey Tryz.underlying9 (k:= .string s) trivial,MapKept.run_findKey Tryz.underlying9 a,Tryz.zeroValue171]
 ·rw[e];simp[Jj,Instr.lookup,run_underlying Tryz.underlying123,MapKept.run_getObj_map h1,MapKept.run_checkKey Tryz.underlying9 (k:= .string s) trivial,MapKept.run_findKey Tryz.underlying9 a]
theorem Ad4 (w:World)(mb:Nat)(K:List Dc)(d:Dc)(h:Di w mb K)(hs:De K d.name=none):
  ∃ w',(Instr.mapUpdate 123 (.map (some mb)) (.string d.name) d.val).run Tryz.prog w= .ok () w'∧Di w' mb (K ++ [d])∧(∀ k,k≠mb→w'.heap[k]? =w.heap[k]?)∧w'.heap.size=w.heap.size∧∀ B,B≤mb→Below B w w':=by
 obtain ⟨h0,f,c,h1,h2⟩:=h;rcases UX (w:=w) (mb:=mb) d.name h0 h2 with ⟨e,g⟩ | ⟨m,j,e,g⟩
 ·obtain ⟨g1,g2⟩:=MapKept.heap_set (o':= .map (f.push ⟨.string d.name,d.val,c⟩) (c+1)) h1;refine ⟨{ w with heap:=w.heap.setIfInBounds mb (.map (f.push ⟨.string d.name,d.val,c⟩) (c+1)) }, ?_,⟨?_,_,_,g1, ?_⟩,g2,by simp,fun B hB=>⟨rfl,rfl,rfl,by simp,fun k hk=>g2 k (by omega)⟩⟩
  ·simp[Instr.mapUpdate,run_underlying Tryz.underlying123,MapKept.run_getObj_map h1,MapKept.run_checkKey Tryz.underlying9 (k:= .string d.name) trivial,MapKept.run_findKey Tryz.underlying9 g,MapKept.run_setObj_map _ h1]
  ·rw[zU,List.nodup_append];refine ⟨h0,by simp,fun a l b i=>?_⟩;simp at i;subst i;exact fun e'=>Zc e (e' ▸ l)
  ·simp[h2]
 ·rw[hs] at e;cases e
theorem Fb {c:Array Oper}{rest:List Oper}{o:Oper}{a:Act}{Q:Exit→Act→World→Prop}{w:World}(g:o.guard=none)(m x:Operand)(i:o.op=Op.lookup 123 m x true)(mb:Nat)(D:List Dc)(s:ByteArray)
  (j:a.eval m= .map (some mb))(hx:a.eval x= .string s)(h:Di w mb D)(b f:Bool)(n t:Int)(k:Jj (De D s)= .agg #[.bool b,.int .i64 n,.int .i64 t])(hf:(De D s).isSome=f)
  (l:wpList Tryz.prog c Q rest (a.put o.dst (.tuple #[.agg #[.bool b,.int .i64 n,.int .i64 t],.bool f])) w):wpList Tryz.prog c Q (o ::rest) a w:=by
 refine wpList_plain g fun q p=>?_;unfold Oper.wp;have d:=Zd w mb D s h;rw[k,hf] at d;simp[execOp,i,j,hx,d,Result.andThen];exact p _ _ l
theorem Nh (i mb:Nat)(D:List Dc)(s:ByteArray)(f m:Addr)(w:World)(j:MG w f m)(hc:w.cell? ⟨i,0,none⟩=some (.map (some mb)))(k:Di w mb D):
  Calls Tryz.prog 158 #[.pointer (some ⟨i,0,none⟩),.string s] w fun r w'=>H8 ((De D s).map Dc.typ) f r∧Below w.heap.size w w':=by
 have nc:=j.nc;have g:=Ab k;have h:=(Below.refl w.heap.size w).alloc NLN (.cells #[.bool false,.int .i64 0,.int .i64 0] 171);have l:=Ab ((Aa g).below h);have o:=j.n;clear k;cases hf:De D s with
 |none=>
  have a:Jj (De D s)= .agg #[.bool false,.int .i64 0,.int .i64 0]:=by rw[hf];rfl
  have hi:(De D s).isSome=false:=by rw[hf];rfl
  have b:=Ab a;have c:=Ab hi;clear a hi hf;go_enter Tryz.func158,Tryz.ntmps158
  go_wp2_with (first | (refine Fb rfl _ _ rfl mb D s rfl rfl (Aa g) false false 0 0 (Aa b) (Aa c) ?_) | (refine Fb rfl _ _ rfl mb D s rfl rfl (Aa l) false false 0 0 (Aa b) (Aa c) ?_))
  have q:=(h.cell (p:=⟨8,0,none⟩) o).trans nc;go_region
  all_goals
   go_wp2_with fail
   exact bodyPost_ret (v:= .tuple #[.int .i64 0,.iface 276 (.pointer (some f))]) (by simp[results,Tryz.results158,go_sem]) rfl ⟨rfl,h.drew⟩
 |some d=>
  have a:Jj (De D s)= .agg #[.bool d.isLet,.int .i64 d.num,.int .i64 d.typ]:=by rw[hf];rfl
  have hi:(De D s).isSome=true:=by rw[hf];rfl
  have b:=Ab a;have c:=Ab hi;clear a hi hf;go_enter Tryz.func158,Tryz.ntmps158
  go_wp2_with (first | (refine Fb rfl _ _ rfl mb D s rfl rfl (Aa g) d.isLet true d.num d.typ (Aa b) (Aa c) ?_) | (refine Fb rfl _ _ rfl mb D s rfl rfl (Aa l) d.isLet true d.num d.typ (Aa b) (Aa c) ?_))
  exact bodyPost_ret (v:= .tuple #[.int .i64 d.typ,.nilIface]) (by simp[results,Tryz.results158,go_sem]) rfl ⟨rfl,(Below.refl w.heap.size w).alloc NLN _⟩
set_option maxHeartbeats 1600000
theorem UY (a:Nat)(i:Int)(s:ByteArray)(mb:Nat)(D:List Dc)(d:Option Addr)(f g:Nat)(ks:List Int)(q c h:Addr)(w:World)(u:KM w q)(j:MG w c h)(x:BT w d f g ks)(hc:w.cell? ⟨a,0,none⟩=some (.map (some mb)))(k:a < w.heap.size)(l:Di w mb D):
  Calls Tryz.prog 151 #[.pointer (some ⟨a,0,none⟩),.iface 176 (.agg #[.int .i64 i,.string s]),.slice d f g] w fun r w'=>H8 ((De D s).map Dc.typ) c r∧Below w.heap.size w w':=by
 have ts:=tas 176 (.agg #[.int .i64 i,.string s]);simp only[Sl,Nat.reduceEqDiff,reduceIte] at ts;obtain ⟨A,B,C,E,F,H,I,J,K,L⟩:=ts;have b:=(Below.refl w.heap.size w).alloc NLN (.cells #[.int .i64 i,.string s] 176);have m:=Ab (Nh a mb D s c h _ (j.below b NLN) ((b.cell (p:=⟨a,0,none⟩) k).trans hc) (l.below b));generalize (De D s).map Dc.typ=y at m ⊢;clear u j x hc k l;go_enter Tryz.func151,Tryz.ntmps151
 go_wp2_with fail
 refine (Aa m).mono ?_;rintro r w2 ⟨n,z⟩;have o:=b.trans (z.mono b.size)
 change r=_ at n
 subst n;cases y with
 |some t=>
  dsimp only[Option.getD,Option.isSome,Xr];go_wp2_with fail
  exact bodyPost_ret (v:= .tuple #[.int .i64 t,.nilIface]) (by simp[results,Tryz.results151,go_sem]) rfl ⟨rfl,o⟩
 |none=>
  dsimp only[Option.getD,Option.isSome,Xr];go_wp2_with fail
  exact bodyPost_ret (v:= .tuple #[.int .i64 0,.iface 276 (.pointer (some c))]) (by simp[results,Tryz.results151,go_sem]) rfl ⟨rfl,o⟩
theorem Xs (H:Nat)(i op:Int)(t:TypeId)(u:Value)(o:Option Addr)(j q:Nat)(a:Int)(f I J:Addr)(w:World)(s:KM w f)(K:MG w I J)(k:BT w o j q [a])(L: 8≤op∧op≤10)(M: 1≤a∧a≤4):
  Calls Tryz.prog 151 #[.pointer (some ⟨H,0,none⟩),.iface 216 (.agg #[.int .i64 i,.int .i64 op,.iface t u]),.slice o j q] w fun r w'=>H8 (nz (Ct op [a])) f r∧Below w.heap.size w w':=by
 have ts:=tas 216 (.agg #[.int .i64 i,.int .i64 op,.iface t u]);simp only[Sl,Nat.reduceEqDiff,reduceIte] at ts;obtain ⟨U,V,X,Y,Z,aa,ab,ac,ad,ae⟩:=ts;obtain ⟨d,ok,rfl,x,l⟩:=k.cells 0 (by simp);obtain rfl:j=1:=k.len.symm;simp only[yF,zZ] at l;have c:=(Below.refl w.heap.size w).alloc NLN (.cells #[.int .i64 i,.int .i64 op,.iface t u] 216);have g:=Al.new w #[.int .i64 i,.int .i64 op,.iface t u] 216;have m:=s.below c NLN;have n:=Ab (fun W N=>FW op a 0 f W N);rw[AcZ L a M] at n;generalize nz (Ct op [a])=y at n ⊢;clear k K s;go_enter Tryz.func151,Tryz.ntmps151
 have O:∃ b,b=w.alloc (.cells #[.int .i64 i,.int .i64 op,.iface t u] 216):=⟨_,rfl⟩
 go_wp2_with fail
 obtain ⟨b,z⟩:=O;rw[← z] at c g m ⊢;have A:=(c.cell (p:=⟨d,ok,none⟩) x).trans l;have B:b.cell? ⟨w.heap.size,1,none⟩=some (.int .i64 op):=g.cell 1;have P:=g.lt;have Q:d < b.heap.size:=zM x c.size;have h:Below b.heap.size b b.drew:=BRN.drew;have keep:∀ w',Below b.heap.size b w'→w'.cell? ⟨d,ok,none⟩=some (.int .i64 a)∧w'.cell? ⟨w.heap.size,1,none⟩=some (.int .i64 op):=fun w' C=>⟨(C.cell (p:=⟨d,ok,none⟩) Q).trans A,(C.cell (p:=⟨w.heap.size,1,none⟩) P).trans B⟩
 have R:=Ab keep;have af:=keep _ h;have S:=m.below h NLN;clear z g keep m l A B;go_region_held3 (fun w'=>w'.cell? ⟨d,ok,none⟩=some (.int .i64 a)∧w'.cell? ⟨w.heap.size,1,none⟩=some (.int .i64 op)) (first | assumption | go_keep)
  (first | (go_at_call 160;refine (Aa n _ S).mono ?_;rintro r w2 ⟨E,T⟩;change r=_ at E;subst E;have F:=h.trans (T.mono h.size);have q2:=Aa R _ F))
 go_wp2_with fail
 exact bodyPost_ret (v:= .tuple #[.int .i64 (y.getD 0),Xr y.isSome f]) (by simp[results,Tryz.results151,go_sem]) rfl ⟨rfl,c.trans (F.mono c.size)⟩
theorem UZ (N:Nat)(i op:Int)(t:TypeId)(u:Value)(h:TypeId)(j:Value)(z:Option Addr)(o A:Nat)(a b:Int)(k O P:Addr)(w:World)(B:KM w k)(Q:MG w O P)(l:BT w z o A [a,b])(R: 11≤op∧op≤26)(S: 1≤a∧a≤4)(g: 1≤b∧b≤4):
  Calls Tryz.prog 151 #[.pointer (some ⟨N,0,none⟩),.iface 218 (.agg #[.int .i64 i,.int .i64 op,.iface t u,.iface h j]),.slice z o A] w fun r w'=>H8 (nz (Ct op [a,b])) k r∧Below w.heap.size w w':=by
 have ts:=tas 218 (.agg #[.int .i64 i,.int .i64 op,.iface t u,.iface h j]);simp only[Sl,Nat.reduceEqDiff,reduceIte] at ts;obtain ⟨ab,ac,ad,ae,af,ag,ah,ai,aj,ak⟩:=ts;obtain ⟨c,ok,rfl,q,s⟩:=l.cells 0 (by simp);have C:w.cell? ⟨c,ok+1,none⟩=some (.int .i64 b):=by
  obtain ⟨b2,T,e2,_,c2⟩:=l.cells 1 (by simp);obtain ⟨rfl,rfl⟩:c=b2∧ok=T:=by simpa using e2
  simpa using c2
 obtain rfl:o=2:=l.len.symm;simp only[yF,zZ] at s;have f:=(Below.refl w.heap.size w).alloc NLN (.cells #[.int .i64 i,.int .i64 op,.iface t u,.iface h j] 218);have m:=Al.new w #[.int .i64 i,.int .i64 op,.iface t u,.iface h j] 218;have x:=B.below f NLN;have y:=Ab (fun W U=>FW op a b k W U);rw[Abw R a b S g] at y;generalize nz (Ct op [a,b])=E at y ⊢;clear g;clear l Q B;go_enter Tryz.func151,Tryz.ntmps151
 have V:∃ d,d=w.alloc (.cells #[.int .i64 i,.int .i64 op,.iface t u,.iface h j] 218):=⟨_,rfl⟩
 go_wp2_with fail
 obtain ⟨d,F⟩:=V;rw[← F] at f m x ⊢;have H:=(f.cell (p:=⟨c,ok,none⟩) q).trans s;have I:=(f.cell (p:=⟨c,ok+1,none⟩) q).trans C;have J:d.cell? ⟨w.heap.size,1,none⟩=some (.int .i64 op):=m.cell 1;have X:=m.lt;have K:c < d.heap.size:=zM q f.size;have n:Below d.heap.size d d.drew:=BRN.drew;have keep:∀ w',Below d.heap.size d w'→w'.cell? ⟨c,ok,none⟩=some (.int .i64 a)∧w'.cell? ⟨c,ok+1,none⟩=some (.int .i64 b)∧w'.cell? ⟨w.heap.size,1,none⟩=some (.int .i64 op):=fun w' g=>⟨(g.cell (p:=⟨c,ok,none⟩) K).trans H,(g.cell (p:=⟨c,ok+1,none⟩) K).trans I,(g.cell (p:=⟨w.heap.size,1,none⟩) X).trans J⟩
 have Y:=Ab keep;have al:=keep _ n;have Z:=x.below n NLN;clear F m keep x s H C I J;go_region_held3 (fun w'=>w'.cell? ⟨c,ok,none⟩=some (.int .i64 a)∧w'.cell? ⟨c,ok+1,none⟩=some (.int .i64 b)∧w'.cell? ⟨w.heap.size,1,none⟩=some (.int .i64 op)) (first | assumption | go_keep)
  (first | (go_at_call 160;refine (Aa y _ Z).mono ?_;rintro r w2 ⟨L,aa⟩;change r=_ at L;subst L;have M:=n.trans (aa.mono n.size);have q2:=Aa Y _ M))
 go_wp2_with fail
 exact bodyPost_ret (v:= .tuple #[.int .i64 (E.getD 0),Xr E.isSome k]) (by simp[results,Tryz.results151,go_sem]) rfl ⟨rfl,f.trans (M.mono f.size)⟩
theorem U0 (S:Nat)(i:Int)(t:TypeId)(u:Value)(j:TypeId)(k:Value)(l:TypeId)(m:Value)(E:Option Addr)(x F:Nat)(a b d:Int)(o T U:Addr)(w:World)(H:KM w o)(V:MG w T U)(n:BT w E x F [a,b,d])(h: 1≤b∧b≤4):
  Calls Tryz.prog 151 #[.pointer (some ⟨S,0,none⟩),.iface 220 (.agg #[.int .i64 i,.iface t u,.iface j k,.iface l m]),.slice E x F] w fun r w'=>H8 (nz (Ct 27 [a,b,d])) o r∧Below w.heap.size w w':=by
 have ts:=tas 220 (.agg #[.int .i64 i,.iface t u,.iface j k,.iface l m]);simp only[Sl,Nat.reduceEqDiff,reduceIte] at ts;obtain ⟨ac,ad,ae,af,ag,ah,ai,aj,ak,al⟩:=ts;obtain ⟨c,ok,rfl,q,y⟩:=n.cells 0 (by simp);have I:w.cell? ⟨c,ok+1,none⟩=some (.int .i64 b):=by
  obtain ⟨b2,z,e2,_,c2⟩:=n.cells 1 (by simp);obtain ⟨rfl,rfl⟩:c=b2∧ok=z:=by simpa using e2
  simpa using c2
 have J:w.cell? ⟨c,ok+2,none⟩=some (.int .i64 d):=by
  obtain ⟨b2,z,e2,_,c2⟩:=n.cells 2 (by simp);obtain ⟨rfl,rfl⟩:c=b2∧ok=z:=by simpa using e2
  simpa using c2
 obtain rfl:x=3:=n.len.symm;simp only[yF,zZ] at y;have f:=(Below.refl w.heap.size w).alloc NLN (.cells #[.int .i64 i,.iface t u,.iface j k,.iface l m] 220);have A:=Al.new w #[.int .i64 i,.iface t u,.iface j k,.iface l m] 220;have B:=H.below f NLN;have K:=Ab (fun W X=>Ni a b d o W X h);generalize nz (Ct 27 [a,b,d])=L at K ⊢;clear h;clear n V H;go_enter Tryz.func151,Tryz.ntmps151
 have Y:∃ g,g=w.alloc (.cells #[.int .i64 i,.iface t u,.iface j k,.iface l m] 220):=⟨_,rfl⟩
 go_wp2_with fail
 obtain ⟨g,M⟩:=Y;rw[← M] at f A B ⊢;have N:=(f.cell (p:=⟨c,ok,none⟩) q).trans y;have O:=(f.cell (p:=⟨c,ok+1,none⟩) q).trans I;have P:=(f.cell (p:=⟨c,ok+2,none⟩) q).trans J;have ao:=A.lt;have C:c < g.heap.size:=zM q f.size;have s:Below g.heap.size g g.drew:=BRN.drew;have keep:∀ w',Below g.heap.size g w'→w'.cell? ⟨c,ok,none⟩=some (.int .i64 a)∧w'.cell? ⟨c,ok+1,none⟩=some (.int .i64 b)∧w'.cell? ⟨c,ok+2,none⟩=some (.int .i64 d):=fun w' h=>⟨(h.cell (p:=⟨c,ok,none⟩) C).trans N,(h.cell (p:=⟨c,ok+1,none⟩) C).trans O,(h.cell (p:=⟨c,ok+2,none⟩) C).trans P⟩
 have Z:=Ab keep;have ap:=keep _ s;have aa:=B.below s NLN;clear M A keep B y N I O J P;go_region_held3 (fun w'=>w'.cell? ⟨c,ok,none⟩=some (.int .i64 a)∧w'.cell? ⟨c,ok+1,none⟩=some (.int .i64 b)∧w'.cell? ⟨c,ok+2,none⟩=some (.int .i64 d)) (first | assumption | go_keep)
  (first | (go_at_call 161;refine (Aa K _ aa).mono ?_;rintro r w2 ⟨Q,ab⟩;change r=_ at Q;subst Q;have R:=s.trans (ab.mono s.size);have q2:=Aa Z _ R))
 go_wp2_with fail
 exact bodyPost_ret (v:= .tuple #[.int .i64 (L.getD 0),Xr L.isSome o]) (by simp[results,Tryz.results151,go_sem]) rfl ⟨rfl,f.trans (R.mono f.size)⟩
set_option maxHeartbeats 800000
def rsN (D:List Dc) (i:Int) (s:ByteArray):Ex:=match De D s with
 |some d=>if d.isLet then .lett i d.num else .attr i d.num
 |none=> .attr i 0
def Ia (D:List Dc):Ex→Ex
 | .name i s=>rsN D i s
 | .un i op k=> .un i op (Ia D k)
 | .bin i op l r=> .bin i op (Ia D l) (Ia D r)
 | .ite i c t e=> .ite i (Ia D c) (Ia D t) (Ia D e)
 |e=>e
theorem Bk (b:Nat)(T:TypeId)(v:Value)(a:T≠176)(w:World):
  Calls Tryz.prog 63 #[.pointer (some ⟨b,0,none⟩),.iface T v] w fun r w'=>r= .returned (.iface T v)∧Below w.heap.size w w':=by
 have d:=DU (S:=T) (T:=176) Tryz.underlying176 Tryz.zeroValue176 a 117;clear a;have c:=(Below.refl w.heap.size w).alloc NLN (.cells #[.int .i64 0,.string ByteArray.empty] 176);go_enter Tryz.func63,Tryz.ntmps63
 go_wp2_with fail
 go_ret
 first
  |exact ⟨rfl,c⟩
  |exact ⟨rfl,BRN⟩
theorem Ph (c mb:Nat)(D:List Dc)(i:Int)(s:ByteArray)(w:World)(hc:w.cell? ⟨c,0,none⟩=some (.map (some mb)))(v:c < w.heap.size)(x:Di w mb D):
  Calls Tryz.prog 63 #[.pointer (some ⟨c,0,none⟩),.iface 176 (.agg #[.int .i64 i,.string s])] w fun r w'=>r= .returned (rsN D i s).val∧Below w.heap.size w w':=by
 have a4:=Ib (T:=176) Tryz.underlying176 117;have f:=(Below.refl w.heap.size w).alloc NLN (.cells #[.int .i64 i,.string s] 176);have g:=Al.new w #[.int .i64 i,.string s] 176;have l:=Ab (x.below f);have c0:=(f.cell (p:=⟨c,0,none⟩) v).trans hc;have Q:w.heap.size≠c:=by omega
 clear x hc;obtain ⟨b,n,t,y,z⟩:∃ b n t,Jj (De D s)= .agg #[.bool b,.int .i64 n,.int .i64 t]∧rsN D i s=if b then .lett i n else .attr i n:=by
  unfold rsN;cases De D s with
  |none=>exact ⟨false,0,0,rfl,rfl⟩
  |some d=>exact ⟨d.isLet,d.num,d.typ,rfl,rfl⟩
 rw[z];clear z;have A:=Ab y;clear y;go_enter Tryz.func63,Tryz.ntmps63
 go_wp2_with fail
 have J:∃ a,a=w.alloc (.cells #[.int .i64 i,.string s] 176):=⟨_,rfl⟩
 obtain ⟨a,B⟩:=J;rw[← B] at f g l c0 ⊢;clear B;have m:=(Below.refl a.heap.size a).alloc NLN (.cells #[.bool false,.int .i64 0,.int .i64 0] 171);have C:=Ab ((Aa l).below m);have o:=g.alloc (.cells #[.bool false,.int .i64 0,.int .i64 0] 171);have h:=Al.new a #[.bool false,.int .i64 0,.int .i64 0] 171;have K:c < a.heap.size:=zM v f.size;have R:w.heap.size < a.heap.size:=g.lt;have c1:=(m.cell (p:=⟨c,0,none⟩) K).trans c0;have S:a.cell? ⟨w.heap.size,0,none⟩=some (.int .i64 i):=g.cell 0;have U:a.cell? ⟨w.heap.size,1,none⟩=some (.string s):=g.cell 1;have L:(a.alloc (.cells #[.bool false,.int .i64 0,.int .i64 0] 171)).cell? ⟨w.heap.size,0,none⟩=some (.int .i64 i):=o.cell 0;have M:(a.alloc (.cells #[.bool false,.int .i64 0,.int .i64 0] 171)).cell? ⟨w.heap.size,1,none⟩=some (.string s):=o.cell 1;have N:(a.alloc (.cells #[.bool false,.int .i64 0,.int .i64 0] 171)).cell? ⟨a.heap.size,0,none⟩=some (.bool false):=h.cell 0;have d1:(a.alloc (.cells #[.bool false,.int .i64 0,.int .i64 0] 171)).cell? ⟨a.heap.size,1,none⟩=some (.int .i64 0):=h.cell 1;have d2:(a.alloc (.cells #[.bool false,.int .i64 0,.int .i64 0] 171)).cell? ⟨a.heap.size,2,none⟩=some (.int .i64 0):=h.cell 2;have O:=fun k=>h.frozen k;have E:=Wr a.drew mb D s ((Aa l).keep rfl);rw[Aa A] at E;have F:=Wr (a.alloc (.cells #[.bool false,.int .i64 0,.int .i64 0] 171)).drew mb D s ((Aa C).keep rfl);rw[Aa A] at F;go_region
 all_goals
  have q:=f.alloc f.size (.cells #[.bool b,.int .i64 n,.int .i64 t] 171);have u:=Al.new a #[.bool b,.int .i64 n,.int .i64 t] 171;have H:=g.alloc (.cells #[.bool b,.int .i64 n,.int .i64 t] 171);clear E F N d1 d2 O L M c1 h o m l C;have P:∃ j,j=a.alloc (.cells #[.bool b,.int .i64 n,.int .i64 t] 171):=⟨_,rfl⟩
  obtain ⟨j,I⟩:=P;rw[← I] at q u H ⊢;clear I;have V:j.cell? ⟨a.heap.size,0,none⟩=some (.bool b):=u.cell 0;have e1:j.cell? ⟨a.heap.size,1,none⟩=some (.int .i64 n):=u.cell 1;have W:j.cell? ⟨w.heap.size,0,none⟩=some (.int .i64 i):=H.cell 0;cases b
  ·go_wp2_with fail
   go_ret
   exact ⟨rfl,q.drew⟩
  ·go_wp2_with fail
   go_ret
   exact ⟨rfl,q.drew⟩
set_option maxHeartbeats 1600000
theorem Wu {w:World}{b:Nat}{a c d f:Value}{t:TypeId}(R:Al w b #[a,c,d,f] t):w.cell? ⟨b,0,none⟩=some a∧w.cell? ⟨b,1,none⟩=some c∧w.cell? ⟨b,2,none⟩=some d∧w.cell? ⟨b,3,none⟩=some f:=⟨R.cell 0,R.cell 1,R.cell 2,R.cell 3⟩
def U7 (cb:Nat) (w0:World) (v v':Value):Prop:=
 ∀ w,Below w0.heap.size w0 w→Calls Tryz.prog 99 #[v,.func (.func 63) #[.pointer (some ⟨cb,0,none⟩)] #[]] w fun r w'=>r= .returned v'∧Below w.heap.size w w'
theorem SE (a:Nat)(b:World):U7 a b .nilIface .nilIface:=by
 intro w c;go_enter Tryz.func99,Tryz.ntmps99
 go_wp2_with fail
 go_ret
 exact ⟨rfl,BRN⟩
theorem CM (b:Nat)(a:World)(T:TypeId)(v v':Value)(h1:T≠216)(h2:T≠218)(h3:T≠220)
  (d:Hid (∀ W,Below a.heap.size a W→Calls Tryz.prog 63 #[.pointer (some ⟨b,0,none⟩),.iface T v] W fun r w'=>r= .returned v'∧Below W.heap.size W w')):U7 b a (.iface T v) v':=by
 intro w c;have h:=DU (S:=T) (T:=216) Tryz.underlying216 Tryz.zeroValue216 h1 117;have a1:=DU (S:=T) (T:=218) Tryz.underlying218 Tryz.zeroValue218 h2 117;have a2:=DU (S:=T) (T:=220) Tryz.underlying220 Tryz.zeroValue220 h3 117;have f:=Ab c;clear c h1 h2 h3;go_enter Tryz.func99,Tryz.ntmps99
 go_wp2_with fail
 refine (Aa d _ (Aa f)).mono ?_;rintro r i ⟨rfl,g⟩;dsimp only;go_wp2_with fail
 go_ret
 exact ⟨rfl,g⟩
theorem U8 (f:Nat)(l:World)(i op:Int)(c:TypeId)(d:Value)(a:TypeId)(b:Value)(o:Hid (U7 f l (.iface c d) (.iface a b))):
  U7 f l (.iface 216 (.agg #[.int .i64 i,.int .i64 op,.iface c d])) (.iface 216 (.agg #[.int .i64 i,.int .i64 op,.iface a b])):=by
 intro w g;have x:=Ib (T:=216) Tryz.underlying216 117;have q:=Ab g;have hB:=g.size;have h:=(Below.refl w.heap.size w).alloc NLN (.cells #[.int .i64 i,.int .i64 op,.iface c d] 216);have m:=Al.new w #[.int .i64 i,.int .i64 op,.iface c d] 216;have s:=Ab (fun W=>Bk f 216 (.agg #[.int .i64 i,.int .i64 op,.iface a b]) (by decide) W);clear g;go_enter Tryz.func99,Tryz.ntmps99
 go_wp2_with fail
 refine (Aa o _ ((Aa q).alloc hB _)).mono ?_;rintro r y ⟨rfl,j⟩;have t:=h.trans (j.mono h.size);have k:=m.after j NLN;clear h m j;have z:=k.frozen 2;obtain ⟨A,B,C,_⟩:=Cd k;have u:=k.set 2 (.iface a b);have n:=t.setCell (p:=⟨w.heap.size,2,none⟩) NLN (.iface a b);obtain ⟨E,F,H,_⟩:=Cd u;dsimp only;go_wp2_with fail
 refine (Aa s _).mono ?_;rintro r I ⟨rfl,v⟩;dsimp only;go_wp2_with fail
 go_ret
 exact ⟨rfl,n.trans (v.mono n.size)⟩
theorem SF (n:Nat)(t:World)(i op:Int)(d:TypeId)(f:Value)(g:TypeId)(j:Value)(L:Hid (U7 n t (.iface d f) (.iface g j)))(a:TypeId)(b:Value)(l:TypeId)(m:Value)(M:Hid (U7 n t (.iface a b) (.iface l m))):
  U7 n t (.iface 218 (.agg #[.int .i64 i,.int .i64 op,.iface d f,.iface a b])) (.iface 218 (.agg #[.int .i64 i,.int .i64 op,.iface g j,.iface l m])):=by
 intro w u;have ad:=DU (S:=218) (T:=216) Tryz.underlying216 Tryz.zeroValue216 (by decide) 117;have a1:=Ib (T:=218) Tryz.underlying218 117;have z:=Ab u;have hB:=u.size;have o:=(Below.refl w.heap.size w).alloc NLN (.cells #[.int .i64 i,.int .i64 op,.iface d f,.iface a b] 218);have q:=Al.new w #[.int .i64 i,.int .i64 op,.iface d f,.iface a b] 218;have N:=Ab (fun W=>Bk n 218 (.agg #[.int .i64 i,.int .i64 op,.iface g j,.iface l m]) (by decide) W);clear u;go_enter Tryz.func99,Tryz.ntmps99
 go_wp2_with fail
 have O:∃ c,c=w.alloc (.cells #[.int .i64 i,.int .i64 op,.iface d f,.iface a b] 218):=⟨_,rfl⟩
 obtain ⟨c,A⟩:=O;rw[← A] at o q ⊢;clear A;have P:=Ab ((Aa z).trans (o.mono hB));have B:(Tryz.f99.name== "runtime.NumGoroutine")=false:=by kernel_rfl
 have C: Tryz.f99.body.isNone=false:=by kernel_rfl
 have Q:c.cell? ⟨w.heap.size,2,none⟩=some (.iface d f):=q.cell 2;have R:c.cell? ⟨w.heap.size,3,none⟩=some (.iface a b):=q.cell 3;have U:Below c.heap.size c c.drew:=BRN.drew;go_region_law (first
  |(refine BO rfl 99 _ Tryz.func99 B C _ _ _ rfl (.iface d f) (.func (.func 63) #[.pointer (some ⟨n,0,none⟩)] #[]) rfl rfl (fun v' w'=>v'= .iface g j∧Below c.heap.size c w') ((Aa L _ (Aa P).drew).mono (fun r w' h=>⟨_,h.1,rfl,U.trans h.2⟩)) ?_;rintro ae v ⟨rfl,E⟩;have F:=q.after E NLN;have V:v.cell? ⟨w.heap.size,3,none⟩=some (.iface a b):=F.cell 3;have x:=o.trans (E.mono o.size))
  |(refine BO rfl 99 _ Tryz.func99 B C _ _ _ rfl (.iface a b) (.func (.func 63) #[.pointer (some ⟨n,0,none⟩)] #[]) rfl rfl (fun v' w'=>v'= .iface l m∧Below v.heap.size v w') ((Aa M _ ((Aa z).trans (x.mono hB))).mono (fun r w' h=>⟨_,h.1,rfl,h.2⟩)) ?_;rintro af w2 ⟨rfl,H⟩;have s:=F.after H NLN;have X:w2.cell? ⟨w.heap.size,2,none⟩=some (.iface d f):=s.cell 2;have Y:w2.cell? ⟨w.heap.size,3,none⟩=some (.iface a b):=s.cell 3;have Z:=fun k=>s.frozen k;have aa:=x.trans (H.mono x.size)))
 all_goals
  have I:=(s.set 2 (.iface g j)).set 3 (.iface l m);have y:=(aa.setCell (p:=⟨w.heap.size,2,none⟩) NLN (.iface g j)).setCell (p:=⟨w.heap.size,3,none⟩) NLN (.iface l m);clear X Y Z V Q R;have ab:∃ J,J=(w2.setCell ⟨w.heap.size,2,none⟩ (.iface g j)).setCell ⟨w.heap.size,3,none⟩ (.iface l m):=⟨_,rfl⟩
  obtain ⟨J,K⟩:=ab;rw[← K] at I y ⊢;clear K;obtain ⟨ag,ah,q2,q3⟩:=Wu I;go_wp2_with fail
  refine (Aa N _).mono ?_;rintro r ai ⟨rfl,ac⟩;dsimp only;go_wp2_with fail
  go_ret
  exact ⟨rfl,y.trans (ac.mono y.size)⟩
theorem SG (g:Nat)(u:World)(i:Int)(d:TypeId)(f:Value)(j:TypeId)(l:Value)(X:Hid (U7 g u (.iface d f) (.iface j l)))(a:TypeId)(b:Value)(m:TypeId)(n:Value)(Y:Hid (U7 g u (.iface a b) (.iface m n)))(o:TypeId)(q:Value)(s:TypeId)(t:Value)(Z:Hid (U7 g u (.iface o q) (.iface s t))):
  U7 g u (.iface 220 (.agg #[.int .i64 i,.iface d f,.iface a b,.iface o q])) (.iface 220 (.agg #[.int .i64 i,.iface j l,.iface m n,.iface s t])):=by
 intro w B;have au:=DU (S:=220) (T:=216) Tryz.underlying216 Tryz.zeroValue216 (by decide) 117;have a2:=DU (S:=220) (T:=218) Tryz.underlying218 Tryz.zeroValue218 (by decide) 117;have a1:=Ib (T:=220) Tryz.underlying220 117;have C:=Ab B;have hB:=B.size;have v:=(Below.refl w.heap.size w).alloc NLN (.cells #[.int .i64 i,.iface d f,.iface a b,.iface o q] 220);have x:=Al.new w #[.int .i64 i,.iface d f,.iface a b,.iface o q] 220;have aa:=Ab (fun W=>Bk g 220 (.agg #[.int .i64 i,.iface j l,.iface m n,.iface s t]) (by decide) W);clear B;go_enter Tryz.func99,Tryz.ntmps99
 go_wp2_with fail
 have ab:∃ c,c=w.alloc (.cells #[.int .i64 i,.iface d f,.iface a b,.iface o q] 220):=⟨_,rfl⟩
 obtain ⟨c,I⟩:=ab;rw[← I] at v x ⊢;clear I;have ac:=Ab ((Aa C).trans (v.mono hB));have J:(Tryz.f99.name== "runtime.NumGoroutine")=false:=by kernel_rfl
 have K: Tryz.f99.body.isNone=false:=by kernel_rfl
 have ad:c.cell? ⟨w.heap.size,1,none⟩=some (.iface d f):=x.cell 1;have ae:c.cell? ⟨w.heap.size,2,none⟩=some (.iface a b):=x.cell 2;have af:Below c.heap.size c c.drew:=BRN.drew;go_region_law (first
  |(refine BO rfl 99 _ Tryz.func99 J K _ _ _ rfl (.iface d f) (.func (.func 63) #[.pointer (some ⟨g,0,none⟩)] #[]) rfl rfl (fun v' w'=>v'= .iface j l∧Below c.heap.size c w') ((Aa X _ (Aa ac).drew).mono (fun r w' h=>⟨_,h.1,rfl,af.trans h.2⟩)) ?_;rintro av E ⟨rfl,L⟩;have M:=x.after L NLN;have ag:E.cell? ⟨w.heap.size,2,none⟩=some (.iface a b):=M.cell 2;have F:=v.trans (L.mono v.size))
  |(refine BO rfl 99 _ Tryz.func99 J K _ _ _ rfl (.iface a b) (.func (.func 63) #[.pointer (some ⟨g,0,none⟩)] #[]) rfl rfl (fun v' w'=>v'= .iface m n∧Below E.heap.size E w') ((Aa Y _ ((Aa C).trans (F.mono hB))).mono (fun r w' h=>⟨_,h.1,rfl,h.2⟩)) ?_;rintro aw w2 ⟨rfl,N⟩;have y:=M.after N NLN;have O:w2.cell? ⟨w.heap.size,1,none⟩=some (.iface d f):=y.cell 1;have P:w2.cell? ⟨w.heap.size,2,none⟩=some (.iface a b):=y.cell 2;have ah:=fun k=>y.frozen k;have ai:=F.trans (N.mono F.size)))
 all_goals
  have z:=(y.set 1 (.iface j l)).set 2 (.iface m n);have A:=(ai.setCell (p:=⟨w.heap.size,1,none⟩) NLN (.iface j l)).setCell (p:=⟨w.heap.size,2,none⟩) NLN (.iface m n);clear O P ah ag ad ae;have aj:∃ Q,Q=(w2.setCell ⟨w.heap.size,1,none⟩ (.iface j l)).setCell ⟨w.heap.size,2,none⟩ (.iface m n):=⟨_,rfl⟩
  obtain ⟨Q,R⟩:=aj;rw[← R] at z A ⊢;clear R;obtain ⟨ak,al,q2,q3⟩:=Wu z;have ao:=z.frozen 3;go_wp2_with fail
  refine (Aa Z _ ((Aa C).trans (A.mono hB))).mono ?_;rintro r ax ⟨rfl,U⟩;have H:=z.after U NLN;have ap:=A.trans (U.mono A.size);clear ak al q2 q3 ao;have aq:=H.set 3 (.iface s t);have V:=ap.setCell (p:=⟨w.heap.size,3,none⟩) NLN (.iface s t);obtain ⟨ay,az,aA,aB⟩:=Wu H;obtain ⟨aC,aD,O,P⟩:=Wu aq;have aE:=H.frozen 3;dsimp only;go_wp2_with fail
  refine (Aa aa _).mono ?_;rintro r aF ⟨rfl,ar⟩;dsimp only;go_wp2_with fail
  go_ret
  exact ⟨rfl,V.trans (ar.mono V.size)⟩
theorem Dl (b mb:Nat)(D:List Dc)(d:World)(hc:d.cell? ⟨b,0,none⟩=some (.map (some mb)))(f:b < d.heap.size)(h:Di d mb D):∀ (e:Ex),U7 b d e.val (Ia D e).val
 | .name i s=>CM b d _ _ _ (by decide) (by decide) (by decide) (Ab fun W u=>Ph b mb D i s W ((u.cell (p:=⟨b,0,none⟩) f).trans hc) (zM f u.size) (h.below u))
 | .int i n=>CM b d _ _ _ (by decide) (by decide) (by decide) (Ab fun W _=>Bk b _ _ (by decide) W)
 | .text i n=>CM b d _ _ _ (by decide) (by decide) (by decide) (Ab fun W _=>Bk b _ _ (by decide) W)
 | .bool i n=>CM b d _ _ _ (by decide) (by decide) (by decide) (Ab fun W _=>Bk b _ _ (by decide) W)
 | .set i a n c F=>CM b d _ _ _ (by decide) (by decide) (by decide) (Ab fun W _=>Bk b _ _ (by decide) W)
 | .attr i n=>CM b d _ _ _ (by decide) (by decide) (by decide) (Ab fun W _=>Bk b _ _ (by decide) W)
 | .lett i n=>CM b d _ _ _ (by decide) (by decide) (by decide) (Ab fun W _=>Bk b _ _ (by decide) W)
 | .un i op k=>by
  have h1:=Dl b mb D d hc f h k;obtain ⟨j,o,e1⟩:=k.form;obtain ⟨q,r,g⟩:=(Ia D k).form;rw[e1,g] at h1;rw[Ia,Ex.val,Ex.val,e1,g];exact U8 b d i op j o q r (Ab h1)
 | .bin i op k l=>by
  have h1:=Dl b mb D d hc f h k;have h2:=Dl b mb D d hc f h l;obtain ⟨j,o,e1⟩:=k.form;obtain ⟨q,r,g⟩:=(Ia D k).form;obtain ⟨v,w,e2⟩:=l.form;obtain ⟨x,y,t⟩:=(Ia D l).form;rw[e1,g] at h1;rw[e2,t] at h2;rw[Ia,Ex.val,Ex.val,e1,g,e2,t];exact SF b d i op j o q r (Ab h1) v w x y (Ab h2)
 | .ite i k l m=>by
  have h1:=Dl b mb D d hc f h k;have h2:=Dl b mb D d hc f h l;have h3:=Dl b mb D d hc f h m;obtain ⟨j,o,e1⟩:=k.form;obtain ⟨q,r,g⟩:=(Ia D k).form;obtain ⟨v,w,e2⟩:=l.form;obtain ⟨x,y,t⟩:=(Ia D l).form;obtain ⟨A,B,e3⟩:=m.form;obtain ⟨C,E,z⟩:=(Ia D m).form;rw[e1,g] at h1;rw[e2,t] at h2;rw[e3,z] at h3;rw[Ia,Ex.val,Ex.val,e1,g,e2,t,e3,z];exact SG b d i j o q r (Ab h1) v w x y (Ab h2) A B C E (Ab h3)
end Go.Proofs.YtchakjeegneeoaaGreatDoor
