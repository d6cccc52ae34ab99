/-
  TY, SPA, SPB. Own work.
-/
import Derived.Test.YtoplnhndilmlcaaGreatDoorMXAR
import Derived.WalkMore
import Derived.Test.YtoplnhndilmlcaaGreatDoorMXAG
import Derived.Test.YtoplnhndilmlcaaGreatDoorMXAL
import Derived.Test.YtoplnhndilmlcaaGreatDoorMXAU
namespace Go.Proofs.YtoplnhndilmlcaaGreatDoor
set_option maxRecDepth 100000
set_option maxHeartbeats 6400000
open Go.RowKit
set_option linter.unusedVariables false
variable {aS aB aT : Addr}
def Ab5 (aS aB aT:Addr) (w:World) (R:Res) (e:Ending) (w':World):Prop:=
 (R.code=0∧R.at_=0∧∃ x c,e= .returned (.tuple #[.slice x R.toks.length c,.nilIface])∧w'.ownsRow w.heap.size 93 4 (.slice x R.toks.length c) R.toks.length (Gn R.toks)∧okT R.toks∧Below w.heap.size w w')∨
 (R.toks= []∧1≤R.code∧R.code≤3∧∃ b,e= .returned (.tuple #[.slice none 0 0,.iface 102 (.pointer (some ⟨b,0,none⟩))])∧Aj w' b #[.int .i64 (R.at_:Int),Il aS aB aT R.code] 107∧Below w.heap.size w w')
theorem Xk (t:ByteArray)(w:World)(S:M3 w aS aB aT):
  Calls Tryz.prog 39 #[.string t] w fun e w'=>Ab5 aS aB aT w (AW t) e w':=by
 by_cases h4: 4000 < t.size
 ·have ae:(4000 :Int) < (t.size:Int):=by omega
  have F:=Ab (show AW t=⟨[],1,0⟩ by rw[AW,if_pos h4]);have aD:=S.gS;go_enter Tryz.func39,Tryz.ntmps39
  go_wp2_with fail
  go_step3
  go_wp2_with fail
  refine (DY _ _ _ _).mono ?_;rintro e aE ⟨rfl,af,d⟩;go_wp2_with fail
  rw[Exit.noGoto_ret];go_ret2
  rw[Aa F];exact .inr ⟨rfl,by show (1 :Int)≤1;omega,by show (1 :Int)≤3;omega,w.heap.size,rfl,af,d⟩
 ·have ae: ¬ ((4000 :Int) < (t.size:Int)):=by omega
  have ht:t.size≤1048576:=by omega
  have F:=Ab (show AG t.size (t.size+1) (Al t) []=AW t by rw[AW,if_neg h4]);obtain ⟨i,hi,ag,ah,ai⟩:=info_parts AaE;go_enter Tryz.func39,Tryz.ntmps39
  go_wp2_with fail
  go_step3
  go_wp2_with fail
  go_step3
  go_wp2_with fail
  go_loopw [4,5] (fun v a wr=>∃ (k f:Nat) (T:List Ae),a= .int .i64 k∧k≤t.size∧t.size - k < f∧T.length≤k∧okT T∧AG t.size f ((Al t).drop k) T=AW t∧wr.ownsRow w.heap.size 93 4 v T.length (Gn T)∧Below w.heap.size w wr) (fun _ a _=>t.size - (intOf a).toNat)
  case atStart=>exact ⟨0,t.size+1, [],rfl,Nat.zero_le _,by omega,by simp,Aar,by rw[List.drop_zero];exact Aa F,World.ownsRow_nil _ _ _ _,BRN⟩
  case round=>
   obtain ⟨k,f,T,rfl,hk,hf,aF,W,X,h,d⟩:=hrel;have l:=Ab X;have o:=Ab W;clear X W;by_cases s:k < t.size
   case neg=>
    have e:(Al t).drop k= []:=List.drop_of_length_le (by rw[Av];omega);have Y:AW t=⟨T,0,0⟩:=by rw[← Aa l,e,JO]
    have H:=Ab Y;have aj: ¬ ((k:Int) < (t.size:Int)):=by omega
    clear Y e;obtain ⟨x,I,J⟩:=MH h;subst J;go_wp2_with fail
    go_ret2
    rw[Aa H];exact .inl ⟨rfl,rfl,x,I,rfl,h,Aa o,d⟩
   have aj:(k:Int) < (t.size:Int):=by omega
   by_cases h1:(t[k].toNat:Int)=32
   ·have p:=Ab (TH t k s (.inl h1));go_wp2_with fail
    go_roundw
    case rel=>exact ⟨k+1,f,T,by go_num,by omega,by omega,by omega,Aa o,by rw[← Aa l];exact Df _ _ (Aa p).symm _,h,d⟩
    case measure=>simp[intOf];omega
   have e1:=beq_eq_false_iff_ne.2 h1;by_cases h3:(t[k].toNat:Int)=9
   ·have p:=Ab (TH t k s (.inr (.inr h3)));go_wp2_with fail
    go_roundw
    case rel=>exact ⟨k+1,f,T,by go_num,by omega,by omega,by omega,Aa o,by rw[← Aa l];exact Df _ _ (Aa p).symm _,h,d⟩
    case measure=>simp[intOf];omega
   have e3:=beq_eq_false_iff_ne.2 h3;by_cases h2:(t[k].toNat:Int)=10
   ·have p:=Ab (TH t k s (.inr (.inl h2)));go_wp2_with fail
    go_roundw
    case rel=>exact ⟨k+1,f,T,by go_num,by omega,by omega,by omega,Aa o,by rw[← Aa l];exact Df _ _ (Aa p).symm _,h,d⟩
    case measure=>simp[intOf];omega
   have e2:=beq_eq_false_iff_ne.2 h2;by_cases h5:(t[k].toNat:Int)=35
   ·have p:=Ab (YF t k s h5);go_wp2_with fail
    go_loop [5] (fun a=>∃ q:Nat,k≤q∧q < t.size∧a= .int .i64 q∧Fg true ((Al t).drop k)=Fg true ((Al t).drop q)) (fun a=>t.size - (intOf a).toNat)
    case atStart=>exact ⟨k,NLN,s,rfl,rfl⟩
    case round=>
     obtain ⟨q,aG,hq,rfl,hi⟩:=hrel;have K:=Ab hi;clear hi;have aH:(q:Int) < (t.size:Int):=by omega
     by_cases h10:(t[q].toNat:Int)=10
     ·have E:=Ab (Abu t q hq h10);have aI:q≠k:=fun e=>by subst e;omega
      have ak:((t[q].toNat:Int) != 10)=false:=by rw[h10];rfl
      go_wp2_with fail
      go_roundw
      case rel=>exact ⟨q,f,T,rfl,by omega,by omega,by omega,Aa o,by rw[← Aa l];exact Df _ _ (by rw[Aa p,Aa K,Aa E]) _,h,d⟩
      case measure=>simp[intOf];omega
     ·have E:=Ab (Abt t q hq h10);have ak:((t[q].toNat:Int) != 10)=true:=bne_iff_ne.2 h10;by_cases aJ:q+1=t.size
      ·have al:((q:Int)+1==(t.size:Int))=true:=beq_iff_eq.2 (by omega);have H:=Ab (show AW t=⟨T,0,0⟩ by
        rw[← Aa l,← JO (n:=t.size) (f:=f)];exact Df _ _ (by rw[Aa p,Aa K,Aa E,Aaq true t (q+1) (by omega)];rfl) _)
       obtain ⟨x,I,J⟩:=MH h;subst J;go_wp2_with fail
       go_ret2
       rw[Aa H];exact .inl ⟨rfl,rfl,x,I,rfl,h,Aa o,d⟩
      ·have al:((q:Int)+1==(t.size:Int))=false:=beq_eq_false_iff_ne.2 (by omega);go_wp2_with fail
       go_round
       case rel=>exact ⟨q+1,by omega,by omega,by go_num,by rw[Aa K,Aa E]⟩
       case measure=>simp[intOf];omega
   have e5:=beq_eq_false_iff_ne.2 h5;have L:=Ab (Wh t k s h1 h2 h3 h5);go_wp2_with fail
   have Z:=Ab (RL t k);have ao:(t.extract k t.size).size=t.size - k:=by rw[ByteArray.size_extract];omega
   have M:=S.below d NLN;generalize t.extract k t.size=r at Z ao ⊢;refine (Nt r _ (by omega) (by omega) M).mono ?_;rintro e N ⟨rfl,C⟩;rw[Aa Z];have j:=BY t k s;have O:((Al t).drop (k+1)).length+1=t.size - k:=by rw[List.length_drop,Av];omega
   cases z:Dy ((Al t).drop k) with
   | bad c=>
    obtain ⟨u,rfl⟩:∃ u,f=u+1:=⟨f - 1,by omega⟩
    have aa:AW t=⟨[],c,k⟩:=by
     rw[← Aa l,j,Wk (by rw[← j];exact Aa L) (by rw[← j];exact z)]
     congr 1
     rw[O];omega
    have hc:c=2∨c=3:=Wi (by rw[← j];exact z);have ap:=Ab aa;obtain ⟨aq,P⟩:=Jj aS aB aT c;have ar:=Ab P;have A:=d.trans (C.mono d.size);have Q:=A.size;rw[show PW aS aB aT (.bad c)= .tuple #[.agg #[.int .i64 0,.int .i64 0,.string ⟨#[]⟩,.int .i64 0],.int .i64 0,.iface 256 (.pointer (some aq))] by rw[← P];rfl];have B:=A.alloc Q (.cells #[.int .i64 0,.int .i64 0,.string ⟨#[]⟩,.int .i64 0] 93);clear aa j O z h P C M;go_wp2_with fail
    generalize N.alloc (.cells #[.int .i64 0,.int .i64 0,.string ⟨#[]⟩,.int .i64 0] 93)=au at B ⊢;refine (DY _ _ _ _).mono ?_;rintro e aK ⟨rfl,av,R⟩;have aw:=B.trans (R.mono B.size);go_wp2_with fail
    go_ret2
    rw[Aa ap];exact .inr ⟨rfl,by show 1≤c;omega,by show c≤3;omega,au.heap.size,rfl,by rw[Aa ar];exact av,aw⟩
   | tok g m b y=>
    obtain ⟨aL,ax,aM⟩: 1≤y∧y≤((Al t).drop k).length∧b.length≤y:=by have:=Pb ((Al t).drop k);rw[z] at this;exact this
    rw[List.length_drop,Av] at ax;obtain ⟨u,rfl⟩:∃ u,f=u+1:=⟨f - 1,by omega⟩
    have ay:=Ab (show AG t.size u ((Al t).drop (k+y)) (T ++ [⟨g,m,Bg b,k⟩])=AW t by
     rw[← Aa l,j,Ez (by rw[← j];exact Aa L) (by rw[← j];exact z),← j,List.drop_drop,show t.size - (((Al t).drop (k+1)).length+1)=k by omega])
    have ab:okT (T ++ [⟨g,m,Bg b,k⟩]):=YH (Aa o) (by show (Bg b).size≤_;rw[YG];unfold maxLen;omega);have az:=Ab ab;have A:=d.trans (C.mono d.size);have ac:=RK h C;have Q:=A.size;rw[show PW aS aB aT (.tok g m b y)= .tuple #[.agg #[.int .i64 g,.int .i64 m,.string (Bg b),.int .i64 0],.int .i64 (y:Int),.nilIface] from rfl];clear j O z ab l L o h C M d;have B:=(A.alloc Q (.cells #[.int .i64 g,.int .i64 m,.string (Bg b),.int .i64 k] 93)).alloc (by simp;omega) (.cells #[.int .i64 g,.int .i64 m,.string (Bg b),.int .i64 k] 93);have U:=(ac.alloc (.cells #[.int .i64 g,.int .i64 m,.string (Bg b),.int .i64 k] 93)).alloc (.cells #[.int .i64 g,.int .i64 m,.string (Bg b),.int .i64 k] 93);have V:=Aj.new (N.alloc (.cells #[.int .i64 g,.int .i64 m,.string (Bg b),.int .i64 k] 93)) #[.int .i64 g,.int .i64 m,.string (Bg b),.int .i64 k] 93;simp only[World.size_alloc] at V;go_wp2_with (at_builtin;refine wpList_append_own _ rfl _ _ 89 rfl w.heap.size 93 i (.agg #[.int .i64 0,.int .i64 0,.string ByteArray.empty,.int .i64 0]) 4 40 Tryz.underlying89 hi ag ah ai rfl (by decide) _ _ _ rfl U ⟨N.heap.size+1,0,none⟩ 1 1 (JE ⟨g,m,Bg b,k⟩) rfl rfl ?c1 ?c2 ?c3 ?c4 ?c5 ?_)
    case c1=>exact NM (x:=⟨g,m,Bg b,k⟩) V
    case c2=>exact Uq _
    case c3=>unfold maxLen;omega
    case c4=>omega
    case c5=>simp;omega
    intro aN aA aC ad _;have R:Below w.heap.size w aA:=B.grown ad (by simp;omega) (fun q hq=>(U.lt q hq).1);clear ad ac U V A B;go_wp2_with fail
    go_roundw
    case rel=>exact ⟨k+y,u,T ++ [⟨g,m,Bg b,k⟩],by go_num,by omega,by omega,by simp;omega,Aa az,Aa ay,by rw[NN,List.length_append];exact aC,R⟩
    case measure=>simp[intOf];omega
end Go.Proofs.YtoplnhndilmlcaaGreatDoor
namespace Go.Proofs.YtoplnhndilmlcaaGreatDoor
set_option maxRecDepth 100000
set_option maxHeartbeats 1600000
open Go.RowKit
set_option linter.unusedVariables false
theorem Nq (a f:Option Addr)(n c g:Nat)(L:List Int)(w:World)(h:Do w a n c L)(j:Do w f n g L):
  Calls Tryz.prog 47 #[.slice a n c,.slice f n g] w fun e w'=>e= .returned (.bool true)∧Below w.heap.size w w':=by
 have o:=h.small;have p:=h.len;go_enter Tryz.func47,Tryz.ntmps47
 go_wp2_with fail
 go_loopw [5,6,14] (fun _ _ i wr=>∃ k:Nat,k≤n∧i= .int .i64 k∧Below w.heap.size w wr) (fun _ _ i _=>n - (intOf i).toNat)
 case atStart=>exact ⟨0,Nat.zero_le _,rfl,BRN⟩
 case round=>
  obtain ⟨k,hk,rfl,d⟩:=hrel;by_cases q:k < n
  ·obtain ⟨b,r,l,_,hc⟩:=(h.below d NLN).cells k (by omega);obtain ⟨s,t,m,_,u⟩:=(j.below d NLN).cells k (by omega);subst l;subst m;have v:(k:Int) < (n:Int):=by omega
   go_wp2_with fail
   first
    | (go_roundw
       case rel=>exact ⟨k+1,by omega,by go_num,d⟩
       case measure=>simp[intOf] <;> omega)
    | (go_quiet (fail)
       go_wp2_with fail
       go_roundw
       case rel=>exact ⟨k+1,by omega,by go_num,below_drewN d _⟩
       case measure=>simp[intOf] <;> omega)
  ·go_wp2_with fail
   go_ret
   exact ⟨rfl,d⟩
theorem Ab4 {w:World}{b:Nat}{v0 v1 a c:Value}{t:TypeId}(R:Aj w b #[v0,v1,a,c] t):w.cell? ⟨b,0,none⟩=some v0∧w.cell? ⟨b,1,none⟩=some v1∧w.cell? ⟨b,2,none⟩=some a∧w.cell? ⟨b,3,none⟩=some c:=⟨R.cell 0,R.cell 1,R.cell 2,R.cell 3⟩
theorem Mx (a m:Option Addr)(n c o:Nat)(L:List St)(w:World)(h:KU w a n c L)(s:KU w m n o L):
  Calls Tryz.prog 20 #[.slice a n c,.slice m n o] w fun e w'=>e= .returned (.bool true)∧Below w.heap.size w w':=by
 have A:=h.small;have B:=h.len;go_enter Tryz.func20,Tryz.ntmps20
 go_wp2_with fail
 go_loopw [5,6,14] (fun _ _ i wr=>∃ k:Nat,k≤n∧i= .int .i64 k∧Below w.heap.size w wr) (fun _ _ i _=>n - (intOf i).toNat)
 case atStart=>exact ⟨0,Nat.zero_le _,rfl,BRN⟩
 case round=>
  obtain ⟨k,hk,rfl,d⟩:=hrel;by_cases C:k < n
  ·obtain ⟨b,E,t,_,u,c1,c2,c3⟩:=(h.below d NLN).cells k (by omega);obtain ⟨g,j,v,l,q,d1,d2,d3⟩:=(s.below d NLN).cells k (by omega);subst t;subst v;have F:(k:Int) < (n:Int):=by omega
   go_wp2_with fail
   obtain ⟨x,e1,e2,e3⟩:=Ab4 (Aj.new wr #[.int .i64 L[k].kind,.string L[k].name,.int .i64 L[k].cond,.int .i64 L[k].grant] 51);have f:=(Below.refl wr.heap.size wr).alloc NLN (.cells #[.int .i64 L[k].kind,.string L[k].name,.int .i64 L[k].cond,.int .i64 L[k].grant] 51);have r:=d.trans (f.mono d.size);have y:=(f.cell (p:=⟨g,j+k * 4,none⟩) l).trans q;have f1:=(f.cell (p:=⟨g,j+k * 4+1,none⟩) l).trans d1;have f2:=(f.cell (p:=⟨g,j+k * 4+2,none⟩) l).trans d2;have z:=(f.cell (p:=⟨g,j+k * 4+3,none⟩) l).trans d3;clear u c1 c2 c3 q d1 d2 d3 f d;generalize wr.alloc (.cells #[.int .i64 L[k].kind,.string L[k].name,.int .i64 L[k].cond,.int .i64 L[k].grant] 51)=H at x e1 e2 e3 y f1 f2 z r ⊢;go_region
   go_wp2_with fail
   go_roundw
   case rel=>exact ⟨k+1,by omega,by go_num,below_drewN r _⟩
   case measure=>simp[intOf] <;> omega
  ·go_wp2_with fail
   go_ret
   exact ⟨rfl,d⟩
theorem My (a z:Option Addr)(n c A:Nat)(L:List Nd)(w:World)(h:Fe w a n c L)(H:Fe w z n A L):
  Calls Tryz.prog 19 #[.slice a n c,.slice z n A] w fun e w'=>e= .returned (.bool true)∧Below w.heap.size w w':=by
 have R:=h.small;have S:=h.len;go_enter Tryz.func19,Tryz.ntmps19
 go_wp2_with fail
 go_loopw [5,6,15] (fun _ _ i wr=>∃ k:Nat,k≤n∧i= .int .i64 k∧Below w.heap.size w wr) (fun _ _ i _=>n - (intOf i).toNat)
 case atStart=>exact ⟨0,Nat.zero_le _,rfl,BRN⟩
 case round=>
  obtain ⟨k,hk,rfl,g⟩:=hrel;by_cases T:k < n
  ·obtain ⟨b,U,I,V,an,nn,m,o,J,p,K,c1,c2,c3,c4,B,C⟩:=(h.below g NLN).cells k (by omega);obtain ⟨W,X,M,Y,q,d,s,t,f,u,N,d1,d2,d3,d4,E,F⟩:=(H.below g NLN).cells k (by omega);subst I;subst M;have Z:(k:Int) < (n:Int):=by omega
   obtain rfl:d=nn:=by rw[E.len,B.len]
   obtain rfl:f=J:=by rw[← F.len,← C.len]
   go_wp2_with fail
   have x:=(Below.refl wr.heap.size wr).alloc NLN (.cells #[.int .i64 L[k].op,.int .i64 L[k].num,.string L[k].text,.slice an d m,.slice o f p] 80);have j:=x.alloc x.size (.cells #[.int .i64 L[k].op,.int .i64 L[k].num,.string L[k].text,.slice q d s,.slice t f u] 80);have y:=(Aj.new wr #[.int .i64 L[k].op,.int .i64 L[k].num,.string L[k].text,.slice an d m,.slice o f p] 80).alloc (.cells #[.int .i64 L[k].op,.int .i64 L[k].num,.string L[k].text,.slice q d s,.slice t f u] 80);have v:=Aj.new (wr.alloc (.cells #[.int .i64 L[k].op,.int .i64 L[k].num,.string L[k].text,.slice an d m,.slice o f p] 80)) #[.int .i64 L[k].op,.int .i64 L[k].num,.string L[k].text,.slice q d s,.slice t f u] 80;simp only[World.size_alloc] at v;generalize (wr.alloc (.cells #[.int .i64 L[k].op,.int .i64 L[k].num,.string L[k].text,.slice an d m,.slice o f p] 80)).alloc (.cells #[.int .i64 L[k].op,.int .i64 L[k].num,.string L[k].text,.slice q d s,.slice t f u] 80)=O at j y v ⊢;refine (Mw _ _ _ _ _ _ O (B.below j NLN) (E.below j NLN)).mono ?_;rintro r P ⟨rfl,b3⟩;have aa:=(y.after b3 NLN).cell 4;have ab:=(v.after b3 NLN).cell 4;have l:=j.trans (b3.mono j.size);clear y v b3 x j K c1 c2 c3 c4 N d1 d2 d3 d4;dsimp only;go_wp2_with fail
   refine (Nq _ _ _ _ _ _ P (C.below l NLN) (F.below l NLN)).mono ?_;rintro r ac ⟨rfl,b4⟩;have Q:=g.trans ((l.trans (b4.mono l.size)).mono g.size);clear l b4 g;dsimp only;go_wp2_with fail
   go_roundw
   case rel=>exact ⟨k+1,by omega,by go_num,Q⟩
   case measure=>simp[intOf] <;> omega
  ·go_wp2_with fail
   go_ret
   exact ⟨rfl,g⟩
theorem KG (a f:Option Addr)(n c i:Nat)(b j:Option Addr)(m d k:Nat)(N:List Nd)(L:List St)(w:World)(h:Fe w a n c N)(t:Fe w f n i N)(g:KU w b m d L)(u:KU w j m k L):
  Calls Tryz.prog 9 #[.agg #[.slice a n c,.slice b m d],.agg #[.slice f n i,.slice j m k]] w fun e w'=>e= .returned (.bool true)∧Below w.heap.size w w':=by
 go_enter Tryz.func9,Tryz.ntmps9
 go_wp2_with fail
 have q:=(Below.refl w.heap.size w).alloc NLN (.cells #[.slice a n c,.slice b m d] 26);have l:=q.alloc q.size (.cells #[.slice f n i,.slice j m k] 26);have s:=(Aj.new w #[.slice a n c,.slice b m d] 26).alloc (.cells #[.slice f n i,.slice j m k] 26);have p:=Aj.new (w.alloc (.cells #[.slice a n c,.slice b m d] 26)) #[.slice f n i,.slice j m k] 26;simp only[World.size_alloc] at p;generalize (w.alloc (.cells #[.slice a n c,.slice b m d] 26)).alloc (.cells #[.slice f n i,.slice j m k] 26)=v at l s p ⊢;refine (My _ _ _ _ _ _ v (h.below l NLN) (t.below l NLN)).mono ?_;rintro r x ⟨rfl,b3⟩;have z:=(s.after b3 NLN).cell 1;have A:=(p.after b3 NLN).cell 1;have o:=l.trans (b3.mono l.size);clear s p b3 q l;dsimp only;go_wp2_with fail
 refine (Mx _ _ _ _ _ _ x (g.below o NLN) (u.below o NLN)).mono ?_;rintro r B ⟨rfl,b4⟩;have y:=o.trans (b4.mono o.size);clear o b4;dsimp only;go_wp2_with fail
 go_ret
 exact ⟨rfl,y⟩
end Go.Proofs.YtoplnhndilmlcaaGreatDoor
