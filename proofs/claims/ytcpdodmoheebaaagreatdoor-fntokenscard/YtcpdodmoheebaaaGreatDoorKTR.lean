/-
  FnTokens: the law. Own work.
-/
import Derived.Test.YtcpdodmoheebaaaGreatDoorKTP
import Derived.Test.YtcpdodmoheebaaaGreatDoorMXAV
import Derived.Test.YtcpdodmoheebaaaGreatDoorMXAT
namespace Go.Proofs.YtcpdodmoheebaaaGreatDoor
set_option maxRecDepth 100000
set_option maxHeartbeats 6400000
open Go.RowKit
set_option linter.unusedVariables false
variable {aS aB aT : Addr}
theorem Tks.step {s:ByteArray}{e:Nat}{t:Cq}{b:List Cq}{i:List UInt8}(he:e≤s.size)(h:Tks s.size ((Ad s).drop e) (t ::b) i):∃ a j,e≤t.at_∧1≤a∧t.at_+a≤s.size∧AT ((Ad s).drop t.at_)= .tok t.kind t.num (Ad t.text) a∧Be false (Ad (s.extract e t.at_))= []∧i=Ad (s.extract t.at_ (t.at_+a)) ++32 ::j∧Tks s.size ((Ad s).drop (t.at_+a)) b j:=by
 generalize hl:(Ad s).drop e=l at h
 generalize f:t ::b=w at h
 cases h with
 | nil h=>cases f
 | @cons g r c k m sl a x d p y n q=>
  simp only [List.cons.injEq] at f
  obtain ⟨rfl,rfl⟩:=f
  have e1:c ::r=(Ad s).drop (e+g.length):=by
   rw [← List.drop_drop,hl,List.drop_left]
  have e2:r.length+1=s.size - (e+g.length):=by
   have:=congrArg List.length e1
   rw [List.length_drop,Ag,List.length_cons] at this
   exact this
  have e3:s.size - (r.length+1)=e+g.length:=by omega
  have o:=Cm (c ::r)
  rw [n] at o
  obtain ⟨u,v,_⟩: 1≤a∧a≤(c ::r).length∧sl.length≤a:=o
  rw [List.length_cons] at v
  refine ⟨a,d,?_,u,?_,?_,?_,?_,?_⟩
  ·show e≤s.size - (r.length+1)
   omega
  ·show s.size - (r.length+1)+a≤s.size
   omega
  ·show AT ((Ad s).drop (s.size - (r.length+1)))= .tok k m (Ad (Bo sl)) a
   rw [e3,← e1,n,DF]
  ·show Be false (Ad (s.extract e (s.size - (r.length+1))))= []
   rw [e3,AC,hl,Nat.add_sub_cancel_left,List.take_left]
   exact p
  ·show (c ::r).take a ++32 ::d=Ad (s.extract (s.size - (r.length+1)) (s.size - (r.length+1)+a)) ++32 ::d
   rw [e3,AC,← e1,Nat.add_sub_cancel_left]
  ·show Tks s.size ((Ad s).drop (s.size - (r.length+1)+a)) b d
   rw [e3,← List.drop_drop,← e1]
   exact q
theorem Tks.last {n:Nat}{l:List UInt8}{a:List UInt8}(h:Tks n l [] a):Be false l= []∧a= []:=by
 cases h with
 | nil h=>exact ⟨h,rfl⟩
theorem G6 {s:ByteArray}(h:(Ax s).code=0):s.size≤4000∧∃ a,Tks s.size (Ad s) (Ax s).toks a:=by
 by_cases h4: 4000 < s.size
 ·rw [Ax,if_pos h4] at h
  cases h
 ·refine ⟨by omega,?_⟩
  have e:Ax s=AE s.size (s.size+1) (Ad s) []:=by rw [Ax,if_neg h4]
  rw [e] at h ⊢
  obtain ⟨b,a,e1,e2⟩:=Ea s.size (s.size+1) (Ad s) [] (by rw [Ag];omega) h
  rw [e1,List.nil_append]
  exact ⟨a,e2⟩
theorem G8 {n:Nat}{s:ByteArray}{l:List UInt8}{b:List Cq}(h:Tks n l b (Ad s))(h4:s.size≤4000):∃ a,Ax s=⟨a,0,0⟩∧a.map Lk=b.map Lk:=by
 obtain ⟨a,e1,e2⟩:=h.again s.size (s.size+1) [] (by rw [Ag];omega)
 exact ⟨a,by rw [Ax,if_neg (by omega),e1,List.nil_append],e2⟩
theorem Lo {a b:List Cq}(h:b.map Lk=a.map Lk)(k:Nat)(h1:k < a.length)(h2:k < b.length):b[k].kind=a[k].kind∧b[k].num=a[k].num∧b[k].text=a[k].text:=by
 have e:(b.map Lk)[k]? =(a.map Lk)[k]? :=by rw [h]
 rw [List.getElem?_map,List.getElem?_map,List.getElem?_eq_getElem h1,List.getElem?_eq_getElem h2] at e
 simp only [Option.map_some,Lk,Option.some.injEq,Prod.mk.injEq] at e
 exact e
theorem FR (a:Option Addr)(n c:Nat)(ay:List Int)(w:World)(h:Co w a n c ay)(az:Fc w aS aB aT):
  Calls Tryz.prog 3 #[.slice a n c] w fun e w'=>e= .returned (.bool true)∧Below w.heap.size w w':=by
 by_cases hl: 1048576 < n
 ·have a5:(1048576 :Int) < (n:Int):=by omega
  go_enter Tryz.func3,Tryz.ntmps3
  go_wp2_with fail
  go_ret
  exact ⟨rfl,Below.refl _ _⟩
 have a5: ¬ ((1048576 :Int) < (n:Int)):=by omega
 have a6:n≤1048576:=by omega
 clear hl
 have aA:=Ab az
 clear az
 go_enter Tryz.func3,Tryz.ntmps3
 go_wp2_with fail
 refine (Gw a n c ay w h a6).mono ?_
 rintro e bB ⟨⟨t,rfl,a7⟩,X⟩
 clear h
 dsimp only
 go_wp2_with fail
 refine (FY t _).mono ?_
 rintro e E ⟨x,bC,rfl,Y,aC,b1⟩
 have Z:=X.trans (b1.mono X.size)
 have aD:=Ab aC
 have aE:=Ab (fun (j:World) (aa:Below w.heap.size w j) (s:ByteArray)=>JT s j ((Aa aA).below aa (Nat.le_refl _)))
 have aF:=Ab (@G6 t)
 have F:=Ab (fun (j:World) (aa:Below w.heap.size w j)=>Aa aE j aa t)
 have a8:=(E9 t).1
 clear aC aA b1 X a7
 generalize Ax t=a9 at *
 obtain ⟨d,C,i⟩:=a9
 simp only at a8 Y ⊢
 have O:=Cs.of Y (Aa aD)
 clear Y
 have I:=Z.alloc Z.size (.cells #[.int .i64 C,.int .i64 (i:Int)] 26)
 have ab:=(Below.refl E.heap.size E).alloc (Nat.le_refl _) (.cells #[.int .i64 C,.int .i64 (i:Int)] 26)
 have l:=Ao.new E #[.int .i64 C,.int .i64 (i:Int)] 26
 have O:=O.below ab (Nat.le_refl _)
 have ba:(E.alloc (.cells #[.int .i64 C,.int .i64 (i:Int)] 26)).heap.size=E.heap.size+1:=by simp
 go_wp2_with fail
 generalize E.alloc (.cells #[.int .i64 C,.int .i64 (i:Int)] 26)=bb at I ab l O ba ⊢
 refine (Aa F bb I).mono ?_
 rintro e P ⟨y,bD,rfl,ac,_,Q⟩
 simp only at ac ⊢
 have r:=Cs.of ac (Aa aD)
 have l:=l.after Q (Nat.le_refl _)
 have aG:=I.trans (Q.mono I.size)
 have bE:=Q.size
 clear ac Q I ab O Z F
 have m:=aG.alloc aG.size (.cells #[.int .i64 C,.int .i64 (i:Int)] 26)
 have ad:=(Below.refl P.heap.size P).alloc (Nat.le_refl _) (.cells #[.int .i64 C,.int .i64 (i:Int)] 26)
 have l:=l.alloc (.cells #[.int .i64 C,.int .i64 (i:Int)] 26)
 have R:=Ao.new P #[.int .i64 C,.int .i64 (i:Int)] 26
 have r:=r.below ad (Nat.le_refl _)
 have v:_=some (Value.int .i64 C):=l.cell 0
 have c1:_=some (Value.int .i64 (i:Int)):=l.cell 1
 have z:_=some (Value.int .i64 C):=R.cell 0
 have d1:_=some (Value.int .i64 (i:Int)):=R.cell 1
 by_cases ae:C=0
 case neg=>
  have bF:=beq_eq_false_iff_ne.2 ae
  go_wp2_with fail
  go_ret
  exact ⟨rfl,m⟩
 case pos=>
  obtain ⟨bc,af,aH⟩:=Aa aF ae
  subst ae
  have aI:=Ab aH
  clear aH aF
  go_wp2_with fail
  generalize P.alloc (.cells #[.int .i64 0,.int .i64 (i:Int)] 26)=aJ at m ad l R r v c1 z d1 ⊢
  clear l R v c1 z d1 ad
  go_loopw [8,9,47] (fun bd bf A wr=>∃ (k e:Nat) (o:ByteArray) (ag:List UInt8),k≤d.length∧bd= .int .i64 e∧bf= .string o∧A= .int .i64 k∧e≤t.size∧o.size≤4001 * k∧Tks t.size ((Ad t).drop e) (d.drop k) ag∧Ad o ++ag=af∧Below aJ.heap.size aJ wr) (fun _ _ A _=>d.length - (intOf A).toNat)
  case atStart=>exact ⟨0,0,⟨#[]⟩,af,Nat.zero_le _,rfl,rfl,rfl,Nat.zero_le _,Nat.le_refl _,by rw [List.drop_zero,List.drop_zero];exact Aa aI,rfl,Below.refl _ _⟩
  case round=>
   obtain ⟨k,e,o,ag,bg,rfl,rfl,rfl,he,bG,G,J,f⟩:=hrel
   by_cases q:k < d.length
   ·have ah:(k:Int) < (d.length:Int):=by omega
    rw [List.drop_eq_getElem_cons q] at G
    obtain ⟨ai,aK,bh,bH,aL,aM,aN,aO,g7⟩:=G.step he
    have K:=r.below f (by have:=r.top;omega)
    obtain ⟨g,aj,bi,_,bj⟩:=K.form (by omega)
    subst aj
    obtain ⟨v,c1,c2,c3⟩:=K.cells k q
    have S:=Ab (fun (j:World)=>JS t d[k].kind d[k].num (Ad d[k].text) d[k].at_ ai j bc (by omega) aM)
    rw [Bt] at S
    have H:=Ab (fun (j:World)=>F4 (t.extract e d[k].at_) j (by rw [ByteArray.size_extract];omega) aN)
    have aP:=Ab g7
    have aQ:=Ab (show Ad (o ++(t.extract d[k].at_ (d[k].at_+ai) ++⟨#[32]⟩)) ++aK=af by
     rw [← J,aO]
     simp [Ad])
    have L:=Ab q
    clear G J aM aN aO g7
    generalize d[k]=b at v c1 c2 c3 S H aP aQ bh aL
    clear q
    have B:=f.alloc f.size (.cells #[.int .i64 b.kind,.int .i64 b.num,.string b.text,.int .i64 (b.at_:Int)] 30)
    have D:=Ao.new wr #[.int .i64 b.kind,.int .i64 b.num,.string b.text,.int .i64 (b.at_:Int)] 30
    go_wp2_with fail
    generalize wr.alloc (.cells #[.int .i64 b.kind,.int .i64 b.num,.string b.text,.int .i64 (b.at_:Int)] 30)=bk at B D ⊢
    refine (Aa S bk).mono ?_
    rintro e bl ⟨rfl,ak⟩
    have bm:=B.trans (ak.mono B.size)
    have bn:=D.after ak (Nat.le_refl _)
    clear B D ak v c1 c2 c3 S
    obtain ⟨aR,e1,e2,e3,-⟩:=An bn
    dsimp only
    go_wp2_with fail
    refine (Aa H bl).mono ?_
    rintro bo bp ⟨rfl,M⟩
    rw [M]
    clear M H
    have bq:(⟨#[32]⟩:ByteArray).size=1:=rfl
    dsimp only
    go_wp2_with fail
    refine ⟨⟨k+1,b.at_+ai,_,aK,Aa L,by go_num,rfl,by go_num,aL,?_,Aa aP,Aa aQ,bm⟩,?_⟩
    ·rw [Ae,Ae,bq,ByteArray.size_extract];omega
    ·have:=Aa L
     simp [intOf]
     omega
   ·have ah: ¬ ((k:Int) < (d.length:Int)):=by omega
    have ek:d.drop k= []:=List.drop_of_length_le (by omega)
    rw [ek] at G
    obtain ⟨aU,rfl⟩:=G.last
    rw [List.append_nil] at J
    have br:=Ab J
    have H:=Ab (fun (j:World)=>F4 (t.extract e t.size) j (by rw [ByteArray.size_extract];omega) (by rw [Fd];exact aU))
    clear G J ek aU
    go_wp2_with fail
    refine (Aa H wr).mono ?_
    rintro bo bp ⟨rfl,M⟩
    rw [M]
    clear M H
    dsimp only
    by_cases h4: 4000 < o.size
    ·have bs:(4000 :Int) < (o.size:Int):=by omega
     go_wp2_with fail
     go_ret
     exact ⟨rfl,m.trans (f.mono m.size)⟩
    ·have bs: ¬ ((4000 :Int) < (o.size:Int)):=by omega
     obtain ⟨bt,aV,al⟩:=G8 (by rw [Aa br];exact Aa aI) (by omega)
     have F:=Ab (Aa aE wr (m.trans (f.mono m.size)) o)
     rw [aV] at F
     have bu:=Ab al
     have bv:bt.length=d.length:=by have:=congrArg List.length al;simpa using this
     clear al aV
     go_wp2_with fail
     refine (Aa F).mono ?_
     rintro bI T ⟨u,bJ,rfl,ao,aW,aX⟩
     simp only at ao ⊢
     have ap:=Cs.of ao aW
     rw [bv] at ap ⊢
     have aq:=f.trans (aX.mono f.size)
     clear ao aW F
     have U:=(Below.refl T.heap.size T).alloc (Nat.le_refl _) (.cells #[.int .i64 0,.int .i64 0] 26)
     have V:=Ao.new T #[.int .i64 0,.int .i64 0] 26
     have ar:=ap.below U (Nat.le_refl _)
     have W:=aq.trans (U.mono aq.size)
     have au:=V.cell 0
     have av:=V.cell 1
     simp only [List.getElem?_toArray,List.getElem?_cons_zero,List.getElem?_cons_succ] at au av
     go_wp2_with fail
     generalize T.alloc (.cells #[.int .i64 0,.int .i64 0] 26)=aY at U V ar W au av ⊢
     have aZ:=m.trans (W.mono m.size)
     have a0:=r.below W (by have:=r.top;omega)
     clear au av V U aq f ap r aX m W
     go_loopw [118] (fun A wr=>∃ k:Nat,k≤d.length∧A= .int .i64 k∧Below aY.heap.size aY wr) (fun A _=>d.length - (intOf A).toNat)
     case atStart=>exact ⟨0,Nat.zero_le _,rfl,Below.refl _ _⟩
     case round=>
      obtain ⟨k,bg,rfl,f⟩:=hrel
      by_cases q:k < d.length
      ·have ah:(k:Int) < (d.length:Int):=by omega
       have K:=a0.below f (by have:=a0.top;omega)
       have a1:=ar.below f (by have:=ar.top;omega)
       obtain ⟨g,aj,bi,_,bj⟩:=K.form (by omega)
       obtain ⟨aw,bw,bK,_,ax⟩:=a1.form (by omega)
       subst aj
       subst bw
       obtain ⟨v,c1,c2,c3⟩:=K.cells k q
       obtain ⟨z,d1,d2,d3⟩:=a1.cells k (by omega)
       obtain ⟨a2,a3,a4⟩:=Lo (Aa bu) k q (by omega)
       rw [a2] at z
       rw [a3] at d1
       rw [a4] at d2
       clear a2 a3 a4 d3
       have L:=Ab q
       generalize d[k]=b at v c1 c2 c3 z d1 d2
       clear q
       have B:=f.alloc f.size (.cells #[.int .i64 b.kind,.int .i64 b.num,.string b.text,.int .i64 (b.at_:Int)] 30)
       have D:=Ao.new wr #[.int .i64 b.kind,.int .i64 b.num,.string b.text,.int .i64 (b.at_:Int)] 30
       have N:=(Below.refl wr.heap.size wr).alloc (Nat.le_refl _) (.cells #[.int .i64 b.kind,.int .i64 b.num,.string b.text,.int .i64 (b.at_:Int)] 30)
       have bx:=(N.cell (p:=⟨aw,k * 4,none⟩) ax).trans z
       have bz:=(N.cell (p:=⟨aw,k * 4+1,none⟩) ax).trans d1
       have bA:=(N.cell (p:=⟨aw,k * 4+2,none⟩) ax).trans d2
       obtain ⟨aR,e1,e2,e3,-⟩:=An D
       go_wp2_with fail
       generalize wr.alloc (.cells #[.int .i64 b.kind,.int .i64 b.num,.string b.text,.int .i64 (b.at_:Int)] 30)=bL at B D N bx bz bA aR e1 e2 e3 ⊢
       clear v c1 c2 c3 z d1 d2 N D
       go_quiet (fail)
       go_wp2_with fail
       refine ⟨⟨k+1,Aa L,by go_num,below_drewN B _⟩,?_⟩
       have:=Aa L
       simp [intOf]
       omega
      ·have ah: ¬ ((k:Int) < (d.length:Int)):=by omega
       go_wp2_with fail
       go_ret
       exact ⟨rfl,aZ.trans (f.mono aZ.size)⟩
end Go.Proofs.YtcpdodmoheebaaaGreatDoor
