/-
  ZL, DVN, DWA. Own work.
-/
import Derived.Test.YtedlocniojlhfaaGreatDoorZI
import Derived.Test.YtedlocniojlhfaaGreatDoorMXAR
import Derived.Test.YtedlocniojlhfaaGreatDoorJS
import Derived.Test.YtedlocniojlhfaaGreatDoorMXAG
import Derived.Test.YtedlocniojlhfaaGreatDoorDVW
namespace Go.Proofs.YtedlocniojlhfaaGreatDoor
set_option maxRecDepth 100000
set_option maxHeartbeats 3200000
open Go.RowKit
set_option linter.unusedVariables false

theorem shapeT_iff (N:List Nd) (L:List St):shapeI N L=true↔∃ S,runT (N.map Nd.kids) N.length [] 0=some S∧topsI S=L.flatMap askedOf:=by
 rw [shapeI]
 cases h:runT (N.map Nd.kids) N.length [] 0 with
 | none=>simp
 | some S=>simp

theorem allT_of_allU {N:List Nd} (h:N.all fieldsU=true):N.all fieldsT=true:=by
 rw [List.all_eq_true] at h ⊢
 exact fun x hx=>((fieldsU_iff x).1 (h x hx)).1

theorem wellT_same (N:List Nd) (L:List St):(N.length≤4000∧1≤L.length∧L.length≤600)∧N.all fieldsU=true∧ValidS N L↔wellT N L=true∧N.all fieldsU=true:=by
 rw [← valid_same,ValidI,← shapeT_iff,wellT]
 simp only [Bool.and_eq_true,decide_eq_true_eq]
 constructor
 ·rintro ⟨⟨h1,h2⟩,h4,h3,h5⟩
  exact ⟨⟨⟨⟨h1,h2,h3⟩,allT_of_allU h4⟩,h5⟩,h4⟩
 ·rintro ⟨⟨⟨⟨h1,h2,h3⟩,_⟩,h5⟩,h4⟩
  exact ⟨⟨h1,h2⟩,h4,h3,h5⟩

theorem treesT_ex {N:List Nd} {L:List St} (W:WellPT N L):∃ Es:List Ex,Es.length=N.length∧∀ j,(h:j<Es.length)→IsT N j Es[j]:=by
 have:∀ k,k≤N.length→∃ Es:List Ex,Es.length=k∧(∀ j,(h:j<Es.length)→IsT N j Es[j])∧∀ e∈Es,e.typed:=by
  intro k
  induction k with
  | zero=>intro _;exact ⟨[],rfl,fun j h=>absurd h (by simp),fun e he=>(by cases he)⟩
  | succ k ih =>
   intro hk
   obtain ⟨Es,hl,hE,hf⟩:=ih (by omega)
   have hx:N[k]?=some (N[k]'(by omega)):=List.getElem?_eq_getElem _
   obtain ⟨e,_,ht,hfit⟩:=mkTT_of (an:=none) (nn:=0) (cn:=0) hx (W.fields _ (List.getElem_mem _)) (W.kids k _ hx) hl hE hf
   refine ⟨Es++[e],by simp [hl],fun j h=>?_,fun f hf'=>?_⟩
   ·by_cases hj:j<Es.length
    ·rw [List.getElem_append_left hj]
     exact hE j hj
    ·have:j=Es.length:=by simp at h;omega
     subst this
     simp only [List.getElem_concat_length]
     rw [hl];exact ht
   ·rcases List.mem_append.1 hf' with hf' | hf'
    ·exact hf f hf'
    ·simp at hf';subst hf';exact hfit
 obtain ⟨Es,h1,h2,_⟩:=this N.length nl
 exact ⟨Es,h1,h2⟩

theorem IsWT.one {N:List Nd} {L:List St} {T:List Int} {b c:Bool} (h:IsWT N L T b) (k:IsWT N L T c):b=c:=by
 rcases h with ⟨h1,rfl⟩ | ⟨h1,Es,a1,a2,rfl⟩
 ·rcases k with ⟨_,rfl⟩ | ⟨k1,_⟩
  ·rfl
  ·rw [h1] at k1;cases k1
 ·rcases k with ⟨k1,_⟩ | ⟨_,Fs,b1,b2,rfl⟩
  ·rw [h1] at k1;cases k1
  ·rw [ckAll_one a1 b1 a2 b2]

theorem isWT_no {N:List Nd} {L:List St} {T:List Int} (h:¬ (wellT N L=true∧N.all fieldsU=true)):IsWT N L T false:=by
 cases hw:wellT N L with
 | false=>exact .inl ⟨hw,rfl⟩
 | true =>
  obtain ⟨Es,h1,h2⟩:=treesT_ex (wellPT_of hw)
  refine .inr ⟨hw,Es,h1,h2,?_⟩
  cases hc:ckAll Es (attN,[],[]) L with
  | none=>rfl
  | some st=>exact absurd ⟨hw,allU_of hw h1 h2 hc⟩ h

theorem ckAll_full {N:List Nd} {L:List St} (hw:wellT N L=true) {Es:List Ex} (h1:Es.length=N.length) (h2:∀ j,(h:j<Es.length)→IsT N j Es[j]) {st:CkS} (hc:ckAll Es (attN,[],[]) L=some st):st.2.2.length=N.length:=by
 have:=(ckAll_len hc).1
 rw [cntL_all hw h1 h2] at this
 simpa using this

theorem isWT_len {N:List Nd} {L:List St} {T:List Int} (hw:wellT N L=true) (hl:T.length≠N.length):IsWT N L T false:=by
 obtain ⟨Es,h1,h2⟩:=treesT_ex (wellPT_of hw)
 refine .inr ⟨hw,Es,h1,h2,?_⟩
 cases hc:ckAll Es (attN,[],[]) L with
 | none=>rfl
 | some st =>
  have:=ckAll_full hw h1 h2 hc
  exact (decide_eq_false (fun e=>hl (by rw [← e,this]))).symm

theorem sWellTyped_any (a b e:Option Addr) (n c m d k f:Nat) (N:List Nd) (L:List St) (T:List Int) (w:World) (h1:Nds w a n c N) (h2:Sts w b m d L) (h3:Ints w e k f T) :
  Calls Tryz.prog 21 #[.agg #[.slice a n c,.slice b m d,.slice e k f]] w fun r w'=>(∃ v,r=.returned (.bool v)∧IsWT N L T v)∧Below w.heap.size w w':=by
 have HN:=hide h1.len
 have HL:=hide h2.len
 have HK:=hide h3.len
 have sn:=h1.small
 have sk:=h3.small
 have R0:=Row.new w #[.slice a n c,.slice b m d,.slice e k f] 38
 have B0:=(Below.refl w.heap.size w).alloc nl (.cells #[.slice a n c,.slice b m d,.slice e k f] 38)
 have N0:=h1.below B0 nl
 have L0:=h2.below B0 nl
 have I0:=h3.below B0 nl
 clear h1 h2 h3
 go_enter Tryz.func21,Tryz.ntmps21
 go_wp2_with fail
 refine (l2shapeU_any _ _ _ _ _ _ N L _ N0 L0).mono ?_
 rintro r w1 ⟨⟨v,rfl,hv⟩,hb1⟩
 dsimp only
 have N1:=N0.below hb1 nl
 have L1:=L0.below hb1 nl
 have I1:=I0.below hb1 nl
 have R1:=R0.after hb1 nl
 have B1:=B0.trans (hb1.mono B0.size)
 have hv2:v=true↔wellT N L=true∧N.all fieldsU=true:=by rw [hv,← wellT_same,uh HN,uh HL]
 clear N0 L0 I0 R0 B0 hb1 hv
 obtain ⟨q0,q1,q2⟩:=rowT3 R1
 cases v with
 | false =>
  have HX:=hide (isWT_no (T:=T) (fun h=>by have:=hv2.2 h;cases this))
  clear hv2
  go_wp2_with fail
  go_ret
  exact ⟨⟨false,rfl,uh HX⟩,B1⟩
 | true =>
  have HV:=hide (hv2.1 rfl)
  clear hv2
  by_cases hkn:k=n
  ·subst hkn
   have ekn:((k:Int) != (k:Int))=false:=by simp
   obtain ⟨hw,hu⟩:=uh HV
   have W:=wellPT_of hw
   obtain ⟨Es,t1,t2⟩:=treesT_ex W
   have k4:k≤4000:=by have:=W.n;rw [uh HN] at this;exact this
   have HC:=hide (l3check_any a b k c m d N L (fun x hx=>List.all_eq_true.1 hu x hx) w1 N1 L1 Es (by rw [t1,uh HN]) t2 k4 (by have:=W.m;rw [uh HL] at this;exact this) (spans_of hw t1 t2) (by rw [cntL_all hw t1 t2];exact W.n))
   have HW:=hide (show ∀ v,v=(match ckAll Es (attN,[],[]) L with | none=>false | some st=>decide (st.2.2=T))→IsWT N L T v from fun v e=>.inr ⟨hw,Es,t1,t2,e⟩)
   have HLL:=hide (show ∀ st,ckAll Es (attN,[],[]) L=some st→st.2.2.length=k from fun st h=>by rw [ckAll_full hw t1 t2 h,uh HN])
   generalize ckAll Es (attN,[],[]) L=o at HC HW HLL
   clear hw hu t1 t2 W N1 L1
   go_wp2_with fail
   refine (uh HC).mono ?_
   rintro r w2 (⟨B,lb,ns,ts,tt,nv,lv,tv,rfl,rfl,M2,hlb,hb2⟩ | ⟨rfl,⟨code,at2,rfl,hcd⟩,hb2⟩)
   ·have B2:=B1.trans (hb2.mono B1.size)
    have htl:tt.length=k:=uh HLL _ rfl
    obtain ⟨xt,ct,rfl,_⟩:=owns_form2 M2.types
    have T2:=ints_of_row M2.types (by omega)
    have HTL:=hide htl
    rw [htl] at T2 ⊢
    have I2:=I1.below hb2 nl
    have R2:=R1.after hb2 nl
    have C3:=(Below.refl w2.heap.size w2).alloc nl (.cells #[.int .i64 0,.int .i64 0] 88)
    have F3:=Row.new w2 #[.int .i64 0,.int .i64 0] 88
    obtain ⟨f0,f1⟩:=row2 F3
    have T3:=T2.below C3 nl
    have I3:=I2.below C3 nl
    have R3:=R2.after C3 nl
    have B3:=B2.trans (C3.mono B2.size)
    clear M2 T2 I2 R2 htl hb2 HC HLL q0 q1 q2
    dsimp only
    go_wp2_with fail
    generalize w2.alloc (.cells #[.int .i64 0,.int .i64 0] 88)=W3 at C3 F3 f0 f1 T3 I3 R3 B3 ⊢
    go_loopw [37] (fun i wr=>∃ j:Nat,j≤k∧i=.int .i64 j∧Below W3.heap.size W3 wr∧Hid (tt.take j=T.take j)) (fun i _=>k - (intOf i).toNat)
    case atStart=>exact ⟨0,Nat.zero_le _,rfl,Below.refl _ _,hide rfl⟩
    case round =>
     obtain ⟨j,hj,rfl,D,HJ⟩:=hrel
     have B4:=B3.trans (D.mono B3.size)
     by_cases hlt:j<k
     ·have ilt:(j:Int)<(k:Int):=by omega
      have j1:j<tt.length:=by rw [uh HTL];exact hlt
      have j2:j<T.length:=by rw [uh HK];exact hlt
      obtain ⟨bt,ot,rfl,hbt,ct0⟩:=(T3.below D nl).cells j j1
      obtain ⟨be,oe,rfl,hbe,ce0⟩:=(I3.below D nl).cells j j2
      obtain ⟨q0,q1,q2⟩:=rowT3 (R3.after D nl)
      have HS:=hide (show tt[j]=T[j]→tt.take (j+1)=T.take (j+1) from fun h=>by rw [List.take_succ_eq_append_getElem j1,List.take_succ_eq_append_getElem j2,uh HJ,h])
      have HF:=hide (show tt[j]≠T[j]→tt≠T from fun h e=>h (by subst e;rfl))
      have Hlt:=hide hlt
      generalize tt[j]=x at ct0 HS HF
      generalize T[j]=y at ce0 HS HF
      clear hlt j1 j2
      by_cases hxy:x=y
      ·have exy:(x != y)=false:=by rw [hxy];simp
       have HX:=hide (uh HS hxy)
       clear hxy HS HF
       go_wp2_with fail
       go_roundw
       case rel=>exact ⟨j+1,uh Hlt,by go_num,D,HX⟩
       case measure=>have:=uh Hlt;simp [intOf];omega
      ·have exy:(x != y)=true:=bne_iff_ne.2 hxy
       have HX:=hide (uh HW false (decide_eq_false (uh HF hxy)).symm)
       clear hxy HS HF
       go_wp2_with fail
       go_ret
       exact ⟨⟨false,rfl,uh HX⟩,B4⟩
     ·have e:j=k:=by omega
      subst e
      have HX:=hide (uh HW true (decide_eq_true (by have:=uh HJ;rwa [List.take_of_length_le (by rw [uh HTL];exact nl),List.take_of_length_le (by rw [uh HK];exact nl)] at this)).symm)
      go_wp2_with fail
      go_ret
      exact ⟨⟨true,rfl,uh HX⟩,B4⟩
   ·have ec:(code != 0)=true:=bne_iff_ne.2 hcd
    have HX:=hide (uh HW false rfl)
    have B2:=B1.trans (hb2.mono B1.size)
    have C3:=(Below.refl w2.heap.size w2).alloc nl (.cells #[.int .i64 code,.int .i64 at2] 88)
    obtain ⟨f0,f1⟩:=row2 (Row.new w2 #[.int .i64 code,.int .i64 at2] 88)
    have B3:=B2.trans (C3.mono B2.size)
    clear hcd HC HW HLL
    dsimp only
    go_wp2_with fail
    go_ret
    exact ⟨⟨false,rfl,uh HX⟩,B3⟩
  ·have ekn:((k:Int) != (n:Int))=true:=bne_iff_ne.2 (by omega)
   have HX:=hide (isWT_len (T:=T) (uh HV).1 (by rw [uh HK,uh HN];exact hkn))
   clear hkn
   go_wp2_with fail
   go_ret
   exact ⟨⟨false,rfl,uh HX⟩,B1⟩

end Go.Proofs.YtedlocniojlhfaaGreatDoor

namespace Go.Proofs.YtedlocniojlhfaaGreatDoor
set_option maxRecDepth 100000
set_option maxHeartbeats 6400000
open Go.RowKit
set_option linter.unusedVariables false

variable {aS aO aZ aW:Addr}

def outOf (d:Dr):Int × Int × List ByteArray:=match d with
 | .out k sc=>(k,0,sc)
 | .err c=>(3,c,[])

def IsDc (N:List Nd) (L:List St) (T:List Int) (R:Rq) (o:Int × Int × List ByteArray):Prop :=
 (∃ v,IsWT N L T v∧(v && reqB R.cl R.us R.s1 R.s2)=false∧o=(4,0,[])) ∨
 (IsWT N L T true∧reqB R.cl R.us R.s1 R.s2=true∧∃ Es:List Ex,Es.length=N.length∧(∀ j,(h:j<Es.length)→IsT N j Es[j])∧o=outOf (decL R Es [] L))

theorem IsT.ev_one {N:List Nd} {i:Nat} {e:Ex} (t:IsT N i e):∀ {f:Ex},IsT N i f→∀ R ls,evE R ls e=evE R ls f:=by
 induction t with
 | int h ho hk=>intro f u R ls;rcases u.inv h with ⟨o,r⟩ | ⟨o,r⟩ | ⟨o,r⟩ | ⟨o,r⟩ | ⟨o,r⟩ | ⟨o,r⟩ | ⟨o,r⟩ | ⟨o,r⟩ | ⟨o,r⟩ | ⟨o,r⟩ <;> first | omega | (subst r;rfl)
 | text h ho hk=>intro f u R ls;rcases u.inv h with ⟨o,r⟩ | ⟨o,r⟩ | ⟨o,r⟩ | ⟨o,r⟩ | ⟨o,r⟩ | ⟨o,r⟩ | ⟨o,r⟩ | ⟨o,r⟩ | ⟨o,r⟩ | ⟨o,r⟩ <;> first | omega | (subst r;rfl)
 | bool h ho hk=>intro f u R ls;rcases u.inv h with ⟨o,r⟩ | ⟨o,r⟩ | ⟨o,r⟩ | ⟨o,r⟩ | ⟨o,r⟩ | ⟨o,r⟩ | ⟨o,r⟩ | ⟨o,r⟩ | ⟨o,r⟩ | ⟨o,r⟩ <;> first | omega | (subst r;rfl)
 | name h ho hk=>intro f u R ls;rcases u.inv h with ⟨o,r⟩ | ⟨o,r⟩ | ⟨o,r⟩ | ⟨o,r⟩ | ⟨o,r⟩ | ⟨o,r⟩ | ⟨o,r⟩ | ⟨o,r⟩ | ⟨o,r⟩ | ⟨o,r⟩ <;> first | omega | (subst r;rfl)
 | attr h ho hk=>intro f u R ls;rcases u.inv h with ⟨o,r⟩ | ⟨o,r⟩ | ⟨o,r⟩ | ⟨o,r⟩ | ⟨o,r⟩ | ⟨o,r⟩ | ⟨o,r⟩ | ⟨o,r⟩ | ⟨o,r⟩ | ⟨o,r⟩ <;> first | omega | (subst r;rfl)
 | lett h ho hk=>intro f u R ls;rcases u.inv h with ⟨o,r⟩ | ⟨o,r⟩ | ⟨o,r⟩ | ⟨o,r⟩ | ⟨o,r⟩ | ⟨o,r⟩ | ⟨o,r⟩ | ⟨o,r⟩ | ⟨o,r⟩ | ⟨o,r⟩ <;> first | omega | (subst r;rfl)
 | set h ho hk a n c=>intro f u R ls;rcases u.inv h with ⟨o,r⟩ | ⟨o,r⟩ | ⟨o,r⟩ | ⟨o,r⟩ | ⟨o,r⟩ | ⟨o,r⟩ | ⟨o,r⟩ | ⟨o,r⟩ | ⟨o,r⟩ | ⟨o,r⟩ <;> first | omega | (obtain ⟨_,_,_,r⟩:=r;subst r;rfl)
 | un h ho hk hi t ih =>
  intro f u R ls
  rcases u.inv h with ⟨o,r⟩ | ⟨o,r⟩ | ⟨o,r⟩ | ⟨o,r⟩ | ⟨o,r⟩ | ⟨o,r⟩ | ⟨o,r⟩ | ⟨o,k',e',hk',t',r⟩ | ⟨o,r⟩ | ⟨o,r⟩ <;> first | omega | skip
  subst r
  rw [hk] at hk'
  obtain rfl:=Int.ofNat.inj (List.cons.inj hk').1
  rw [evE,evE,ih t' R ls]
 | bin h ho hk hi t u ih1 ih2 =>
  intro f v R ls
  rcases v.inv h with ⟨o,r⟩ | ⟨o,r⟩ | ⟨o,r⟩ | ⟨o,r⟩ | ⟨o,r⟩ | ⟨o,r⟩ | ⟨o,r⟩ | ⟨o,r⟩ | ⟨o,k',l',e',g',hk',t',u',r⟩ | ⟨o,r⟩ <;> first | omega | skip
  subst r
  rw [hk] at hk'
  simp only [List.cons.injEq,and_true,Int.natCast_inj] at hk'
  obtain ⟨rfl,rfl⟩:=hk'
  rw [evE,evE,ih1 t' R ls,ih2 u' R ls]
 | ite h ho hk hi t u v ih1 ih2 ih3 =>
  intro f z R ls
  rcases z.inv h with ⟨o,r⟩ | ⟨o,r⟩ | ⟨o,r⟩ | ⟨o,r⟩ | ⟨o,r⟩ | ⟨o,r⟩ | ⟨o,r⟩ | ⟨o,r⟩ | ⟨o,r⟩ | ⟨o,k',l',m',e',g',h',hk',t',u',v',r⟩ <;> first | omega | skip
  subst r
  rw [hk] at hk'
  simp only [List.cons.injEq,and_true,Int.natCast_inj] at hk'
  obtain ⟨rfl,rfl,rfl⟩:=hk'
  rw [evE_iteO,evE_iteO,ih1 t' R ls,ih2 u' R ls,ih3 v' R ls]

theorem decL_one {N:List Nd} {Es Fs:List Ex} (h1:Es.length=N.length) (h2:Fs.length=N.length) (hE:∀ j,(h:j<Es.length)→IsT N j Es[j]) (hF:∀ j,(h:j<Fs.length)→IsT N j Fs[j]) (R:Rq):∀ (L:List St) (ls:List Vv),decL R Es ls L=decL R Fs ls L
 | [],ls=>rfl
 | s::L,ls=>by
  have key:∀ k:Nat,(Es[k]?=none∧Fs[k]?=none)∨∃ e f,Es[k]?=some e∧Fs[k]?=some f∧∀ ls,evE R ls e=evE R ls f:=fun k=>by
   by_cases hk:k<N.length
   ·exact .inr ⟨Es[k],Fs[k],List.getElem?_eq_getElem _,List.getElem?_eq_getElem _,fun ls=>(hE k (by omega)).ev_one (hF k (by omega)) R ls⟩
   ·exact .inl ⟨List.getElem?_eq_none (by omega),List.getElem?_eq_none (by omega)⟩
  have hg:∀ ls,decG R ls Es s.grant=decG R ls Fs s.grant:=fun ls=>by
   rw [decG,decG]
   rcases key s.grant.toNat with ⟨a,b⟩ | ⟨e,f,a,b,k⟩
   ·rw [a,b]
   ·rw [a,b];dsimp only;rw [k ls]
  have ih:=decL_one h1 h2 hE hF R L
  rw [decL,decL,hg ls]
  rcases key s.cond.toNat with ⟨a,b⟩ | ⟨e,f,a,b,k⟩
  ·rw [a,b]
  ·rw [a,b];dsimp only;rw [k ls];simp only [ih]

theorem IsDc.one {N:List Nd} {L:List St} {T:List Int} {R:Rq} {o p:Int × Int × List ByteArray} (h:IsDc N L T R o) (k:IsDc N L T R p):o=p:=by
 rcases h with ⟨v,h1,h2,rfl⟩ | ⟨h1,h2,Es,a1,a2,rfl⟩
 ·rcases k with ⟨_,_,_,rfl⟩ | ⟨k1,k2,_⟩
  ·rfl
  ·rw [h1.one k1,k2] at h2;cases h2
 ·rcases k with ⟨v,k1,k2,rfl⟩ | ⟨_,_,Fs,b1,b2,rfl⟩
  ·rw [k1.one h1,h2] at k2;cases k2
  ·rw [decL_one a1 b1 a2 b2]

theorem last_else:∀ {L:List St},stmtsI L=true→1≤L.length→∃ j,∃ h:j<L.length,L[j].cond=-1
 | [s],h,_=>by
  simp only [stmtsI,Bool.and_eq_true,List.isEmpty_nil] at h
  have hk:s.kind=3:=by simpa using h.1.2
  have:=h.1.1
  rw [stmtI,if_neg (by omega),if_neg (by omega),if_pos hk] at this
  simp only [Bool.and_eq_true,decide_eq_true_eq] at this
  exact ⟨0,by simp,this.2⟩
 | s::t::L,h,_=>by
  simp only [stmtsI,Bool.and_eq_true] at h
  obtain ⟨j,hj,e⟩:=last_else (L:=t::L) (by simp only [stmtsI,Bool.and_eq_true];exact h.2) (by simp)
  exact ⟨j+1,by simpa using hj,by simpa using e⟩

theorem wellT_stm {N:List Nd} {L:List St} (h:wellT N L=true):stmtsI L=true:=by
 simp only [wellT,Bool.and_eq_true,decide_eq_true_eq] at h
 exact h.1.1.2.2

theorem makes_mem {w0:World} {N:List Nd} {L:List St} (h:WellPT N L) (hsm:∀ x∈N,x.names.length≤1048576∧I64 x.num):Makes w0 N (fun e=>e.typed∧e.mem (fun b=>b<w0.heap.size) w0):=by
 intro k x an nn cn Es hx hl hE hf hS
 obtain ⟨e,m1,m2,m3⟩:=mkTT_of hx (h.fields _ (List.mem_of_getElem? hx)) (h.kids k _ hx) hl hE (fun e he=>(hf e he).1) (an:=an) (nn:=nn) (cn:=cn)
 refine ⟨e,m1,m2,m3,?_⟩
 have hk:=hsm x (List.mem_of_getElem? hx)
 have fitAt:∀ {m:Nat} {e:Ex},Es[m]?=some e→e.mem (fun b=>b<w0.heap.size) w0:=fun h=>(hf _ (List.mem_of_getElem? h)).2
 cases m1 with
 | int=>exact hk.2
 | text=>trivial
 | bool=>trivial
 | set =>
  refine ⟨hS,hk.1,fun ad e h0=>?_⟩
  obtain ⟨b,off,ha,hb,_⟩:=hS.cells 0 h0
  rw [e] at ha
  cases ha
  exact hb
 | name=>trivial
 | attr=>trivial
 | lett=>trivial
 | un _ _ g1=>have q:=fitAt g1;exact q
 | bin _ _ g1 g2=>exact ⟨fitAt g1,fitAt g2⟩
 | ite _ _ g1 g2 g3=>exact ⟨fitAt g1,fitAt g2,fitAt g3⟩

def OcAns (B:Nat) (o:Int × Int × List ByteArray) (w:World) (r:Ending) (w':World):Prop :=
 (∃ x cx,r=.returned (.agg #[.int .i64 o.1,.int .i64 o.2.1,.slice x o.2.2.length cx])∧w'.ownsRow B 9 1 (.slice x o.2.2.length cx) o.2.2.length (o.2.2.map Value.string))∧Below B w w'

theorem iDecide_any (a b e:Option Addr) (n c m d k f:Nat) (N:List Nd) (L:List St) (T:List Int) (R:Rq) (a1:Option Addr) (n1 c1:Nat) (a2:Option Addr) (n2 c2:Nat) (aT aN aA:Addr) (w:World) (h1:Nds w a n c N) (h2:Sts w b m d L) (h3:Ints w e k f T) (hT:TabOK w) (hV:Vok w aT) (hE:Eok w aN aA) (hs:Sent w aS aO aZ aW)
  (hq1:Strs w a1 n1 c1 R.s1) (hq2:Strs w a2 n2 c2 R.s2) (hl1:R.s1.length≤1048576) (hl2:R.s2.length≤1048576) (hcl:R.cl.size≤maxLen) (hus:R.us.size≤maxLen) (hlv:I64 R.lv) (hnw:I64 R.nw) (hsm:∀ x∈N,x.names.length≤1048576∧I64 x.num) :
  Calls Tryz.prog 9 #[.agg #[.slice a n c,.slice b m d,.slice e k f],.agg #[.string R.cl,.string R.us,.int .i64 R.lv,.int .i64 R.nw,.slice a1 n1 c1,.slice a2 n2 c2]] w fun r w'=>∃ o,IsDc N L T R o∧OcAns w.heap.size o w r w':=by
 have HW0:=hide (Below.refl w.heap.size w)
 have B0:=(Below.refl w.heap.size w).alloc nl (.cells #[.slice a n c,.slice b m d,.slice e k f] 38)
 have B1:=B0.alloc B0.size (.cells #[.string R.cl,.string R.us,.int .i64 R.lv,.int .i64 R.nw,.slice a1 n1 c1,.slice a2 n2 c2] 40)
 have B2:=B1.alloc B1.size (.cells #[.int .i64 0,.int .i64 0,.slice none 0 0] 33)
 have RT:=((Row.new w #[.slice a n c,.slice b m d,.slice e k f] 38).alloc (.cells #[.string R.cl,.string R.us,.int .i64 R.lv,.int .i64 R.nw,.slice a1 n1 c1,.slice a2 n2 c2] 40)).alloc (.cells #[.int .i64 0,.int .i64 0,.slice none 0 0] 33)
 have RR:=(Row.new (w.alloc (.cells #[.slice a n c,.slice b m d,.slice e k f] 38)) #[.string R.cl,.string R.us,.int .i64 R.lv,.int .i64 R.nw,.slice a1 n1 c1,.slice a2 n2 c2] 40).alloc (.cells #[.int .i64 0,.int .i64 0,.slice none 0 0] 33)
 have RO:=Row.new ((w.alloc (.cells #[.slice a n c,.slice b m d,.slice e k f] 38)).alloc (.cells #[.string R.cl,.string R.us,.int .i64 R.lv,.int .i64 R.nw,.slice a1 n1 c1,.slice a2 n2 c2] 40)) #[.int .i64 0,.int .i64 0,.slice none 0 0] 33
 simp only [World.size_alloc] at RR RO
 have N2:=h1.below B2 nl
 have L2:=h2.below B2 nl
 have I2:=h3.below B2 nl
 have T2:=hT.below B2 nl
 have V2:=hV.below B2 nl
 have E2:=hE.below B2 nl
 have S2:=hs.below B2 nl
 have P2:=hq1.below B2 nl
 have Q2:=hq2.below B2 nl
 have HN:=hide h1.len
 have HL:=hide h2.len
 have HSM:=hide hsm
 have HI:=hide (And.intro hlv hnw)
 clear h1 h2 h3 hT hV hE hs hq1 hq2 hsm hlv hnw B0 B1 HW0
 go_enter Tryz.func9,Tryz.ntmps9
 go_wp2_with fail
 generalize (((w.alloc (.cells #[.slice a n c,.slice b m d,.slice e k f] 38)).alloc (.cells #[.string R.cl,.string R.us,.int .i64 R.lv,.int .i64 R.nw,.slice a1 n1 c1,.slice a2 n2 c2] 40)).alloc (.cells #[.int .i64 0,.int .i64 0,.slice none 0 0] 33))=W2 at B2 RT RR RO N2 L2 I2 T2 V2 E2 S2 P2 Q2 ⊢
 generalize hw0:w.heap.size=tb at B2 RT RR RO ⊢
 have HW:=hide hw0
 generalize hqb:tb+1=qb at RR RO ⊢
 generalize hobe:qb+1=ob at RO ⊢
 have hob:tb≤ob:=by omega
 have hqo:qb≠ob∧tb≠ob∧tb≠qb:=by omega
 clear hw0 hqb hobe
 refine (iWellTyped_any _ _ _ _ _ _ _ _ _ N L T aT aN aA _ N2 L2 I2 T2 V2 E2).mono ?_
 rintro r w3 ⟨⟨v,rfl,hv⟩,hb3⟩
 have B3:=B2.trans (hb3.mono (Nat.le_trans (by have:=RT.lt;omega) nl))
 have RT3:=RT.after hb3 nl
 have RR3:=RR.after hb3 nl
 have RO3:=RO.after hb3 nl
 have N3:=N2.below hb3 nl
 have L3:=L2.below hb3 nl
 have S3:=S2.below hb3 nl
 have P3:=P2.below hb3 nl
 have Q3:=Q2.below hb3 nl
 clear N2 L2 I2 T2 V2 E2 S2 P2 Q2 RT RR RO
 cases v with
 | false =>
  have HX:=hide (show IsDc N L T R (4,0,[]) from .inl ⟨false,hv,rfl,rfl⟩)
  clear hv
  obtain ⟨x0,x1,x2⟩:=row3D RO3
  have f0:=fun j=>RO3.frozen j
  have f1:=fun j=>(RO3.set 0 (.int .i64 4)).frozen j
  have f2:=fun j=>((RO3.set 0 (.int .i64 4)).set 1 (.int .i64 0)).frozen j
  obtain ⟨p0,p1,p2⟩:=row3D (((RO3.set 0 (.int .i64 4)).set 1 (.int .i64 0)).set 2 (.slice none 0 0))
  have BE:=((B3.setCell (p:=⟨ob,0,none⟩) hob (.int .i64 4)).setCell (p:=⟨ob,1,none⟩) hob (.int .i64 0)).setCell (p:=⟨ob,2,none⟩) hob (.slice none 0 0)

  dsimp only
  go_wp2_with fail
  refine bodyPost_ret (v:=.agg #[.int .i64 4,.int .i64 0,.slice none 0 0]) (by simp [results,Tryz.results9,go_sem,p0,p1,p2]) rfl ⟨(4,0,[]),uh HX,⟨none,0,rfl,World.ownsRow_nil _ _ _ _⟩,?_⟩
  rw [uh HW]
  exact BE
 | true =>
  have HV:=hide hv
  clear hv
  obtain ⟨g0,g1,g2,g3,g4,g5⟩:w3.cell? ⟨qb,0,none⟩=some (.string R.cl)∧w3.cell? ⟨qb,1,none⟩=some (.string R.us)∧w3.cell? ⟨qb,2,none⟩=some (.int .i64 R.lv)∧w3.cell? ⟨qb,3,none⟩=some (.int .i64 R.nw)∧w3.cell? ⟨qb,4,none⟩=some (.slice a1 n1 c1)∧w3.cell? ⟨qb,5,none⟩=some (.slice a2 n2 c2):=⟨RR3.cell 0,RR3.cell 1,RR3.cell 2,RR3.cell 3,RR3.cell 4,RR3.cell 5⟩
  have HC:=hide (iValidRequest_any R.cl R.us R.lv R.nw a1 n1 c1 R.s1 a2 n2 c2 R.s2 w3 hcl hus P3 Q3)
  generalize hrq:reqB R.cl R.us R.s1 R.s2=rq at HC
  have HRQ:=hide hrq
  clear hrq
  dsimp only
  go_wp2_with fail
  refine (uh HC).mono ?_
  rintro r w4 ⟨rfl,hb4⟩
  have B4:=B3.trans (hb4.mono (by have:=RT3.lt;omega))
  have RT4:=RT3.after hb4 nl
  have RR4:=RR3.after hb4 nl
  have RO4:=RO3.after hb4 nl
  have N4:=N3.below hb4 nl
  have L4:=L3.below hb4 nl
  have S4:=S3.below hb4 nl
  have P4:=P3.below hb4 nl
  have Q4:=Q3.below hb4 nl
  clear N3 L3 S3 P3 Q3 RT3 RR3 RO3 HC g0 g1 g2 g3 g4 g5
  cases rq with
  | false =>
   have HX:=hide (show IsDc N L T R (4,0,[]) from .inl ⟨true,uh HV,by rw [uh HRQ];rfl,rfl⟩)
   obtain ⟨x0,x1,x2⟩:=row3D RO4
   have f0:=fun j=>RO4.frozen j
   have f1:=fun j=>(RO4.set 0 (.int .i64 4)).frozen j
   have f2:=fun j=>((RO4.set 0 (.int .i64 4)).set 1 (.int .i64 0)).frozen j
   obtain ⟨p0,p1,p2⟩:=row3D (((RO4.set 0 (.int .i64 4)).set 1 (.int .i64 0)).set 2 (.slice none 0 0))
   have BE:=((B4.setCell (p:=⟨ob,0,none⟩) hob (.int .i64 4)).setCell (p:=⟨ob,1,none⟩) hob (.int .i64 0)).setCell (p:=⟨ob,2,none⟩) hob (.slice none 0 0)

   dsimp only
   go_wp2_with fail
   refine bodyPost_ret (v:=.agg #[.int .i64 4,.int .i64 0,.slice none 0 0]) (by simp [results,Tryz.results9,go_sem,p0,p1,p2]) rfl ⟨(4,0,[]),uh HX,⟨none,0,rfl,World.ownsRow_nil _ _ _ _⟩,?_⟩
   rw [uh HW]
   exact BE
  | true =>
   obtain ⟨g0,g1,g2,g3,g4,g5⟩:w4.cell? ⟨qb,0,none⟩=some (.string R.cl)∧w4.cell? ⟨qb,1,none⟩=some (.string R.us)∧w4.cell? ⟨qb,2,none⟩=some (.int .i64 R.lv)∧w4.cell? ⟨qb,3,none⟩=some (.int .i64 R.nw)∧w4.cell? ⟨qb,4,none⟩=some (.slice a1 n1 c1)∧w4.cell? ⟨qb,5,none⟩=some (.slice a2 n2 c2):=⟨RR4.cell 0,RR4.cell 1,RR4.cell 2,RR4.cell 3,RR4.cell 4,RR4.cell 5⟩
   obtain ⟨y0,y1,y2⟩:=row3D RT4
   have C5:=(Below.refl w4.heap.size w4).alloc nl (.cells #[.string R.cl,.string R.us,.int .i64 R.lv,.int .i64 R.nw,.slice a1 n1 c1,.slice a2 n2 c2,.slice none 0 0] 62)
   have RT5:=RT4.after C5 nl
   obtain ⟨u0,u1,u2⟩:=row3D RT5
   dsimp only
   go_wp2_with fail
   have hwell:wellT N L=true:=by
    rcases uh HV with ⟨_,h⟩ | ⟨h,_⟩
    ·cases h
    ·exact h
   have HP:=hide (wellPT_of hwell)
   have HWL:=hide hwell
   have hzt:=RT4.lt
   have S5:=S4
   have HCS:=hide (fun (w5:World) (D5:Below w4.heap.size w4 w5)=>statementsOf_any a b n c m d N L w4 w5 N4 D5 (L4.below D5 nl) (fun e=>e.typed∧e.mem (fun b=>b<w4.heap.size) w4) (makes_mem (uh HP) (uh HSM)) (by rw [← uh HN];exact (uh HP).roots))
   have RE:=Row.new w4 #[.string R.cl,.string R.us,.int .i64 R.lv,.int .i64 R.nw,.slice a1 n1 c1,.slice a2 n2 c2,.slice none 0 0] 62
   clear hwell N4 L4
   refine (untyped_any _ _ _ _ _ _ _ _ _ _).mono ?_
   rintro r w5 ⟨rfl,hb5⟩
   have D5:=C5.trans (hb5.mono C5.size)
   have RE5:=RE.after hb5 nl
   dsimp only
   go_wp2_with fail
   refine (uh HCS w5 D5).mono ?_
   rintro r w6 ⟨⟨v,Es,rfl,hEl,hE,hf,O6⟩,hb6⟩
   have D6:=D5.trans (hb6.mono D5.size)
   have RE6:=RE5.after hb6 nl
   have Hm:=hide (show 1≤m∧m≤600 by rw [← uh HL];exact ⟨(uh HP).m0,(uh HP).m⟩)
   have HEl:=hide (show Es.length=N.length by rw [hEl,uh HN])
   have HE:=hide hE
   obtain ⟨xv,kv,rfl,hx⟩:=owns_form2 O6
   obtain ⟨g,rfl,hg,hgc⟩:=hx (by have:=uh Hm;omega)
   obtain ⟨cur,R6,_⟩:=row_of_owns O6
   have HCU:=hide (show ∀ (r:Nat) (u:Value),(stC Es 0 L)[r]?=some u→cur[r]?=some u from fun r u hu=>(R6.cell r).symm.trans (hgc r u hu))
   have gne:g≠w4.heap.size:=by have:=RE5.lt;omega
   have inR:∀ {x:Option Addr} {p q:Nat} {ss:List ByteArray},Strs w4 x p q ss→∀ ad,x=some ad→0<p→goodB w4.heap.size none ad.block:=fun hS ad e h0=>by
    obtain ⟨b9,o9,h9,l9,_⟩:=hS.cells 0 h0
    rw [e] at h9
    cases h9
    exact ⟨by show b9≠w4.heap.size;omega,fun ad e=>by cases e⟩
   have M6:EvO aS aO aZ aW w4.heap.size w4.heap.size R a1 n1 c1 a2 n2 c2 none 0 [] [] w6:=⟨⟨RE6,P4.below D6 nl,Q4.below D6 nl,hl1,hl2,inR P4,inR Q4,fun b hb=>⟨by have:=RE6.lt;omega,fun ad e=>by cases e⟩,(uh HI).1,(uh HI).2,by decide,fun j hj=>absurd hj (by simp),S4.below D6 nl⟩,World.ownsRow_nil _ _ _ _,nl⟩
   obtain ⟨st,hst⟩:∃ st,ckAll Es (attN,[],[]) L=some st:=by
    rcases uh HV with ⟨_,h⟩ | ⟨_,Fs,b1,b2,b3⟩
    ·cases h
    ·rw [ckAll_one (uh HEl) b1 hE b2]
     cases hq:ckAll Fs (attN,[],[]) L with
     | none=>rw [hq] at b3;cases b3
     | some st=>exact ⟨st,rfl⟩
   have HDD:=hide (decide_any w4 S4 w4.heap.size w4.heap.size nl R a1 n1 c1 a2 n2 c2 Es L m g kv cur w6 (uh HL) (uh Hm).2 (last_else (wellT_stm (uh HWL)) (uh HP).m0) (fun e he=>(hf e he).2) st hst (okP_of (uh HP) (uh HEl) hE (fun e he=>(hf e he).1)) D6 M6 R6 (uh HCU) gne)
   have HX0:=hide (show ∀ q,decL R Es [] L=q→IsDc N L T R (outOf q) from fun q hq=>.inr ⟨uh HV,uh HRQ,Es,uh HEl,hE,by rw [hq]⟩)
   generalize decL R Es [] L=dd at HDD HX0
   have HXD:=hide (uh HX0 dd rfl)
   clear HX0 hst hf hE hEl hx hgc O6 inR M6 HCS hb5 hb6 C5 RE RE5 RE6 D5 R6
   dsimp only
   go_wp2_with fail
   refine (uh HDD).mono ?_
   rintro r w7 ⟨hr,hb7⟩
   have D7:=D6.trans hb7
   have RO7:=RO4.after D7 nl
   have S7:=S4.below D7 nl
   have B7:=B4.trans (D7.mono (Nat.le_of_lt hzt))
   clear HDD
   cases dd with
   | out kk sc =>
    obtain ⟨x,cx,rfl,OO⟩:=hr
    have C8:=(Below.refl w7.heap.size w7).alloc nl (.cells #[.int .i64 kk,.int .i64 0,.slice x sc.length cx] 33)
    have RO8:=RO7.after C8 nl
    have B8:=B7.trans (C8.mono (by have:=RO7.lt;omega))
    have OO8:=World.ownsRow.alloc OO (.cells #[.int .i64 kk,.int .i64 0,.slice x sc.length cx] 33)
    have hob4:ob<w4.heap.size:=RO4.lt

    obtain ⟨x0,x1,x2⟩:=row3D RO8
    have f0:=fun j=>RO8.frozen j
    have f1:=fun j=>(RO8.set 0 (.int .i64 kk)).frozen j
    have f2:=fun j=>((RO8.set 0 (.int .i64 kk)).set 1 (.int .i64 0)).frozen j
    obtain ⟨p0,p1,p2⟩:=row3D (((RO8.set 0 (.int .i64 kk)).set 1 (.int .i64 0)).set 2 (.slice x sc.length cx))
    have BE:=((B8.setCell (p:=⟨ob,0,none⟩) hob (.int .i64 kk)).setCell (p:=⟨ob,1,none⟩) hob (.int .i64 0)).setCell (p:=⟨ob,2,none⟩) hob (.slice x sc.length cx)

    have O9:=own_set3 (own_set3 (own_set3 OO8 ⟨ob,0,none⟩ (.int .i64 kk) (fun q hq=>by have:=(OO8.lt q hq).1;show q≠ob;omega)) ⟨ob,1,none⟩ (.int .i64 0) (fun q hq=>by have:=(OO8.lt q hq).1;show q≠ob;omega)) ⟨ob,2,none⟩ (.slice x sc.length cx) (fun q hq=>by have:=(OO8.lt q hq).1;show q≠ob;omega)
    obtain ⟨m0,m1,m2⟩:=row3D (Row.new w7 #[.int .i64 kk,.int .i64 0,.slice x sc.length cx] 33)
    dsimp only
    go_wp2_with fail
    refine bodyPost_ret (v:=.agg #[.int .i64 kk,.int .i64 0,.slice x sc.length cx]) (by simp [results,Tryz.results9,go_sem,p0,p1,p2]) rfl ⟨(kk,0,sc),uh HXD,⟨x,cx,rfl,?_⟩,?_⟩
    ·rw [uh HW]
     exact owns_low O9 (by omega)
    ·rw [uh HW]
     exact BE
   | err cc =>
    obtain ⟨er,rfl,hEr⟩:=hr
    obtain ⟨ue,hue⟩:=hEr.form
    subst hue
    have C8:=(Below.refl w7.heap.size w7).alloc nl (.cells #[.int .i64 0,.int .i64 0,.slice none 0 0] 33)
    have RO8:=RO7.after C8 nl
    have B8:=B7.trans (C8.mono (by have:=RO7.lt;omega))
    have HC8:=hide (evalP_any (S7.below C8 nl) (hEr.below C8 nl))

    obtain ⟨x0,x1,x2⟩:=row3D RO8
    have f0:=fun j=>RO8.frozen j
    have f1:=fun j=>(RO8.set 0 (.int .i64 3)).frozen j
    have f2:=fun j=>((RO8.set 0 (.int .i64 3)).set 1 (.int .i64 cc)).frozen j
    obtain ⟨p0,p1,p2⟩:=row3D (((RO8.set 0 (.int .i64 3)).set 1 (.int .i64 cc)).set 2 (.slice none 0 0))
    have BE:=((B8.setCell (p:=⟨ob,0,none⟩) hob (.int .i64 3)).setCell (p:=⟨ob,1,none⟩) hob (.int .i64 cc)).setCell (p:=⟨ob,2,none⟩) hob (.slice none 0 0)

    dsimp only
    go_wp2_with fail
    refine (uh HC8).mono ?_
    rintro r w9 ⟨rfl,hw9⟩
    rw [hw9]
    clear hw9
    dsimp only
    go_wp2_with fail
    refine bodyPost_ret (v:=.agg #[.int .i64 3,.int .i64 cc,.slice none 0 0]) (by simp [results,Tryz.results9,go_sem,p0,p1,p2]) rfl ⟨(3,cc,[]),uh HXD,⟨none,0,rfl,World.ownsRow_nil _ _ _ _⟩,?_⟩
    rw [uh HW]
    exact BE

end Go.Proofs.YtedlocniojlhfaaGreatDoor

namespace Go.Proofs.YtedlocniojlhfaaGreatDoor
set_option maxRecDepth 100000
set_option maxHeartbeats 6400000
open Go.RowKit
set_option linter.unusedVariables false

def OcG (B:Nat) (row:Option Nat) (o:Int × Int × List ByteArray) (w:World) (r:Ending) (w':World):Prop :=
 (∃ x cx,r=.returned (.agg #[.int .i64 o.1,.int .i64 o.2.1,.slice x o.2.2.length cx])∧w'.ownsRow B 9 1 (.slice x o.2.2.length cx) o.2.2.length (o.2.2.map Value.string))∧w.grownBy w' row∧o.2.2.length≤1048576∧∀ j,j<o.2.2.length→(nth o.2.2 j).size≤maxLen

theorem row6D {w:World} {b:Nat} {v0 v1 v2 v3 v4 v5:Value} {t:TypeId} (R:Row w b #[v0,v1,v2,v3,v4,v5] t):w.cell? ⟨b,0,none⟩=some v0∧w.cell? ⟨b,1,none⟩=some v1∧w.cell? ⟨b,2,none⟩=some v2∧w.cell? ⟨b,3,none⟩=some v3∧w.cell? ⟨b,4,none⟩=some v4∧w.cell? ⟨b,5,none⟩=some v5:=⟨R.cell 0,R.cell 1,R.cell 2,R.cell 3,R.cell 4,R.cell 5⟩

theorem grown_of {w w':World} (h:Below w.heap.size w w') (row:Option Nat):w.grownBy w' row:=⟨h.os,h.tape,h.output,h.size,fun k hk _=>h.block k hk⟩

theorem dec_err (a:Option Addr) (n c b off m d:Nat) (e:Option Addr) (k2 f k:Nat) (hkm:k<m) (hm:m≤1048576) (R:Rq) (a1:Option Addr) (n1 c1:Nat) (a2:Option Addr) (n2 c2:Nat) (la:Option Addr) (ln lc:Nat) (w:World) (hb:b<w.heap.size) (nmS:ByteArray) (kd gr:Int) (k3:kd≠3) (i:Nat) (B:Nat) (row:Option Nat) (s0:w.cell? ⟨b,off+k*4,none⟩=some (.int .i64 kd)) (s1:w.cell? ⟨b,off+k*4+1,none⟩=some (.string nmS)) (s2:w.cell? ⟨b,off+k*4+2,none⟩=some (.int .i64 i)) (s3:w.cell? ⟨b,off+k*4+3,none⟩=some (.int .i64 gr)) (er:Int) (h1:∀ w2,Below w.heap.size w w2→Calls Tryz.prog 49 #[.slice a n c,.int .i64 i,.agg #[.string R.cl,.string R.us,.int .i64 R.lv,.int .i64 R.nw,.slice a1 n1 c1,.slice a2 n2 c2],.slice la ln lc] w2 (MAns (.err er) w2)) :
  Calls Tryz.prog 23 #[.agg #[.slice a n c,.slice (some ⟨b,off,none⟩) m d,.slice e k2 f],.int .i64 k,.agg #[.string R.cl,.string R.us,.int .i64 R.lv,.int .i64 R.nw,.slice a1 n1 c1,.slice a2 n2 c2],.slice la ln lc] w (OcG B row (3,er,[]) w):=by
 have B3:=(((Below.refl w.heap.size w).alloc nl (.cells #[.slice a n c,.slice (some ⟨b,off,none⟩) m d,.slice e k2 f] 38)).alloc (by simp) (.cells #[.string R.cl,.string R.us,.int .i64 R.lv,.int .i64 R.nw,.slice a1 n1 c1,.slice a2 n2 c2] 40)).alloc (by simp;omega) (.cells #[.int .i64 0,.int .i64 0,.slice none 0 0] 33)
 have d0:=(B3.cell (p:=⟨b,off+k*4,none⟩) hb).trans s0
 have d1:=(B3.cell (p:=⟨b,off+k*4+1,none⟩) hb).trans s1
 have d2:=(B3.cell (p:=⟨b,off+k*4+2,none⟩) hb).trans s2
 have d3:=(B3.cell (p:=⟨b,off+k*4+3,none⟩) hb).trans s3
 have B4:=B3.alloc B3.size (.cells #[.int .i64 kd,.string nmS,.int .i64 i,.int .i64 gr] 94)
 have RT:=(((Row.new w #[.slice a n c,.slice (some ⟨b,off,none⟩) m d,.slice e k2 f] 38).alloc (.cells #[.string R.cl,.string R.us,.int .i64 R.lv,.int .i64 R.nw,.slice a1 n1 c1,.slice a2 n2 c2] 40)).alloc (.cells #[.int .i64 0,.int .i64 0,.slice none 0 0] 33)).alloc (.cells #[.int .i64 kd,.string nmS,.int .i64 i,.int .i64 gr] 94)
 have RR:=((Row.new (w.alloc (.cells #[.slice a n c,.slice (some ⟨b,off,none⟩) m d,.slice e k2 f] 38)) #[.string R.cl,.string R.us,.int .i64 R.lv,.int .i64 R.nw,.slice a1 n1 c1,.slice a2 n2 c2] 40).alloc (.cells #[.int .i64 0,.int .i64 0,.slice none 0 0] 33)).alloc (.cells #[.int .i64 kd,.string nmS,.int .i64 i,.int .i64 gr] 94)
 have RO:=(Row.new ((w.alloc (.cells #[.slice a n c,.slice (some ⟨b,off,none⟩) m d,.slice e k2 f] 38)).alloc (.cells #[.string R.cl,.string R.us,.int .i64 R.lv,.int .i64 R.nw,.slice a1 n1 c1,.slice a2 n2 c2] 40)) #[.int .i64 0,.int .i64 0,.slice none 0 0] 33).alloc (.cells #[.int .i64 kd,.string nmS,.int .i64 i,.int .i64 gr] 94)
 have RS:=Row.new (((w.alloc (.cells #[.slice a n c,.slice (some ⟨b,off,none⟩) m d,.slice e k2 f] 38)).alloc (.cells #[.string R.cl,.string R.us,.int .i64 R.lv,.int .i64 R.nw,.slice a1 n1 c1,.slice a2 n2 c2] 40)).alloc (.cells #[.int .i64 0,.int .i64 0,.slice none 0 0] 33)) #[.int .i64 kd,.string nmS,.int .i64 i,.int .i64 gr] 94
 simp only [World.size_alloc] at RR RO RS
 have kin:(k:Int)<(m:Int):=by omega
 have HC:=hide h1
 clear s0 s1 s2 s3 h1
 go_enter Tryz.func23,Tryz.ntmps23
 go_wp2_with fail
 generalize ((((w.alloc (.cells #[.slice a n c,.slice (some ⟨b,off,none⟩) m d,.slice e k2 f] 38)).alloc (.cells #[.string R.cl,.string R.us,.int .i64 R.lv,.int .i64 R.nw,.slice a1 n1 c1,.slice a2 n2 c2] 40)).alloc (.cells #[.int .i64 0,.int .i64 0,.slice none 0 0] 33)).alloc (.cells #[.int .i64 kd,.string nmS,.int .i64 i,.int .i64 gr] 94))=X at *
 have HB:=hide B4
 have LX:=hide (show w.heap.size+1+1+1<X.heap.size from RS.lt)
 clear B3 B4 d0 d1 d2 d3 hb kin hkm hm
 refine (uh HC _ (uh HB)).mono ?_
 rintro r w4 ⟨⟨cd,nm,tx,xa,xn,xc,rfl,rfl,hce⟩,hb4⟩
 have C5:=(Below.refl w4.heap.size w4).alloc nl (.cells #[.int .i64 cd,.int .i64 nm,.string tx,.slice xa xn xc] 96)
 have C4:=hb4.trans (C5.mono hb4.size)
 have RF:=Row.new w4 #[.int .i64 cd,.int .i64 nm,.string tx,.slice xa xn xc] 96
 replace RT:=RT.after C4 nl
 replace RR:=RR.after C4 nl
 replace RO:=RO.after C4 nl
 replace RS:=RS.after C4 nl
 replace HB:=hide ((uh HB).trans (C4.mono (uh HB).size))
 clear hb4 C5 C4 HC
 obtain ⟨x0,x1,x2,x3⟩:=row4V RF
 obtain ⟨o0,o1,o2⟩:=rowT3 RO
 have of:=fun j=>RO.frozen j
 obtain ⟨p0,p1,p2⟩:=rowT3 (((RO.set 0 (.int .i64 3)).set 1 (.int .i64 cd)).set 2 (.slice none 0 0))
 have HBE:=hide ((((uh HB).setCell (p:=⟨w.heap.size+1+1,0,none⟩) (by simp;omega) (.int .i64 3)).setCell (p:=⟨w.heap.size+1+1,1,none⟩) (by simp;omega) (.int .i64 cd)).setCell (p:=⟨w.heap.size+1+1,2,none⟩) (by simp;omega) (.slice none 0 0))
 clear RT RR RO HB
 try dsimp only
 go_wp2_with fail
 exact bodyPost_ret (v:=.agg #[.int .i64 3,.int .i64 cd,.slice none 0 0]) (by simp [results,Tryz.results23,go_sem,p0,p1,p2]) rfl ⟨⟨none,0,rfl,World.ownsRow_nil _ _ _ _⟩,grown_of (uh HBE) _,Nat.zero_le _,fun j h=>absurd h (Nat.not_lt_zero _)⟩

end Go.Proofs.YtedlocniojlhfaaGreatDoor
