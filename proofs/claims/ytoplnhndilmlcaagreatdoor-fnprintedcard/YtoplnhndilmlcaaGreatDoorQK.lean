/-
  The statements, with their trees. Own work.
-/
import Derived.Test.YtoplnhndilmlcaaGreatDoorMXAN
import Derived.Test.YtoplnhndilmlcaaGreatDoorVPK
namespace Go.Proofs.YtoplnhndilmlcaaGreatDoor
set_option maxRecDepth 100000
set_option maxHeartbeats 1600000
open Go.RowKit
set_option linter.unusedVariables false
def Ee (Es:List Ex) (k:Int):Value:=if k= -1 then .nilIface else match Es[k.toNat]? with
 | some e=>e.val
 | none=> .nilIface
def Mt (Es:List Ex) (j:Nat) (s:St):List Value:= [.int .i64 j,.int .i64 s.kind,.string s.name,Ee Es s.cond,Ee Es s.grant]
def Sm (Es:List Ex):Nat→List St→List Value
 | _, []=> []
 | i,s ::L=>Mt Es i s ++Sm Es (i+1) L
theorem ZZ (Es:List Ex):∀ (L:List St) (i:Nat),(Sm Es i L).length=L.length * 5
 | [],i=>rfl
 | s ::L,i=>by rw[Sm,List.length_append,ZZ Es L (i+1)];simp[Mt];omega
theorem Rq (Es:List Ex)(s:St):∀ (L:List St) (i:Nat),Sm Es i (L ++ [s])=Sm Es i L ++Mt Es (i+L.length) s
 | [],i=>by simp[Sm]
 | x ::L,i=>by
  rw[List.cons_append,Sm,Sm,Rq Es s L (i+1),List.append_assoc]
  congr 3
  simp;omega
theorem Yt (Es:List Ex):∀ (L:List St) (i j:Nat) (h:j < L.length) (r:Nat),r < 5→(Sm Es i L)[j * 5+r]? =(Mt Es (i+j) L[j])[r]?
 | x ::L,i,0,h,r,hr=>by
  rw[Sm,Nat.zero_mul,Nat.zero_add,List.getElem?_append_left (by simp[Mt];omega)];simp
 | x ::L,i,j+1,h,r,hr=>by
  rw[Sm,List.getElem?_append_right (by simp[Mt];omega)];have e:(j+1) * 5+r - (Mt Es i x).length=j * 5+r:=by simp[Mt];omega
  rw[e,Yt Es L (i+1) j (by simpa using h) r hr];simp only[List.getElem_cons_succ]
  congr 2
  omega
 | [],_,_,h,_,_=>absurd h (by simp)
theorem Z0:(Tryz.prog.info? 47).map (fun i=>(i.zero,i.size,i.bytes))=some (some (.agg #[.int .i64 0,.int .i64 0,.string ByteArray.empty,.nilIface,.nilIface]),5,64):=by kernel_rfl
theorem FL (Es:List Ex):Ee Es (-1)= .nilIface:=rfl
theorem JQ {Es:List Ex}{k:Int}(h0: 0≤k)(h:k < Es.length):Ee Es k=(Es[k.toNat]'(by omega)).val:=by
 rw[Ee,if_neg (by omega),List.getElem?_eq_getElem (by omega)]
theorem Hj (w:World)(v0 v1 a c d:Value)(t:TypeId)(b:Nat)(f:b=w.heap.size):∀ j u,([v0,v1,a,c,d]:List Value)[j]? =some u→(w.alloc (.cells #[v0,v1,a,c,d] t)).cell? ((⟨b,0,none⟩:Addr).add j)=some u:=fun j u h=>by
 subst f;have g:(⟨w.heap.size,0,none⟩:Addr).add j=⟨w.heap.size,j,none⟩:=by by_cases e:j=0 <;> simp[Addr.add,e]
 rw[g,(Aj.new w #[v0,v1,a,c,d] t).cell j,← h];simp
theorem Ab9 {w:World}{a:Nat}{e:TypeId}{size n:Nat}{v:Value}{b:List Value}(h:w.ownsRow a e size v n b)(p:Addr)(u:Value)(c:∀ q,v.ownBlock=some q→q≠p.block):(w.setCell p u).ownsRow a e size v n b:=
 FZ h (fun q hq=>heap_setCell_other w p q u (c q hq))
theorem JR (a b:Option Addr)(n c m d:Nat)(N:List Nd)(L:List St)(Q w:World)(h:Fe Q a n c N)(ao:Below Q.heap.size Q w)(ab:KU w b m d L)(P:Ex→Prop)(ap:Yr Q N P)
  (aq:∀ s∈L,(s.cond= -1∨(0≤s.cond∧s.cond < n))∧(s.grant= -1∨(0≤s.grant∧s.grant < n))):
  Calls Tryz.prog 12 #[.agg #[.slice a n c,.slice b m d]] w fun r w'=>(∃ v Es,r= .returned v∧Es.length=n∧(∀ j,(h:j < Es.length)→CP N j Es[j])∧(∀ e∈Es,P e)∧w'.ownsRow w.heap.size 47 5 v m (Sm Es 0 L))∧Below w.heap.size w w':=by
 have hm:=ab.small;have aS:=h.small;have ar:=Ab ab.len;have aC:=Ab aq;have aD:=Aj.new w #[.slice a n c,.slice b m d] 26;have ac:=(Below.refl w.heap.size w).alloc NLN (.cells #[.slice a n c,.slice b m d] 26);have aE:=Ab (Ro a n c N Q _ h (ao.trans (ac.mono ao.size)) P ap);clear aq ap h;obtain ⟨T,U,V,W,X⟩:=info_parts Z0;go_enter Tryz.func12,Tryz.ntmps12
 go_wp2_with fail
 refine (Aa aE).mono ?_;rintro r E ⟨⟨v,Es,rfl,aF,ad⟩,au⟩;subst aF;have R:=ac.trans (au.mono ac.size);have av:=aD.after au NLN;have aT:E.cell? ⟨w.heap.size,0,none⟩=some (.slice a Es.length c):=av.cell 0;have aU:E.cell? ⟨w.heap.size,1,none⟩=some (.slice b m d):=av.cell 1;obtain ⟨aV,aW,rfl,aw⟩:=ad.trs (by omega);have aG:=R.size;dsimp only;go_wp2_with fail
 go_loopw [4,14] (fun v i wr=>∃ (k:Nat),k≤m∧i= .int .i64 k∧wr.ownsRow E.heap.size 47 5 v k (Sm Es 0 (L.take k))∧Below E.heap.size E wr) (fun _ i _=>m - (intOf i).toNat)
 case atStart=>exact ⟨0,by omega,rfl,World.ownsRow_nil _ _ _ _,BRN⟩
 case round=>
  obtain ⟨k,hk,rfl,F,p⟩:=hrel;have aX:=p.size;by_cases ae:k < m
  ·have aY:(k:Int) < (m:Int):=by omega
   have Y:k < L.length:=by rw[Aa ar];exact ae
   obtain ⟨b1,aZ,rfl,a0,ax,c1,c2,c3⟩:=(ab.below (R.trans (p.mono R.size)) NLN).cells k Y;obtain ⟨hr1,hr2⟩:=Aa aC L[k] (List.getElem_mem Y);have o:=Ab (show Sm Es 0 (L.take (k+1))=Sm Es 0 (L.take k) ++Mt Es k L[k] by
    rw[List.take_succ_eq_append_getElem Y,Rq,List.length_take,Nat.zero_add,show min k L.length=k by omega])
   have H:=Ab ae;generalize L[k]=s at ax c1 c2 c3 hr1 hr2 o;generalize Sm Es 0 (L.take k)=a1 at F o;obtain ⟨aH,aI,rfl,_⟩:=Af F;have af:=aw.below p NLN;clear Y ae aw;obtain ⟨S,ag⟩:∃ S,S=s.cond:=⟨_,rfl⟩
   obtain ⟨I,ah⟩:∃ I,I=s.grant:=⟨_,rfl⟩
   rw[← ag] at c2 hr1;rw[← ah] at c3 hr2;have ay:=Ab (show Mt Es k s= [.int .i64 k,.int .i64 s.kind,.string s.name,Ee Es S,Ee Es I] by rw[ag,ah];rfl);rw[Aa ay] at o;clear ag ah ay;generalize s.kind=f at ax o;generalize s.name=nm at c1 o;rcases hr1 with rfl | hr1
   ·rcases hr2 with rfl | hr2
    ·have t:=(F.alloc (.cells #[.int .i64 f,.string nm,.int .i64 (-1),.int .i64 (-1)] 51)).alloc (.cells #[.int .i64 k,.int .i64 f,.string nm,.nilIface,.nilIface] 47);have x:=(p.alloc p.size (.cells #[.int .i64 f,.string nm,.int .i64 (-1),.int .i64 (-1)] 51)).alloc (by simp;omega) (.cells #[.int .i64 k,.int .i64 f,.string nm,.nilIface,.nilIface] 47);have J:=Ab (show [Value.int .i64 k,.int .i64 f,.string nm,Ee Es (-1),Ee Es (-1)]= [.int .i64 k,.int .i64 f,.string nm,.nilIface,.nilIface] by rw[FL]);rw[Aa J] at o;go_wp2_with (at_builtin;refine wpList_append_own _ rfl _ _ 42 rfl E.heap.size 47 T (.agg #[.int .i64 0,.int .i64 0,.string ByteArray.empty,.nilIface,.nilIface]) 5 64 Tryz.underlying42 U V W X rfl (by decide) _ _ _ rfl (World.ownsRow.alloc t _) ⟨wr.heap.size+2,0,none⟩ 1 1 [.int .i64 k,.int .i64 f,.string nm,.nilIface,.nilIface] rfl rfl ?d1 ?d2 ?d3 ?d4 ?d5 ?_)
     case d1=>exact Hj _ _ _ _ _ _ _ _ (by simp)
     case d2=>intro u hu;simp at hu;rcases hu with rfl | rfl | rfl | rfl <;> rfl
     case d3=>unfold maxLen;omega
     case d4=>omega
     case d5=>simp;omega
     intro ai aj K y _;have M:=(x.alloc x.size (.cells #[.int .i64 k,.int .i64 f,.string nm,.nilIface,.nilIface] 47)).grown y (by simp;omega) (fun q hq=>(t.lt q hq).1);clear y;go_wp2_with fail
     go_roundw
     case rel=>exact ⟨k+1,Aa H,by go_num,by rw[Aa o];exact K,M⟩
     case measure=>have:=Aa H;simp[intOf];omega
    ·obtain ⟨g,rfl⟩:∃ g:Nat,I=(g:Int):=⟨I.toNat,by omega⟩
     have O:=Ab (JQ (Es:=Es) (k:=(g:Int)) (by omega) (by omega));obtain ⟨az,aA,Z,aJ,ak,aK⟩:=af.get (k:=g) (List.getElem?_eq_getElem (by omega));simp only[Int.toNat_natCast] at O;obtain ⟨z,A,al⟩:=(Es[g]'(by omega)).form;rw[al] at O ak;have aL:((g:Int)== -1)=false:=beq_eq_false_iff_ne.2 (by omega);have aM:((g:Int) != -1)=true:=bne_iff_ne.2 (by omega);have aN:(g:Int) < (Es.length:Int):=by omega
     subst Z;have t:=(F.alloc (.cells #[.int .i64 f,.string nm,.int .i64 (-1),.int .i64 g] 51)).alloc (.cells #[.int .i64 k,.int .i64 f,.string nm,.nilIface,.iface z A] 47);have x:=(p.alloc p.size (.cells #[.int .i64 f,.string nm,.int .i64 (-1),.int .i64 g] 51)).alloc (by simp;omega) (.cells #[.int .i64 k,.int .i64 f,.string nm,.nilIface,.iface z A] 47);have J:=Ab (show [Value.int .i64 k,.int .i64 f,.string nm,Ee Es (-1),Ee Es g]= [.int .i64 k,.int .i64 f,.string nm,.nilIface,.iface z A] by rw[Aa O,FL]);rw[Aa J] at o;go_wp2_with (at_builtin;refine wpList_append_own _ rfl _ _ 42 rfl E.heap.size 47 T (.agg #[.int .i64 0,.int .i64 0,.string ByteArray.empty,.nilIface,.nilIface]) 5 64 Tryz.underlying42 U V W X rfl (by decide) _ _ _ rfl (World.ownsRow.alloc t _) ⟨wr.heap.size+2,0,none⟩ 1 1 [.int .i64 k,.int .i64 f,.string nm,.nilIface,.iface z A] rfl rfl ?d1 ?d2 ?d3 ?d4 ?d5 ?_)
     case d1=>exact Hj _ _ _ _ _ _ _ _ (by simp)
     case d2=>intro u hu;simp at hu;rcases hu with rfl | rfl | rfl | rfl | rfl <;> rfl
     case d3=>unfold maxLen;omega
     case d4=>omega
     case d5=>simp;omega
     intro ai aj K y _;have M:=(x.alloc x.size (.cells #[.int .i64 k,.int .i64 f,.string nm,.nilIface,.iface z A] 47)).grown y (by simp;omega) (fun q hq=>(t.lt q hq).1);clear y;go_wp2_with fail
     go_roundw
     case rel=>exact ⟨k+1,Aa H,by go_num,by rw[Aa o];exact K,M⟩
     case measure=>have:=Aa H;simp[intOf];omega
   ·obtain ⟨l,rfl⟩:∃ l:Nat,S=(l:Int):=⟨S.toNat,by omega⟩
    have aa:=Ab (JQ (Es:=Es) (k:=(l:Int)) (by omega) (by omega));obtain ⟨aO,aP,aB,a2,aQ,a3⟩:=af.get (k:=l) (List.getElem?_eq_getElem (by omega));simp only[Int.toNat_natCast] at aa;obtain ⟨B,C,aR⟩:=(Es[l]'(by omega)).form;rw[aR] at aa aQ;have a4:((l:Int)== -1)=false:=beq_eq_false_iff_ne.2 (by omega);have a5:((l:Int) != -1)=true:=bne_iff_ne.2 (by omega);have a6:(l:Int) < (Es.length:Int):=by omega
    rcases hr2 with rfl | hr2
    ·subst aB;have t:=(F.alloc (.cells #[.int .i64 f,.string nm,.int .i64 l,.int .i64 (-1)] 51)).alloc (.cells #[.int .i64 k,.int .i64 f,.string nm,.iface B C,.nilIface] 47);have x:=(p.alloc p.size (.cells #[.int .i64 f,.string nm,.int .i64 l,.int .i64 (-1)] 51)).alloc (by simp;omega) (.cells #[.int .i64 k,.int .i64 f,.string nm,.iface B C,.nilIface] 47);have J:=Ab (show [Value.int .i64 k,.int .i64 f,.string nm,Ee Es l,Ee Es (-1)]= [.int .i64 k,.int .i64 f,.string nm,.iface B C,.nilIface] by rw[Aa aa,FL]);rw[Aa J] at o;go_wp2_with (at_builtin;refine wpList_append_own _ rfl _ _ 42 rfl E.heap.size 47 T (.agg #[.int .i64 0,.int .i64 0,.string ByteArray.empty,.nilIface,.nilIface]) 5 64 Tryz.underlying42 U V W X rfl (by decide) _ _ _ rfl (World.ownsRow.alloc t _) ⟨wr.heap.size+2,0,none⟩ 1 1 [.int .i64 k,.int .i64 f,.string nm,.iface B C,.nilIface] rfl rfl ?d1 ?d2 ?d3 ?d4 ?d5 ?_)
     case d1=>exact Hj _ _ _ _ _ _ _ _ (by simp)
     case d2=>intro u hu;simp at hu;rcases hu with rfl | rfl | rfl | rfl | rfl <;> rfl
     case d3=>unfold maxLen;omega
     case d4=>omega
     case d5=>simp;omega
     intro ai aj K y _;have M:=(x.alloc x.size (.cells #[.int .i64 k,.int .i64 f,.string nm,.iface B C,.nilIface] 47)).grown y (by simp;omega) (fun q hq=>(t.lt q hq).1);clear y;go_wp2_with fail
     go_roundw
     case rel=>exact ⟨k+1,Aa H,by go_num,by rw[Aa o];exact K,M⟩
     case measure=>have:=Aa H;simp[intOf];omega
    ·obtain ⟨g,rfl⟩:∃ g:Nat,I=(g:Int):=⟨I.toNat,by omega⟩
     have O:=Ab (JQ (Es:=Es) (k:=(g:Int)) (by omega) (by omega));obtain ⟨az,aA,Z,aJ,ak,aK⟩:=af.get (k:=g) (List.getElem?_eq_getElem (by omega));simp only[Int.toNat_natCast] at O;obtain ⟨z,A,al⟩:=(Es[g]'(by omega)).form;rw[al] at O ak;have aL:((g:Int)== -1)=false:=beq_eq_false_iff_ne.2 (by omega);have aM:((g:Int) != -1)=true:=bne_iff_ne.2 (by omega);have aN:(g:Int) < (Es.length:Int):=by omega
     subst aB;obtain ⟨rfl,rfl⟩:aO=az∧aP=aA:=by simpa using Z
     clear Z;have t:=(F.alloc (.cells #[.int .i64 f,.string nm,.int .i64 l,.int .i64 g] 51)).alloc (.cells #[.int .i64 k,.int .i64 f,.string nm,.iface B C,.iface z A] 47);have x:=(p.alloc p.size (.cells #[.int .i64 f,.string nm,.int .i64 l,.int .i64 g] 51)).alloc (by simp;omega) (.cells #[.int .i64 k,.int .i64 f,.string nm,.iface B C,.iface z A] 47);have J:=Ab (show [Value.int .i64 k,.int .i64 f,.string nm,Ee Es l,Ee Es g]= [.int .i64 k,.int .i64 f,.string nm,.iface B C,.iface z A] by rw[Aa aa,Aa O]);rw[Aa J] at o;go_wp2_with (at_builtin;refine wpList_append_own _ rfl _ _ 42 rfl E.heap.size 47 T (.agg #[.int .i64 0,.int .i64 0,.string ByteArray.empty,.nilIface,.nilIface]) 5 64 Tryz.underlying42 U V W X rfl (by decide) _ _ _ rfl (World.ownsRow.alloc t _) ⟨wr.heap.size+2,0,none⟩ 1 1 [.int .i64 k,.int .i64 f,.string nm,.iface B C,.iface z A] rfl rfl ?d1 ?d2 ?d3 ?d4 ?d5 ?_)
     case d1=>exact Hj _ _ _ _ _ _ _ _ (by simp)
     case d2=>intro u hu;simp at hu;rcases hu with rfl | rfl | rfl | rfl | rfl <;> rfl
     case d3=>unfold maxLen;omega
     case d4=>omega
     case d5=>simp;omega
     intro ai aj K y _;have M:=(x.alloc x.size (.cells #[.int .i64 k,.int .i64 f,.string nm,.iface B C,.iface z A] 47)).grown y (by simp;omega) (fun q hq=>(t.lt q hq).1);clear y;go_wp2_with fail
     go_roundw
     case rel=>exact ⟨k+1,Aa H,by go_num,by rw[Aa o];exact K,M⟩
     case measure=>have:=Aa H;simp[intOf];omega
  ·have e:k=m:=by omega
   subst e;rw[show L.take k=L by rw[← Aa ar,List.take_length]] at F;obtain ⟨aH,aI,rfl,_⟩:=Af F;go_wp2_with fail
   go_ret
   exact ⟨⟨_,Es,rfl,rfl,ad.tree,ad.fit,Ks F aG⟩,R.trans (p.mono R.size)⟩
end Go.Proofs.YtoplnhndilmlcaaGreatDoor
