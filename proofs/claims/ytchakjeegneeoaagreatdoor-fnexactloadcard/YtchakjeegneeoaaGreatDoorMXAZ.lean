/-
  QK, HD. Own work.
-/
import Derived.Test.YtchakjeegneeoaaGreatDoorMXAP
import Derived.Test.YtchakjeegneeoaaGreatDoorMXAN
import Derived.Test.YtchakjeegneeoaaGreatDoorMXAH
import Derived.Test.YtchakjeegneeoaaGreatDoorMXBJ
import Derived.Test.YtchakjeegneeoaaGreatDoorMXAD
import Derived.Test.YtchakjeegneeoaaGreatDoorMXBC
namespace Go.Proofs.YtchakjeegneeoaaGreatDoor
set_option maxRecDepth 100000
set_option maxHeartbeats 1600000
open Go.RowKit
set_option linter.unusedVariables false
def Ie (Es:List Ex) (k:Int):Value:=if k= -1 then .nilIface else match Es[k.toNat]? with
 |some e=>e.val
 |none=> .nilIface
def Xz (Es:List Ex) (j:Nat) (s:St):List Value:= [.int .i64 j,.int .i64 s.kind,.string s.name,Ie Es s.cond,Ie Es s.grant]
def Vc (Es:List Ex):Nat→List St→List Value
 |_, []=> []
 |i,s ::L=>Xz Es i s ++Vc Es (i+1) L
theorem Acr (Es:List Ex):∀ (L:List St) (i:Nat),(Vc Es i L).length=L.length * 5
 | [],i=>rfl
 |s ::L,i=>by rw[Vc,zA,Acr Es L (i+1)];simp[Xz];omega
theorem Um (Es:List Ex)(s:St):∀ (L:List St) (i:Nat),Vc Es i (L ++ [s])=Vc Es i L ++Xz Es (i+L.length) s
 | [],i=>by simp[Vc]
 |x ::L,i=>by
  rw[List.cons_append,Vc,Vc,Um Es s L (i+1),zC]
  congr 3
  simp;omega
theorem Acs:(Tryz.prog.info? 119).map (fun i=>(i.zero,i.size,i.bytes))=some (some (.agg #[.int .i64 0,.int .i64 0,.string ByteArray.empty,.nilIface,.nilIface]),5,64):=by kernel_rfl
theorem LD (Es:List Ex):Ie Es (-1)= .nilIface:=rfl
theorem LE {Es:List Ex}{k:Int}(h0: 0≤k)(h:k < Es.length):Ie Es k=(Es[k.toNat]'(by omega)).val:=by
 rw[Ie,if_neg (by omega),zH (by omega)]
theorem Gw (w:World)(a c d f g:Value)(t:TypeId)(b:Nat)(i:b=w.heap.size):∀ j u,([a,c,d,f,g]:List Value)[j]? =some u→(w.alloc (.cells #[a,c,d,f,g] t)).cell? ((⟨b,0,none⟩:Addr).add j)=some u:=fun j u h=>by
 subst i;have k:(⟨w.heap.size,0,none⟩:Addr).add j=⟨w.heap.size,j,none⟩:=by by_cases e:j=0 <;> simp[Addr.add,e]
 rw[k,(Al.new w #[a,c,d,f,g] t).cell j,← h];simp
theorem Wz {w:World}{a:Nat}{e:TypeId}{size n:Nat}{v:Value}{b:List Value}(h:w.ownsRow a e size v n b)(p:Addr)(u:Value)(hp:∀ q,v.ownBlock=some q→q≠p.block):(w.setCell p u).ownsRow a e size v n b:=
 At h (fun q hq=>heap_setCell_other w p q u (hp q hq))
theorem K0 (a b:Option Addr)(n c m d:Nat)(N:List Nd)(L:List St)(R w:World)(h:GQ R a n c N)(al:Below R.heap.size R w)(ab:KN w b m d L)(P:Ex→Prop)(ao:Aa2 R N P)
  (ap:∀ s∈L,(s.cond= -1∨(0≤s.cond∧s.cond < n))∧(s.grant= -1∨(0≤s.grant∧s.grant < n))):
  Calls Tryz.prog 59 #[.agg #[.slice a n c,.slice b m d]] w fun r w'=>(∃ v Es,r= .returned v∧Es.length=n∧(∀ j,(h:j < Es.length)→Ds N j Es[j])∧(∀ e∈Es,P e)∧w'.ownsRow w.heap.size 119 5 v m (Vc Es 0 L))∧Below w.heap.size w w':=by
 have aP:=ab.small;have aQ:=h.small;have aq:=Ab ab.len;have az:=Ab ap;have aA:=Al.new w #[.slice a n c,.slice b m d] 36;have ac:=(Below.refl w.heap.size w).alloc NLN (.cells #[.slice a n c,.slice b m d] 36);have aB:=Ab (Ul a n c N R _ h (al.trans (ac.mono al.size)) P ao);clear ap ao h;obtain ⟨T,U,V,W,X⟩:=info_parts Acs;go_enter Tryz.func59,Tryz.ntmps59
 go_wp2_with fail
 refine (Aa aB).mono ?_;rintro r F ⟨⟨v,Es,rfl,aC,ad⟩,ar⟩;subst aC;have S:=ac.trans (ar.mono ac.size);have au:=aA.after ar NLN;have aR:F.cell? ⟨w.heap.size,0,none⟩=some (.slice a Es.length c):=au.cell 0;have aS:F.cell? ⟨w.heap.size,1,none⟩=some (.slice b m d):=au.cell 1;obtain ⟨aT,aU,rfl,T1⟩:=ad.trs (by omega);have aD:=S.size;dsimp only;go_wp2_with fail
 go_loopw [4,14] (fun v i wr=>∃ (k:Nat),k≤m∧i= .int .i64 k∧wr.ownsRow F.heap.size 119 5 v k (Vc Es 0 (L.take k))∧Below F.heap.size F wr) (fun _ i _=>m - (intOf i).toNat)
 case atStart=>exact ⟨0,by omega,rfl,World.ownsRow_nil _ _ _ _,BRN⟩
 case round=>
  obtain ⟨k,hk,rfl,H,p⟩:=hrel;have aV:=p.size;by_cases ae:k < m
  ·have aW:(k:Int) < (m:Int):=by omega
   have Y:k < L.length:=by rw[Aa aq];exact ae
   obtain ⟨b1,aX,rfl,aY,c0,c1,c2,c3⟩:=(ab.below (S.trans (p.mono S.size)) NLN).cells k Y;obtain ⟨hr1,hr2⟩:=Aa az L[k] (zO Y);have o:=Ab (show Vc Es 0 (L.take (k+1))=Vc Es 0 (L.take k) ++Xz Es k L[k] by
    rw[zf Y,Um,zb,zX,show min k L.length=k by omega])
   have I:=Ab ae;generalize L[k]=s at c0 c1 c2 c3 hr1 hr2 o;generalize Vc Es 0 (L.take k)=aZ at H o;obtain ⟨aE,aF,rfl,_⟩:=Ad H;have af:=T1.below p NLN;clear Y ae T1;obtain ⟨cd,ag⟩:∃ cd,cd=s.cond:=⟨_,rfl⟩
   obtain ⟨J,ah⟩:∃ J,J=s.grant:=⟨_,rfl⟩
   rw[← ag] at c2 hr1;rw[← ah] at c3 hr2;have av:=Ab (show Xz Es k s= [.int .i64 k,.int .i64 s.kind,.string s.name,Ie Es cd,Ie Es J] by rw[ag,ah];rfl);rw[Aa av] at o;clear ag ah av;generalize s.kind=f at c0 o;generalize s.name=nm at c1 o;rcases hr1 with rfl | hr1
   ·rcases hr2 with rfl | hr2
    ·have t:=(H.alloc (.cells #[.int .i64 f,.string nm,.int .i64 (-1),.int .i64 (-1)] 60)).alloc (.cells #[.int .i64 k,.int .i64 f,.string nm,.nilIface,.nilIface] 119);have x:=(p.alloc p.size (.cells #[.int .i64 f,.string nm,.int .i64 (-1),.int .i64 (-1)] 60)).alloc (by simp;omega) (.cells #[.int .i64 k,.int .i64 f,.string nm,.nilIface,.nilIface] 119);have K:=Ab (show [Value.int .i64 k,.int .i64 f,.string nm,Ie Es (-1),Ie Es (-1)]= [.int .i64 k,.int .i64 f,.string nm,.nilIface,.nilIface] by rw[LD]);rw[Aa K] at o;go_wp2_with (at_builtin;refine wpList_append_own _ rfl _ _ 100 rfl F.heap.size 119 T (.agg #[.int .i64 0,.int .i64 0,.string ByteArray.empty,.nilIface,.nilIface]) 5 64 Tryz.underlying100 U V W X rfl (by decide) _ _ _ rfl (World.ownsRow.alloc t _) ⟨wr.heap.size+2,0,none⟩ 1 1 [.int .i64 k,.int .i64 f,.string nm,.nilIface,.nilIface] rfl rfl ?d1 ?d2 ?d3 ?d4 ?d5 ?_)
     case d1=>exact Gw _ _ _ _ _ _ _ _ (by simp)
     case d2=>intro u y;simp at y;rcases y with rfl | rfl | rfl | rfl <;> rfl
     case d3=>unfold maxLen;omega
     case d4=>omega
     case d5=>simp;omega
     intro v' ai M z _;have O:=(x.alloc x.size (.cells #[.int .i64 k,.int .i64 f,.string nm,.nilIface,.nilIface] 119)).grown z (by simp;omega) (fun q hq=>(t.lt q hq).1);clear z;go_wp2_with fail
     go_roundw
     case rel=>exact ⟨k+1,Aa I,by go_num,by rw[Aa o];exact M,O⟩
     case measure=>have:=Aa I;simp[intOf];omega
    ·obtain ⟨g,rfl⟩:∃ g:Nat,J=(g:Int):=⟨J.toNat,by omega⟩
     have Q:=Ab (LE (Es:=Es) (k:=(g:Int)) (by omega) (by omega));obtain ⟨aw,ax,Z,aG,aj,aH⟩:=af.get (k:=g) (zH (by omega));simp only[zj] at Q;obtain ⟨A,B,ak⟩:=(Es[g]'(by omega)).form;rw[ak] at Q aj;have aI:((g:Int)== -1)=false:=zB.2 (by omega);have aJ:((g:Int) != -1)=true:=zS.2 (by omega);have aK:(g:Int) < (Es.length:Int):=by omega
     subst Z;have t:=(H.alloc (.cells #[.int .i64 f,.string nm,.int .i64 (-1),.int .i64 g] 60)).alloc (.cells #[.int .i64 k,.int .i64 f,.string nm,.nilIface,.iface A B] 119);have x:=(p.alloc p.size (.cells #[.int .i64 f,.string nm,.int .i64 (-1),.int .i64 g] 60)).alloc (by simp;omega) (.cells #[.int .i64 k,.int .i64 f,.string nm,.nilIface,.iface A B] 119);have K:=Ab (show [Value.int .i64 k,.int .i64 f,.string nm,Ie Es (-1),Ie Es g]= [.int .i64 k,.int .i64 f,.string nm,.nilIface,.iface A B] by rw[Aa Q,LD]);rw[Aa K] at o;go_wp2_with (at_builtin;refine wpList_append_own _ rfl _ _ 100 rfl F.heap.size 119 T (.agg #[.int .i64 0,.int .i64 0,.string ByteArray.empty,.nilIface,.nilIface]) 5 64 Tryz.underlying100 U V W X rfl (by decide) _ _ _ rfl (World.ownsRow.alloc t _) ⟨wr.heap.size+2,0,none⟩ 1 1 [.int .i64 k,.int .i64 f,.string nm,.nilIface,.iface A B] rfl rfl ?d1 ?d2 ?d3 ?d4 ?d5 ?_)
     case d1=>exact Gw _ _ _ _ _ _ _ _ (by simp)
     case d2=>intro u y;simp at y;rcases y with rfl | rfl | rfl | rfl | rfl <;> rfl
     case d3=>unfold maxLen;omega
     case d4=>omega
     case d5=>simp;omega
     intro v' ai M z _;have O:=(x.alloc x.size (.cells #[.int .i64 k,.int .i64 f,.string nm,.nilIface,.iface A B] 119)).grown z (by simp;omega) (fun q hq=>(t.lt q hq).1);clear z;go_wp2_with fail
     go_roundw
     case rel=>exact ⟨k+1,Aa I,by go_num,by rw[Aa o];exact M,O⟩
     case measure=>have:=Aa I;simp[intOf];omega
   ·obtain ⟨l,rfl⟩:∃ l:Nat,cd=(l:Int):=⟨cd.toNat,by omega⟩
    have aa:=Ab (LE (Es:=Es) (k:=(l:Int)) (by omega) (by omega));obtain ⟨aL,aM,ay,a0,aN,a1⟩:=af.get (k:=l) (zH (by omega));simp only[zj] at aa;obtain ⟨C,E,aO⟩:=(Es[l]'(by omega)).form;rw[aO] at aa aN;have a2:((l:Int)== -1)=false:=zB.2 (by omega);have a3:((l:Int) != -1)=true:=zS.2 (by omega);have a4:(l:Int) < (Es.length:Int):=by omega
    rcases hr2 with rfl | hr2
    ·subst ay;have t:=(H.alloc (.cells #[.int .i64 f,.string nm,.int .i64 l,.int .i64 (-1)] 60)).alloc (.cells #[.int .i64 k,.int .i64 f,.string nm,.iface C E,.nilIface] 119);have x:=(p.alloc p.size (.cells #[.int .i64 f,.string nm,.int .i64 l,.int .i64 (-1)] 60)).alloc (by simp;omega) (.cells #[.int .i64 k,.int .i64 f,.string nm,.iface C E,.nilIface] 119);have K:=Ab (show [Value.int .i64 k,.int .i64 f,.string nm,Ie Es l,Ie Es (-1)]= [.int .i64 k,.int .i64 f,.string nm,.iface C E,.nilIface] by rw[Aa aa,LD]);rw[Aa K] at o;go_wp2_with (at_builtin;refine wpList_append_own _ rfl _ _ 100 rfl F.heap.size 119 T (.agg #[.int .i64 0,.int .i64 0,.string ByteArray.empty,.nilIface,.nilIface]) 5 64 Tryz.underlying100 U V W X rfl (by decide) _ _ _ rfl (World.ownsRow.alloc t _) ⟨wr.heap.size+2,0,none⟩ 1 1 [.int .i64 k,.int .i64 f,.string nm,.iface C E,.nilIface] rfl rfl ?d1 ?d2 ?d3 ?d4 ?d5 ?_)
     case d1=>exact Gw _ _ _ _ _ _ _ _ (by simp)
     case d2=>intro u y;simp at y;rcases y with rfl | rfl | rfl | rfl | rfl <;> rfl
     case d3=>unfold maxLen;omega
     case d4=>omega
     case d5=>simp;omega
     intro v' ai M z _;have O:=(x.alloc x.size (.cells #[.int .i64 k,.int .i64 f,.string nm,.iface C E,.nilIface] 119)).grown z (by simp;omega) (fun q hq=>(t.lt q hq).1);clear z;go_wp2_with fail
     go_roundw
     case rel=>exact ⟨k+1,Aa I,by go_num,by rw[Aa o];exact M,O⟩
     case measure=>have:=Aa I;simp[intOf];omega
    ·obtain ⟨g,rfl⟩:∃ g:Nat,J=(g:Int):=⟨J.toNat,by omega⟩
     have Q:=Ab (LE (Es:=Es) (k:=(g:Int)) (by omega) (by omega));obtain ⟨aw,ax,Z,aG,aj,aH⟩:=af.get (k:=g) (zH (by omega));simp only[zj] at Q;obtain ⟨A,B,ak⟩:=(Es[g]'(by omega)).form;rw[ak] at Q aj;have aI:((g:Int)== -1)=false:=zB.2 (by omega);have aJ:((g:Int) != -1)=true:=zS.2 (by omega);have aK:(g:Int) < (Es.length:Int):=by omega
     subst ay;obtain ⟨rfl,rfl⟩:aL=aw∧aM=ax:=by simpa using Z
     clear Z;have t:=(H.alloc (.cells #[.int .i64 f,.string nm,.int .i64 l,.int .i64 g] 60)).alloc (.cells #[.int .i64 k,.int .i64 f,.string nm,.iface C E,.iface A B] 119);have x:=(p.alloc p.size (.cells #[.int .i64 f,.string nm,.int .i64 l,.int .i64 g] 60)).alloc (by simp;omega) (.cells #[.int .i64 k,.int .i64 f,.string nm,.iface C E,.iface A B] 119);have K:=Ab (show [Value.int .i64 k,.int .i64 f,.string nm,Ie Es l,Ie Es g]= [.int .i64 k,.int .i64 f,.string nm,.iface C E,.iface A B] by rw[Aa aa,Aa Q]);rw[Aa K] at o;go_wp2_with (at_builtin;refine wpList_append_own _ rfl _ _ 100 rfl F.heap.size 119 T (.agg #[.int .i64 0,.int .i64 0,.string ByteArray.empty,.nilIface,.nilIface]) 5 64 Tryz.underlying100 U V W X rfl (by decide) _ _ _ rfl (World.ownsRow.alloc t _) ⟨wr.heap.size+2,0,none⟩ 1 1 [.int .i64 k,.int .i64 f,.string nm,.iface C E,.iface A B] rfl rfl ?d1 ?d2 ?d3 ?d4 ?d5 ?_)
     case d1=>exact Gw _ _ _ _ _ _ _ _ (by simp)
     case d2=>intro u y;simp at y;rcases y with rfl | rfl | rfl | rfl | rfl <;> rfl
     case d3=>unfold maxLen;omega
     case d4=>omega
     case d5=>simp;omega
     intro v' ai M z _;have O:=(x.alloc x.size (.cells #[.int .i64 k,.int .i64 f,.string nm,.iface C E,.iface A B] 119)).grown z (by simp;omega) (fun q hq=>(t.lt q hq).1);clear z;go_wp2_with fail
     go_roundw
     case rel=>exact ⟨k+1,Aa I,by go_num,by rw[Aa o];exact M,O⟩
     case measure=>have:=Aa I;simp[intOf];omega
  ·have e:k=m:=by omega
   subst e;rw[show L.take k=L by rw[← Aa aq,z3]] at H;obtain ⟨aE,aF,rfl,_⟩:=Ad H;go_wp2_with fail
   go_ret
   exact ⟨⟨_,Es,rfl,rfl,ad.tree,ad.fit,Mg H aD⟩,S.trans (p.mono S.size)⟩
set_option maxHeartbeats 12800000
theorem UR (t u:List UInt8):((AB t).toList== u)=decide (t=u):=by
 rw[za];show (t== u)=_;by_cases e:t=u
 ·rw[zW e,e];simp
 ·rw[zR e];simpa using e
theorem VC (t:Af)(w:World):Calls Tryz.prog 44 #[.agg #[.int .i64 t.kind,.int .i64 t.num,.string t.text,.int .i64 (t.at_:Int)]] w fun e w'=>e= .returned (.string (AB (tk t)))∧Below w.heap.size w w':=by
 have b:=(Below.refl w.heap.size w).alloc NLN (.cells #[.int .i64 t.kind,.int .i64 t.num,.string t.text,.int .i64 (t.at_:Int)] 51);by_cases h1:t.kind=1
 ·have a:=Ab (show tk t=Pn by rw[tk,if_pos h1]);have e1:(t.kind== 1)=true:=zN.2 h1;clear h1;go_enter Tryz.func44,Tryz.ntmps44
  go_wp2_with fail
  go_ret
  exact ⟨by rw[Aa a];rfl,b⟩
 by_cases h2:t.kind=2
 ·have a:=Ab (show tk t=FI by rw[tk,if_neg h1,if_pos h2]);have e1:(t.kind== 1)=false:=zB.2 h1;have e2:(t.kind== 2)=true:=zN.2 h2;clear h1 h2;go_enter Tryz.func44,Tryz.ntmps44
  go_wp2_with fail
  go_ret
  exact ⟨by rw[Aa a];rfl,b⟩
 by_cases h3:t.kind=3
 ·have a:=Ab (show tk t=ER by rw[tk,if_neg h1,if_neg h2,if_pos h3]);have e1:(t.kind== 1)=false:=zB.2 h1;have e2:(t.kind== 2)=false:=zB.2 h2;have e3:(t.kind== 3)=true:=zN.2 h3;clear h1 h2 h3;go_enter Tryz.func44,Tryz.ntmps44
  go_wp2_with fail
  go_ret
  exact ⟨by rw[Aa a];rfl,b⟩
 ·have a:=Ab (show tk t=Ap t.text by rw[tk,if_neg h1,if_neg h2,if_neg h3]);have e1:(t.kind== 1)=false:=zB.2 h1;have e2:(t.kind== 2)=false:=zB.2 h2;have e3:(t.kind== 3)=false:=zB.2 h3;clear h1 h2 h3;go_enter Tryz.func44,Tryz.ntmps44
  go_wp2_with fail
  go_ret
  exact ⟨by rw[Aa a,Bs];rfl,b⟩
def Sy.str:Sy→List UInt8
 | .policy=> [80,111,108,105,99,121]
 | .decision=> [68,101,99,105,115,105,111,110]
 | .expr=> [69,120,112,114]
 | .orMore=> [79,114,77,111,114,101]
 | .and_=> [65,110,100]
 | .andMore=> [65,110,100,77,111,114,101]
 | .not_=> [78,111,116]
 | .compared=> [67,111,109,112,97,114,101,100]
 | .sum=> [83,117,109]
 | .sumMore=> [83,117,109,77,111,114,101]
 | .term=> [84,101,114,109]
 | .termMore=> [84,101,114,109,77,111,114,101]
 | .unary=> [85,110,97,114,121]
 | .primary=> [80,114,105,109,97,114,121]
 | .scopes=> [83,99,111,112,101,115]
 | .scopesMore=> [83,99,111,112,101,115,77,111,114,101]
 | .scope=> [83,67,79,80,69]
 | .t s=>s
def Jf (x:Sy):ByteArray:=AB x.str
def ExA (o:Option (List Sy)) (w:World) (r:Ending) (w':World):Prop:=
 (match o with
   |some m=>∃ a cx,r= .returned (.tuple #[.slice a m.length cx,.bool true])∧w'.ownsRow w.heap.size 9 1 (.slice a m.length cx) m.length (m.map fun y=>Value.string (Jf y))
   |none=>r= .returned (.tuple #[.slice none 0 0,.bool false]))∧Below w.heap.size w w'
theorem Yd {w:World}{B a n size:Nat}{e:TypeId}{v:Value}{b:List Value}(h:w.ownsRow B e size v n b)(hB:a≤B):w.ownsRow a e size v n b:=by
 refine ⟨h.1, ?_⟩;rcases h.2 with h0 | ⟨g,cap,c,d,h1,h2⟩
 ·exact .inl h0
 ·exact .inr ⟨g,cap,c,d,zD hB h1,h2⟩
theorem GV (w:World)(a:Array Value)(n:Nat)(h:a.size=n)(b:n≤maxLen):(w.alloc (.cells a 9)).ownsRow w.heap.size 9 1 (.slice (some ⟨w.heap.size,0,none⟩) n n) n a.toList:=by
 refine ⟨by simp[h],.inr ⟨w.heap.size,n,a,rfl,NLN,heap_alloc_new w _,NLN,b,by omega, ?_⟩⟩;rw[Nat.mul_one,zq (by simp;omega)]
theorem WS (x:Sy):Jf x=⟨x.str.toArray⟩:=rfl
theorem Adm (x:Sy)(t:List UInt8)(w:World)(h:(∀ u,x≠.t u)∧x≠.scope∧x≠.compared∧x≠.sumMore∧x≠.termMore):Calls Tryz.prog 45 #[.string (Jf x),.string (AB t)] w (ExA (An x t) w):=by
 obtain ⟨a,c⟩:∃ a,a=AB t:=⟨_,rfl⟩
 have d:=Ab (fun u=>show (t=u)=((a.toList== u)=true) by rw[c,UR,zG]);have f:=Ab c;rw[← c,WS];clear c;cases x
 case t u=>exact absurd rfl (h.1 u)
 case scope=>exact absurd rfl h.2.1
 case compared=>exact absurd rfl h.2.2.1
 case sumMore=>exact absurd rfl h.2.2.2.1
 case termMore=>exact absurd rfl h.2.2.2.2
 all_goals
  clear h;dsimp only[Sy.str]
 case' policy=>cases b:(a.toList== [108,101,116]);cases e1:(a.toList== [119,104,101,110])
 case' decision=>cases b:(a.toList== [103,114,97,110,116])
 case' expr=>cases b:(a.toList== [105,102])
 case' orMore=>cases b:(a.toList== [111,114])
 case' andMore=>cases b:(a.toList== [97,110,100])
 case' not_=>cases b:(a.toList== [110,111,116])
 case' unary=>cases b:(a.toList== [45])
 case' primary=>cases b:(a.toList== [40]);cases e1:(a.toList== [115,105,122,101]);cases e2:(a.toList== [123]);cases e3:(a.toList== [84,69,88,84]);cases e4:(a.toList== [78,65,77,69]);cases e5:(a.toList== [116,114,117,101]);cases g:(a.toList== [102,97,108,115,101])
 case' scopes=>cases b:(a.toList== [125])
 case' scopesMore=>cases b:(a.toList== [44])
 all_goals
  go_enter Tryz.func45,Tryz.ntmps45
  go_wp2_with fail
  go_ret2
  have E:=Aa d;simp only[An,DK,Bb,Bz,Et,kOr,Tm,E3,Bi,AF,Cf,Cp,FI,ER,Ch,Bm,BJ,EC,reduceIte,Bool.false_eq_true,or_true,true_or,or_self, *];clear E;rw[Aa f]
  first
  |exact ⟨⟨_,_,rfl,GV w _ _ rfl (by unfold maxLen;decide)⟩,(Below.refl w.heap.size w).alloc NLN _⟩
  |exact ⟨⟨_,_,rfl,by exact GV w #[.string (AB t)] 1 rfl (by unfold maxLen;decide)⟩,(Below.refl w.heap.size w).alloc NLN _⟩
  |exact ⟨⟨none,0,rfl,World.ownsRow_nil _ _ _ _⟩,BRN⟩
theorem Aam (a:Option Addr)(n c:Nat)(b:List ByteArray)(s:ByteArray)(w:World)(h:Bg w a n c b):
  Calls Tryz.prog 71 #[.string s,.slice a n c] w fun e w'=>e= .returned (.bool (VD b s))∧w'=w:=by
 go_enter Tryz.func71,Tryz.ntmps71
 go_wp2_with fail
 refine (Ye a n c b s w h).mono ?_;rintro e w' ⟨rfl,d⟩;rw[d];dsimp only;go_wp2_with fail
 go_ret
 exact ⟨rfl,rfl⟩
theorem Aan (k:Nat)(t:List UInt8):VD ((AY k).map AB) (AB t)=decide (t∈AY k):=by
 by_cases h:t∈AY k
 ·rw[zW h,Kj];exact zQ.2 ⟨t,h,rfl⟩
 ·rw[zR h,z2,Ne,Kj];intro a;obtain ⟨x,hx,he⟩:=zQ.1 a;exact h (by rw[← Tl he];exact hx)
theorem Yf:∀ k < 7,∀ j < 6,(EU ((AY k).map AB) j).size≤32:=by decide
def opC (k:Nat):Array Value:=((AY k).map fun s=>Value.string (AB s)).toArray
theorem EV (k n:Nat)(hk:(AY k).length=n)(a:n≤6)(h7:k < 7)(w:World):Bg (w.alloc (.cells (opC k) 9)) (some ⟨w.heap.size,0,none⟩) n n ((AY k).map AB):=
 Bg.of_owns (by
  have h:=GV w (opC k) n (by simp[opC,hk]) (by unfold maxLen;omega);rw[show (opC k).toList=((AY k).map AB).map Value.string by simp[opC]] at h;exact h) (fun j b=>zD (Yf k h7 j (by omega)) (by unfold maxLen;decide))
theorem Fr (f k n:Nat)(h:f= 72∧k=4∧n=6∨f= 73∧k=5∧n=4∨f= 74∧k=6∧n=4)(w:World):Calls Tryz.prog f #[] w fun r w'=>r= .returned (.slice (some ⟨w.heap.size,0,none⟩) n n)∧w'=w.alloc (.cells (opC k) 9):=by
 rcases h with ⟨rfl,rfl,rfl⟩ | ⟨rfl,rfl,rfl⟩ | ⟨rfl,rfl,rfl⟩
 case' inl=>go_enter Tryz.func72,Tryz.ntmps72
 case' inr.inl=>go_enter Tryz.func73,Tryz.ntmps73
 case' inr.inr=>go_enter Tryz.func74,Tryz.ntmps74
 all_goals
  go_wp2_with fail
  go_ret
  exact ⟨rfl,rfl⟩
theorem VE (x:Sy)(t:List UInt8)(w:World)(hx:x= .compared∨x= .sumMore∨x= .termMore):Calls Tryz.prog 45 #[.string (Jf x),.string (AB t)] w (ExA (An x t) w):=by
 have g:=Ab (Aan · t);rw[WS];rcases hx with rfl | rfl | rfl
 case' inl=>by_cases h:t∈AY 4
 case' inr.inl=>by_cases h:t∈AY 5
 case' inr.inr=>by_cases h:t∈AY 6
 all_goals
  dsimp only[Sy.str]
  first
  |rw[An,if_pos h]
   have d:=Ab (zW h)
  |rw[An,if_neg h]
   have d:=Ab (zR h)
  clear h;go_enter Tryz.func45,Tryz.ntmps45
  go_wp2_with fail
  first
  |refine (Fr _ 4 6 (.inl ⟨rfl,rfl,rfl⟩) w).mono ?_
   have hs:=EV 4 6 rfl (by decide) (by decide) w
  |refine (Fr _ 5 4 (.inr (.inl ⟨rfl,rfl,rfl⟩)) w).mono ?_
   have hs:=EV 5 4 rfl (by decide) (by decide) w
  |refine (Fr _ 6 4 (.inr (.inr ⟨rfl,rfl,rfl⟩)) w).mono ?_
   have hs:=EV 6 4 rfl (by decide) (by decide) w
  rintro r a ⟨rfl,c⟩;rw[← c] at hs;have b:Below w.heap.size w a:=c ▸ (Below.refl w.heap.size w).alloc NLN _;clear c;dsimp only;go_wp2_with fail
  refine (Aam _ _ _ _ _ _ hs).mono ?_;rintro r w2 ⟨rfl,f⟩;rw[f,Aa g,Aa d];clear f hs;dsimp only;go_wp2_with fail
  go_ret2
  first
  |exact ⟨⟨none,0,rfl,World.ownsRow_nil _ _ _ _⟩,b⟩
  |refine ⟨⟨_,_,rfl,Yd (B:=a.heap.size) ?_ b.size⟩,b.alloc b.size _⟩
   first
   |exact GV a #[.string (AB t),_,_] 3 rfl (by unfold maxLen;decide)
   |exact GV a #[.string (AB t),_] 2 rfl (by unfold maxLen;decide)
def SyA:List (List UInt8):= [Sy.policy,.decision,.expr,.orMore,.and_,.andMore,.not_,.compared,.sum,.sumMore,.term,.termMore,.unary,.primary,.scopes,.scopesMore].map Sy.str
theorem WT (s t:List UInt8)(hs:s ∉ SyA)(w:World):Calls Tryz.prog 45 #[.string (AB s),.string (AB t)] w (ExA none w):=by
 have a:∀ u∈SyA,((AB s).toList== u)=false:=fun u b=>by
  rw[UR];exact zR fun h=>hs (h ▸ b)
 simp only[SyA,Sy.str,List.map_cons,z8,List.forall_mem_cons] at a;clear hs;generalize AB s=c at a ⊢;generalize AB t=d;obtain ⟨f,e1,e2,e3,e4,e5,g,i,j,k,l,m,n,o,p,q,-⟩:=a;go_enter Tryz.func45,Tryz.ntmps45
 go_wp2_with fail
 go_ret2
 exact ⟨rfl,BRN⟩
theorem N8 (x:Sy)(hx:okY x)(t:List UInt8)(w:World):Calls Tryz.prog 45 #[.string (Jf x),.string (AB t)] w (ExA (An x t) w):=by
 cases x
 case compared=>exact VE _ t w (.inl rfl)
 case sumMore=>exact VE _ t w (.inr (.inl rfl))
 case termMore=>exact VE _ t w (.inr (.inr rfl))
 case scope=>exact WT _ t (by decide) w
 case t s=>
  refine WT s t ((show ∀ u∈Cq ++ [Pn,FI,ER],u ∉ SyA by decide) s ?_) w;rcases hx with h | h | h | h
  ·exact zl _ h
  all_goals rw[h];decide
 all_goals exact Adm _ t w (by simp)
end Go.Proofs.YtchakjeegneeoaaGreatDoor
