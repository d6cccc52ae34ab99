/-
  HH, HI, HJ, HK, HL, HM. Own work.
-/
import Derived.Test.YtchakjeegneeoaaGreatDoorMXBQ
import Derived.Deep.AppendLies
import Derived.Test.YtchakjeegneeoaaGreatDoorMXAW
namespace Go.Proofs.YtchakjeegneeoaaGreatDoor
set_option maxRecDepth 100000
set_option maxHeartbeats 1600000
open Go.RowKit
set_option linter.unusedVariables false
structure Mb (w:World) (nb ga c:Nat) (T:List Af):Prop where
 at0:w.cell? ⟨nb,0,none⟩=some (.slice (some ⟨ga,0,none⟩) T.length c)
 cells:∀ j u,(GA T)[j]? =some u→w.cell? ⟨ga,j,none⟩=some u
 lt:nb < w.heap.size∧ga < w.heap.size
theorem Mb.below {w w':World}{a b c:Nat}{T:List Af}(h:Mb w a b c T)(d:Below w.heap.size w w'):Mb w' a b c T:=
 ⟨(d.cell (p:=⟨a,0,none⟩) h.lt.1).trans h.at0,fun j u f=>(d.cell (p:=⟨b,j,none⟩) h.lt.2).trans (h.cells j u f),by have:=d.size;have:=h.lt;omega⟩
theorem Mb.at4 {w:World}{b a c:Nat}{T:List Af}(h:Mb w b a c T)(i:Nat)(hi:i < T.length):w.cell? ⟨a,i * 4,none⟩=some (.int .i64 T[i].kind)∧w.cell? ⟨a,i * 4+1,none⟩=some (.int .i64 T[i].num)∧w.cell? ⟨a,i * 4+2,none⟩=some (.string T[i].text)∧w.cell? ⟨a,i * 4+3,none⟩=some (.int .i64 (T[i].at_:Int)):=by
 obtain ⟨d,e1,e2,e3⟩:=Ka T i hi;exact ⟨h.cells _ _ d,h.cells _ _ e1,h.cells _ _ e2,h.cells _ _ e3⟩
theorem eqB (t:ByteArray)(u:List UInt8):(t.toList==(AB u).toList)=decide (t=AB u):=by
 have h:=UR (Ap t) (AB u).toList;rw[Bs] at h;rw[h];by_cases e:t=AB u
 ·rw[zW e,e];simp[ByteArray.toList_eq];rfl
 ·rw[zR e,zR];intro h2;apply e;rw[← Bs t,h2,za];rfl
theorem It {w:World}{f j c:Nat}{T:List Af}(h:Mb w f j c T)(i:Nat)(hi:i < T.length)(s:List UInt8)(a:ByteArray)(hs:a=AB s):
  Calls Tryz.prog 25 #[.pointer (some ⟨f,0,none⟩),.int .i64 (i:Int),.string a] w fun r w'=>r= .returned (.bool (see s T[i]))∧Below w.heap.size w w':=by
 obtain ⟨k,g,q2,q3⟩:=h.at4 i hi;have l:=h.at0;have m:(i:Int) < (T.length:Int):=by omega
 have d:=Ab (show see s T[i]=((T[i].kind== 4 || T[i].kind== 5) && (T[i].text.toList== a.toList)) by rw[hs,eqB];simp[see];grind);generalize see s T[i]=b at d ⊢;generalize T[i]=t at k g q2 q3 d;clear h hs hi g q3;cases h4:(t.kind== 4) <;> cases h5:(t.kind== 5) <;> cases hx:(t.text.toList== a.toList) <;> rw[h4,h5,hx] at d
 all_goals
  go_enter Tryz.func25,Tryz.ntmps25
  go_wp2_with fail
  go_ret
  exact ⟨by rw[Aa d];rfl,BRN⟩
theorem Aau {w:World}{l o c:Nat}{T:List Af}(h:Mb w l o c T)(i:Nat)(hi:i < T.length):
  Calls Tryz.prog 101 #[.pointer (some ⟨l,0,none⟩),.int .i64 (i:Int)] w fun r w'=>r= .returned (.bool (Fc T[i]))∧Below w.heap.size w w':=by
 obtain ⟨p,m,q2,q3⟩:=h.at4 i hi;have A:=h.at0;have B:(i:Int) < (T.length:Int):=by omega
 have f:=Ab (fun (w':World) (q:Below w.heap.size w w') (s:List UInt8)=>It (h.below q) i hi s (AB s) rfl);have a:=Ab (show Fc T[i]=((T[i].kind != 4 && T[i].kind != 5) || see AS T[i] || see BJ T[i] || see Ch T[i] || see Bm T[i]) by
  rw[Fc,show (T[i].kind != 4)= !decide (T[i].kind=4) from by rw[bne];congr 1,show (T[i].kind != 5)= !decide (T[i].kind=5) from by rw[bne];congr 1])
 generalize Fc T[i]=b at a ⊢;generalize T[i]=t at p m q2 q3 a f;have n:=Below.refl w.heap.size w;clear h hi m q3 q2;cases h4:(t.kind != 4) <;> cases h5:(t.kind != 5) <;> rw[h4,h5] at a
 case true.true=>
  go_enter Tryz.func101,Tryz.ntmps101
  go_wp2_with fail
  go_ret
  exact ⟨by rw[Aa a];rfl,BRN⟩
 all_goals
  go_enter Tryz.func101,Tryz.ntmps101
  go_wp2_with fail
  refine (Aa f _ n AS).mono ?_;rintro r C ⟨rfl,u⟩;have g:=n.trans u;dsimp only;generalize see AS t=d at a ⊢;cases d
  case true=>
   go_wp2_with fail
   go_ret
   exact ⟨by rw[Aa a];rfl,g⟩
  go_wp2_with fail
  refine (Aa f _ g BJ).mono ?_;rintro r w2 ⟨rfl,v⟩;have j:=g.trans (v.mono g.size);dsimp only;generalize see BJ t=d at a ⊢;cases d
  case true=>
   go_wp2_with fail
   go_ret
   exact ⟨by rw[Aa a];rfl,j⟩
  go_wp2_with fail
  refine (Aa f _ j Ch).mono ?_;rintro r E ⟨rfl,x⟩;have k:=j.trans (x.mono j.size);dsimp only;generalize see Ch t=d at a ⊢;cases d
  case true=>
   go_wp2_with fail
   go_ret
   exact ⟨by rw[Aa a];rfl,k⟩
  go_wp2_with fail
  refine (Aa f _ k Bm).mono ?_;rintro r F ⟨rfl,y⟩;have z:=k.trans (y.mono k.size);dsimp only;generalize see Bm t=d at a ⊢;cases d
  all_goals
   go_wp2_with fail
   go_ret
   exact ⟨by rw[Aa a];rfl,z⟩
set_option maxHeartbeats 6400000
def MaI (T:List Af) (wd:List UInt8) (lo:Nat) (R:Int) (w:World) (vo vd vi:Value) (wr:World):Prop:=
 ∃ (k:Nat) (o d:Int),lo≤k∧k≤T.length∧vo= .int .i64 o∧vd= .int .i64 d∧vi= .int .i64 (k:Int)∧-(k:Int)≤d∧d≤k∧1 - (k:Int)≤o∧o≤k+1∧Ce wd (T.drop k) o d k=R∧Below w.heap.size w wr
theorem Oc {w:World}{S X c:Nat}{T:List Af}(h:Mb w S X c T)(aq:T.length≤4000)(lo:Nat)(Y:lo≤T.length)(b:List UInt8)(U:ByteArray)(Z:U=AB b):
  Calls Tryz.prog 75 #[.pointer (some ⟨S,0,none⟩),.int .i64 (lo:Int),.string U] w fun r w'=>r= .returned (.int .i64 (Ce b (T.drop lo) 1 0 lo))∧Below w.heap.size w w':=by
 have aa:=Ab (fun (w':World) (g:Below w.heap.size w w') (i:Nat) (hi:i < T.length) (s:List UInt8)=>It (h.below g) i hi s (AB s) rfl);have ab:=Ab (fun (w':World) (g:Below w.heap.size w w')=>(h.below g).at0);have N:=Ab (show MaI T b lo (Ce b (T.drop lo) 1 0 lo) w (.int .i64 1) (.int .i64 0) (.int .i64 (lo:Int)) w from ⟨lo,1,0,NLN,Y,rfl,rfl,rfl,by omega,by omega,by omega,by omega,rfl,BRN⟩);generalize Ce b (T.drop lo) 1 0 lo=R at N ⊢;subst Z;clear h;go_enter Tryz.func75,Tryz.ntmps75
 go_wp2_with fail
 go_loopw [7,8,9] (fun vo ac O wr=>MaI T b lo R w vo ac O wr) (fun _ _ O _=>T.length - (intOf O).toNat)
 case atStart=>exact Aa N
 case round=>
  clear N;obtain ⟨k,o,d,h1,h2,rfl,rfl,rfl,h3,h4,h5,h6,H,A⟩:=hrel;have ar:=Aa ab wr A;by_cases hk:k < T.length
  ·have ad:(k:Int) < (T.length:Int):=by omega
   have f:=Ab (zg hk);have j:=Ab H;have au:=Ab (And.intro h1 (And.intro h3 (And.intro h4 (And.intro h5 h6))));have av:wrap64 ((k:Int)+1)=(k:Int)+1:=by simp[wrap64];omega
   have l:wrap64 (d+1)=d+1:=by simp[wrap64];omega
   have m:wrap64 (d - 1)=d - 1:=by simp[wrap64];omega
   have n:wrap64 (o+1)=o+1:=by simp[wrap64];omega
   have p:wrap64 (o - 1)=o - 1:=by simp[wrap64];omega
   have B:=Ab (fun (w':World) (g:Below w.heap.size w w') (s:List UInt8)=>Aa aa w' g k hk s);have q:=Ab (fun (o' u:Int) (w':World) (g:Below w.heap.size w w') (ae:Ce b (T.drop (k+1)) o' u ((k:Int)+1)=R) (e1:u=d∨u=d+1∨u=d - 1) (e2:o'=o∨o'=o+1∨o'=o - 1)=>show MaI T b lo R w (.int .i64 o') (.int .i64 u) (.int .i64 ((k:Int)+1)) w' from ⟨k+1,o',u,by omega,by omega,rfl,rfl,by rw[zd];rfl,by omega,by omega,by omega,by omega,by rw[zd];exact ae,g⟩);have v:Hid (T.length - ((k:Int)+1).toNat < T.length - (k:Int).toNat):=Ab (by omega);generalize T[k]=t at f B;clear H h1 h2 h3 h4 h5 h6 hk;go_wp2_with fail
   refine (Aa B _ A AF).mono ?_;rintro r af ⟨rfl,ag⟩;have I:=A.trans (ag.mono A.size);dsimp only;cases J:see AF t
   case true=>
    have a:=Ab (Aa q o (d+1) af I (by rw[← Aa j,Aa f,NP J]) (by omega) (by omega));clear J;go_wp2_with fail
    exact ⟨by first | exact Aa a | (rw[l];exact Aa a) | (rw[m];exact Aa a) | (rw[n];exact Aa a) | (rw[p];exact Aa a),Aa v⟩
   have ah:=Ab J;clear J;go_wp2_with fail
   refine (Aa B _ I AS).mono ?_;rintro r w2 ⟨rfl,ai⟩;have C:=I.trans (ai.mono I.size);dsimp only;cases K:see AS t
   case true=>
    have a:=Ab (Aa q o (d - 1) w2 C (by rw[← Aa j,Aa f,Lf K]) (by omega) (by omega));clear K;go_wp2_with fail
    exact ⟨by first | exact Aa a | (rw[l];exact Aa a) | (rw[m];exact Aa a) | (rw[n];exact Aa a) | (rw[p];exact Aa a),Aa v⟩
   have aj:=Ab K;clear K;have E:=Ab (show Ce b (t ::T.drop (k+1)) o d k=if d=0∧see Et t=true then Ce b (T.drop (k+1)) (o+1) d (k+1) else if d=0∧see b t=true then (if o - 1=0 then (k:Int) else Ce b (T.drop (k+1)) (o - 1) d (k+1)) else Ce b (T.drop (k+1)) o d (k+1) by
    rw[Ce,Aa ah,Aa aj,if_neg (by decide),if_neg (by decide)])
   cases hd:(d== 0)
   ·have x: ¬ d=0:=by simpa using hd
    have a:=Ab (Aa q o d w2 C (by rw[← Aa j,Aa f,Aa E,if_neg (fun e=>x e.1),if_neg (fun e=>x e.1)]) (by omega) (by omega));clear x;go_wp2_with fail
    exact ⟨by first | exact Aa a | (rw[l];exact Aa a) | (rw[m];exact Aa a) | (rw[n];exact Aa a) | (rw[p];exact Aa a),Aa v⟩
   have x:d=0:=by simpa using hd
   have P:=Ab x;clear x;go_wp2_with fail
   refine (Aa B _ C Et).mono ?_;rintro r ak ⟨rfl,al⟩;have L:=C.trans (al.mono C.size);dsimp only;cases M:see Et t
   case true=>
    have a:=Ab (Aa q (o+1) d ak L (by rw[← Aa j,Aa f,Aa E,if_pos ⟨Aa P,M⟩]) (by omega) (by omega));clear M;go_wp2_with fail
    exact ⟨by first | exact Aa a | (rw[l];exact Aa a) | (rw[m];exact Aa a) | (rw[n];exact Aa a) | (rw[p];exact Aa a),Aa v⟩
   have ao:=Ab M;clear M;go_wp2_with fail
   refine (Aa B _ L b).mono ?_;rintro r V ⟨rfl,ap⟩;have Q:=L.trans (ap.mono L.size);dsimp only;have y: ¬ (d=0∧see Et t=true):=fun e=>by rw[Aa ao] at e;cases e.2
   cases z:see b t
   case false=>
    have a:=Ab (Aa q o d V Q (by rw[← Aa j,Aa f,Aa E,if_neg y,if_neg (fun e=>by rw[z] at e;cases e.2)]) (by omega) (by omega));clear z y;go_wp2_with fail
    exact ⟨by first | exact Aa a | (rw[l];exact Aa a) | (rw[m];exact Aa a) | (rw[n];exact Aa a) | (rw[p];exact Aa a),Aa v⟩
   cases W:(o - 1== 0)
   ·have F: ¬ o - 1=0:=by simpa using W
    have a:=Ab (Aa q (o - 1) d V Q (by rw[← Aa j,Aa f,Aa E,if_neg y,if_pos ⟨Aa P,z⟩,if_neg F]) (by omega) (by omega));clear z y F;go_wp2_with fail
    exact ⟨by first | exact Aa a | (rw[l];exact Aa a) | (rw[m];exact Aa a) | (rw[n];exact Aa a) | (rw[p];exact Aa a),Aa v⟩
   ·have F:o - 1=0:=by simpa using W
    have a:=Ab (show R=(k:Int) by rw[← Aa j,Aa f,Aa E,if_neg y,if_pos ⟨Aa P,z⟩,if_pos F]);clear z y F;go_wp2_with fail
    go_ret
    exact ⟨by rw[Aa a];rfl,Q⟩
  ·have ad: ¬ ((k:Int) < (T.length:Int)):=by omega
   have a:=Ab (show R=(T.length:Int) by rw[← H,List.drop_eq_nil_of_le (by omega),Ce];omega);clear H hk;go_wp2_with fail
   go_ret
   exact ⟨by rw[Aa a];rfl,A⟩
set_option maxHeartbeats 12800000
def LaI (T:List Af) (of:List (List UInt8)) (lo hi:Nat) (R:Int) (w:World) (va vd vi:Value) (wr:World):Prop:=
 ∃ (k:Nat) (pe:Bool) (d acc:Int),lo≤k∧k≤hi∧va= .int .i64 acc∧vd= .int .i64 d∧vi= .int .i64 (k:Int)∧-(k:Int)≤d∧d≤k∧(k=lo→pe=false)∧(∀ j (hj:j < T.length),k=j+1→lo < k→pe=Fc T[j])∧(((T.take hi).drop k).foldl (CV of) ⟨pe,d,k,acc⟩).acc=R∧Below w.heap.size w wr
theorem Aav (x:List UInt8)(of:List (List UInt8))(t:Af)(k acc:Int):(if (x ::of).any (fun y=>see y t) then k else acc)=(if of.any (fun y=>see y t) then k else if see x t then k else acc):=by
 rw[List.any_cons];cases see x t <;> cases of.any (fun y=>see y t) <;> rfl
def LaJ (of:List (List UInt8)) (t:Af) (k A:Int) (n:Nat) (w:World) (va vp:Value) (wi:World):Prop:=
 ∃ (p:Nat) (av:Int),p≤n∧vp= .int .i64 (p:Int)∧va= .int .i64 av∧(if (of.drop p).any (fun x=>see x t) then k else av)=A∧Below w.heap.size w wi
theorem laj {of:List (List UInt8)}{t:Af}{k b c:Int}{n p:Nat}{w:World}(h:p < n){x:List UInt8}(d:of.drop p=x ::of.drop (p+1))(f:(if (of.drop p).any (fun x=>see x t) then k else c)=b)(a:Int)(w':World)(g:Below w.heap.size w w')(e:a=if see x t then k else c):LaJ of t k b n w (.int .i64 a) (.int .i64 ((p:Int)+1)) w':=by
 refine ⟨p+1,a,by omega,by rw[zd];rfl,rfl, ?_,g⟩;rw[← f,d,Aav,e]
theorem Ab6 {b:Bool}(h:b=false): ¬ b=true:=by rw[h];decide
theorem lak {of:List (List UInt8)}{t:Af}{k a b:Int}{n p:Nat}(d:of.length=n)(hp: ¬ p < n)(c:(if (of.drop p).any (fun x=>see x t) then k else b)=a):a=b:=by
 rw[List.drop_eq_nil_of_le (by omega)] at c;exact c.symm
theorem Gg (n p:Nat)(h:p < n):n - ((p:Int)+1).toNat < n - (p:Int).toNat:=by omega
theorem Yg {w:World}{av aM c:Nat}{T:List Af}(h:Mb w av aM c T)(bb:T.length≤4000)(lo hi:Nat)(aN:lo≤hi)(bc:hi≤T.length)(W X n aw:Nat)(of:List (List UInt8))(F:Bg w (some ⟨W,X,none⟩) n aw (of.map AB)):
  Calls Tryz.prog 77 #[.pointer (some ⟨av,0,none⟩),.int .i64 (lo:Int),.int .i64 (hi:Int),.slice (some ⟨W,X,none⟩) n aw] w fun r w'=>r= .returned (.int .i64 (((T.take hi).drop lo).foldl (CV of) ⟨false,0,lo,-1⟩).acc)∧Below w.heap.size w w':=by
 have ax:=Ab (fun (w':World) (a:Below w.heap.size w w') (i:Nat) (hi:i < T.length) (s:List UInt8) (H:ByteArray) (hs:H=AB s)=>It (h.below a) i hi s H hs);have aO:=Ab (fun (w':World) (a:Below w.heap.size w w') (i:Nat) (hi:i < T.length)=>Aau (h.below a) i hi);have aP:=Ab (fun (w':World) (a:Below w.heap.size w w') (p:Nat) (hp:p < n) (I:p < of.length)=>show w'.cell? ⟨W,X+p,none⟩=some (.string (AB of[p])) from by
  obtain ⟨b,o,e,_,hc⟩:=(F.below a NLN).cells p hp;injection e with e;injection e with e1 e2;subst e1 e2;rw[hc,Cv _ _ (by simpa using I)];simp)
 have Y:=Ab (show LaI T of lo hi (((T.take hi).drop lo).foldl (CV of) ⟨false,0,lo,-1⟩).acc w (.int .i64 (-1)) (.int .i64 0) (.int .i64 (lo:Int)) w from ⟨lo,false,0,-1,NLN,aN,rfl,rfl,rfl,by omega,by omega,fun _=>rfl,fun j aQ h1 h2=>by omega,rfl,BRN⟩);generalize (((T.take hi).drop lo).foldl (CV of) ⟨false,0,lo,-1⟩).acc=R at Y ⊢;have bd:n≤9223372036854775807:=by have:=F.cap;have:=F.small;unfold maxLen at this;omega
 have ay:=Ab (show of.length=n by have:=F.len;simp at this;omega);clear h F;go_enter Tryz.func77,Tryz.ntmps77
 go_wp2_with fail
 go_loopw [9,10,11] (fun Z aR aa wr=>LaI T of lo hi R w Z aR aa wr) (fun _ _ aa _=>hi - (intOf aa).toNat)
 case atStart=>exact Aa Y
 case round=>
  clear Y;obtain ⟨k,pe,d,acc,h1,h2,rfl,rfl,rfl,h3,h4,ab,ac,M,N⟩:=hrel;by_cases hk:k < hi
  ·have aS:(k:Int) < (hi:Int):=by omega
   have O:k < T.length:=by omega
   have az:=Ab (show (T.take hi).drop k=T[k] ::(T.take hi).drop (k+1) by rw[zg (by simp;omega)];simp);have y:wrap64 (d+1)=d+1:=by simp[wrap64];omega
   have P:wrap64 (d - 1)=d - 1:=by simp[wrap64];omega
   have m:=Ab (fun (w':World) (a:Below w.heap.size w w') (s:List UInt8)=>Aa ax w' a k O s (AB s) rfl);have aA:=Ab (fun (w':World) (a:Below w.heap.size w w') (s:List UInt8) (H:ByteArray) (hs:H=AB s)=>Aa ax w' a k O s H hs);have aT:=Ab ab;have aU:=Ab ac;have z:=Ab (fun (v A:Int) (w':World) (a:Below w.heap.size w w') (e1:dL d T[k]=v) (e2:(if v > 0∨pe=false then acc else if of.any (fun x=>see x T[k]) then (k:Int) else acc)=A) (e3:v=d∨v=d+1∨v=d - 1)=>show LaI T of lo hi R w (.int .i64 A) (.int .i64 v) (.int .i64 ((k:Int)+1)) w' from ⟨k+1,Fc T[k],v,A,by omega,by omega,rfl,rfl,by rw[zd];rfl,by omega,by omega,fun h=>by omega,fun j aQ h5 h6=>by
     have e:k=j:=by omega
     subst e;rfl,by
     rw[← M,Aa az,List.foldl_cons,CV,zd];dsimp only;rw[e1,e2];rfl,a⟩)
   have Q:Hid (hi - ((k:Int)+1).toNat < hi - (k:Int).toNat):=Ab (by omega);have ad:=Ab (And.intro h1 (And.intro h2 (And.intro hk O)));generalize T[k]=t at m aA z;clear M h3 h4 ab ac az h1 h2 hk O;go_wp2_with fail
   refine (Aa m _ N AF).mono ?_;rintro r bf ⟨rfl,aV⟩;have B:=N.trans (aV.mono N.size);dsimp only;cases C:see AF t
   case' true=>
    have ae:=Ah C (s':=AS) (by decide);have af:=Ah C (s':=BJ) (by decide);have g:=Ab (Gb (.inl C) d);clear C;go_wp2_with fail
    rw[y];refine (Aa m _ B AS).mono ?_;rintro r w2 ⟨rfl,ag⟩;have l:=B.trans (ag.mono B.size);dsimp only;rw[ae];go_wp2_with fail
    refine (Aa m _ l BJ).mono ?_;rintro r aB ⟨rfl,J⟩;have q:=l.trans (J.mono l.size);dsimp only;rw[af]
   case' false=>
    have aW:=Ab C;clear C;go_wp2_with fail
    refine (Aa m _ B Cp).mono ?_;rintro r w2 ⟨rfl,ag⟩;have l:=B.trans (ag.mono B.size);dsimp only;cases E:see Cp t
    case' true=>
     have ae:=Ah E (s':=AS) (by decide);have af:=Ah E (s':=BJ) (by decide);have g:=Ab (Gb (.inr E) d);clear E;go_wp2_with fail
     rw[y];refine (Aa m _ l AS).mono ?_;rintro r aB ⟨rfl,ah⟩;have u:=l.trans (ah.mono l.size);dsimp only;rw[ae];go_wp2_with fail
     refine (Aa m _ u BJ).mono ?_;rintro r aX ⟨rfl,J⟩;have q:=u.trans (J.mono u.size);dsimp only;rw[af]
    case' false=>
     have aY:=Ab E;clear E;go_wp2_with fail
     refine (Aa m _ l AS).mono ?_;rintro r aB ⟨rfl,ah⟩;have u:=l.trans (ah.mono l.size);dsimp only;cases S:see AS t
     case' true=>
      have g:=Ab (ES (.inl S) d);have q:=u;clear S
     case' false=>
      have aZ:=Ab S;clear S;go_wp2_with fail
      refine (Aa m _ u BJ).mono ?_;rintro r aX ⟨rfl,J⟩;have q:=u.trans (J.mono u.size);dsimp only;cases ai:see BJ t
      case' true=>have g:=Ab (ES (.inr ai) d)
      case' false=>have g:=Ab (show dL d t=d by simp[dL,Ra,Tp,Aa aW,Aa aY,Aa aZ,ai])
      all_goals clear ai
   all_goals
    by_cases aj:(0 :Int) < dL d t <;> rw[Aa g] at aj
    ·have f:=Ab (Aa z _ acc _ q (Aa g) (by rw[if_pos (.inl aj)]) (by omega));go_wp2_with fail
     exact ⟨by first | exact Aa f | (rw[y];exact Aa f) | (rw[P];exact Aa f),Aa Q⟩
    by_cases U:k=lo
    ·have f:=Ab (Aa z _ acc _ q (Aa g) (by rw[if_pos (.inr (Aa aT U))]) (by omega));have a0:((k:Int)==(lo:Int))=true:=by rw[U];simp
     clear U;go_wp2_with fail
     exact ⟨by first | exact Aa f | (rw[y];exact Aa f) | (rw[P];exact Aa f),Aa Q⟩
    have a0:((k:Int)==(lo:Int))=false:=by
     rw[zB];omega
    obtain ⟨k0,ak⟩:∃ k0,k=k0+1:=⟨k - 1,by have:=(Aa ad).1;omega⟩
    have bg:=Ab ak;have a1:=Ab (show (k:Int) - 1=(k0:Int) by omega);have aC:k0 < T.length:=by have:=(Aa ad).2.2.2;omega
    have al:=Ab (Aa aU k0 aC ak (by have:=(Aa ad).1;omega));have ao:=Ab (fun (w':World) (a:Below w.heap.size w w')=>Aa aO w' a k0 aC);generalize Fc T[k0]=a2 at al ao;clear ak U;go_wp2_with fail
    rw[Aa a1];refine (Aa ao _ q).mono ?_;rintro r a3 ⟨rfl,a4⟩;have aD:=q.trans (a4.mono q.size);dsimp only;cases a2
    ·have f:=Ab (Aa z _ acc a3 aD (Aa g) (by rw[if_pos (.inr (Aa al))]) (by omega));go_wp2_with fail
     exact ⟨by first | exact Aa f | (rw[y];exact Aa f) | (rw[P];exact Aa f),Aa Q⟩
    have aE:=Ab (fun (A:Int) (w':World) (a:Below w.heap.size w w') (e:(if of.any (fun x=>see x t) then (k:Int) else acc)=A)=>Aa z _ A w' a (Aa g) (by rw[if_neg (by rintro (h | h);omega;rw[Aa al] at h;cases h)];exact e) (by omega));clear z;have ap:=Ab (show (if (of.drop 0).any (fun x=>see x t) then (k:Int) else acc)=(if of.any (fun x=>see x t) then (k:Int) else acc) from rfl);generalize (if of.any (fun x=>see x t) then (k:Int) else acc)=a5 at aE ap;clear aj g ao y P;go_wp2_with fail
    go_loopw [9,13,56] (fun Z _ aq a6=>LaJ of t (k:Int) a5 n w Z aq a6) (fun _ _ aq _=>n - (intOf aq).toNat)
    case atStart=>exact ⟨0,acc,zF _,rfl,rfl,Aa ap,aD⟩
    case round=>
     clear ap;obtain ⟨p,aF,hp,rfl,rfl,aG,K⟩:=hrel;have aH:=Ab aG;clear aG;by_cases L:p < n
     ·have a7:(p:Int) < (n:Int):=by omega
      have I:p < of.length:=by have:=Aa ay;omega
      have ar:=zg I;have hc:=Aa aP wr K p L I;obtain ⟨x,hx⟩:∃ x,x=of[p]:=⟨_,rfl⟩
      rw[← hx] at hc ar;have a8:=Ab ar;clear hx ar;have aI:=Ab (Gg n p L);have aJ:=Ab (fun (a9:Int) (w':World) (a:Below w.heap.size w w')=>laj (w:=w) L (Aa a8) (Aa aH) a9 w' a);clear I;go_wp2_with fail
      refine (Aa aA _ K x _ rfl).mono ?_;rintro r aK ⟨rfl,ba⟩;have aL:=K.trans (ba.mono K.size);dsimp only;cases V:see x t
      ·have au:=Ab (Aa aJ aF aK aL (if_neg (Ab6 V)).symm);clear V;go_wp2_with fail
       exact ⟨Aa au,Aa aI⟩
      ·have au:=Ab (Aa aJ k aK aL (if_pos V).symm);clear V;go_wp2_with fail
       exact ⟨Aa au,Aa aI⟩
     ·have a7: ¬ ((p:Int) < (n:Int)):=by omega
      have f:=Ab (Aa aE aF _ K (lak (Aa ay) L (Aa aH)));clear L;go_wp2_with fail
      exact ⟨Aa f,Aa Q⟩
  ·have aS: ¬ ((k:Int) < (hi:Int)):=by omega
   have f:=Ab (show R=acc by rw[← M,List.drop_eq_nil_of_le (by simp;omega)];rfl);clear M hk ab ac;go_wp2_with fail
   go_ret
   exact ⟨by rw[Aa f];rfl,N⟩
set_option maxHeartbeats 6400000
def ScI (T:List Af) (lo:Nat) (R:List ByteArray) (w:World) (vo vi:Value) (wr:World):Prop:=
 ∃ (k:Nat) (acc:List ByteArray) (x:Option Addr) (cx:Nat),lo < k∧k≤T.length∧vo= .slice x acc.length cx∧vi= .int .i64 (k:Int)∧acc.length≤k∧wr.ownsRow w.heap.size 9 1 (.slice x acc.length cx) acc.length (acc.map Value.string)∧acc ++Lg (T.drop k)=R∧Below w.heap.size w wr
theorem Mc {w:World}{K X c:Nat}{T:List Af}(h:Mb w K X c T)(ao:T.length≤4000)(lo:Nat)(ap:lo < T.length):
  Calls Tryz.prog 27 #[.pointer (some ⟨K,0,none⟩),.int .i64 (lo:Int)] w fun r w'=>(∃ x g,r= .returned (.slice x (Lg (T.drop (lo+1))).length g)∧w'.ownsRow w.heap.size 9 1 (.slice x (Lg (T.drop (lo+1))).length g) (Lg (T.drop (lo+1))).length ((Lg (T.drop (lo+1))).map Value.string))∧Below w.heap.size w w':=by
 obtain ⟨i,hi,Y,Z,aa⟩:=info_parts M8;have ab:=Ab (fun (w':World) (b:Below w.heap.size w w') (i:Nat) (hi:i < T.length) (s:List UInt8)=>It (h.below b) i hi s (AB s) rfl);have o:=Ab (fun (w':World) (b:Below w.heap.size w w')=>h.below b);have z:=Ab (show ScI T lo (Lg (T.drop (lo+1))) w (.slice none 0 0) (.int .i64 ((lo:Int)+1)) w from ⟨lo+1, [],none,0,by omega,by omega,rfl,by rw[zd];rfl,by simp,World.ownsRow_nil _ _ _ _,rfl,BRN⟩);generalize Lg (T.drop (lo+1))=R at z ⊢;clear h;go_enter Tryz.func27,Tryz.ntmps27
 go_wp2_with fail
 go_loopw [5,6] (fun vo A wr=>ScI T lo R w vo A wr) (fun _ A _=>T.length - (intOf A).toNat)
 case atStart=>exact Aa z
 case round=>
  clear z;obtain ⟨k,acc,x,g,h1,h2,rfl,rfl,h3,p,v,j⟩:=hrel;have ac:=(Aa o wr j).at0;by_cases hk:k < T.length
  ·have ad:(k:Int) < (T.length:Int):=by omega
   obtain ⟨B,C,q2,q3⟩:=(Aa o wr j).at4 k hk;have L:=Ab (fun (w':World) (b:Below w.heap.size w w')=>(Aa o w' b).at4 k hk);have E:=zg hk;have M:=Ab (fun (w':World) (b:Below w.heap.size w w') (s:List UInt8)=>Aa ab w' b k hk s);generalize T[k]=t at E M L B C q2 q3;have F:=Ab E;have H:=Ab v;have N:=Ab (Gg T.length k hk);have O:=Ab (fun (d:List ByteArray) (I:Option Addr) (J:Nat) (w':World) (b:Below w.heap.size w w') (e:d ++Lg (T.drop (k+1))=R) (ae:d.length≤k+1) (af:w'.ownsRow w.heap.size 9 1 (.slice I d.length J) d.length (d.map Value.string))=>show ScI T lo R w (.slice I d.length J) (.int .i64 ((k:Int)+1)) w' from ⟨k+1,d,I,J,by omega,by omega,rfl,by rw[zd];rfl,ae,af,e,b⟩);clear E v hk C q2 q3 B;go_wp2_with fail
   refine (Aa M _ j BJ).mono ?_;rintro r f ⟨rfl,P⟩;have l:=j.trans (P.mono j.size);have n:=Ac (w':=f) p (fun q hq=>P.block q (p.lt q hq).2);obtain ⟨B,C,q2,q3⟩:=Aa L f l;have a1:=(Aa o f l).at0;dsimp only;clear p ac;cases y:see BJ t
   ·have Q:=Ab y;clear y;by_cases m:t.kind=2
    ·have e2:(t.kind== 2)=true:=by rw[m];rfl
     have ag:=Ab m;have S:=n.alloc (.cells #[.string t.text] 9);have ah:=l.size;clear m;go_wp2_with (at_builtin;refine wpList_append_lies _ rfl _ _ 56 rfl w.heap.size 9 i (.string ByteArray.empty) 1 16 Tryz.underlying56 hi Y Z aa rfl (by decide) _ _ _ rfl S ⟨f.heap.size,0,none⟩ 1 1 [.string t.text] rfl rfl (cell_one_new f _ _) ?c2 (by decide) ?c3 ?c4 ?c5 (f.heap.size+1) (by simp) ?_)
     case c2=>intro u ai;rw[zL.1 ai];rfl
     case c3=>unfold maxLen;omega
     case c4=>omega
     case c5=>simp;omega
     intro gk aj ak U V hat al;have W:=(l.alloc ah (.cells #[.string t.text] 9)).grown V (by simp;omega) (fun q hq=>(n.lt q hq).1);have a:=Ab (Aa O (acc ++ [t.text]) (some ⟨gk,0,none⟩) aj ak W (by rw[← Aa H,Aa F,Lg,Aa Q,if_neg (by decide),if_pos (Aa ag),zC];rfl) (by simp;omega) (by rw[zA,zU];exact U));rw[zA] at a;clear U V hat al n S W;go_wp2_with fail
     exact ⟨Aa a,Aa N⟩
    ·have e2:(t.kind== 2)=false:=by simpa using m
     have a:=Ab (Aa O acc x g f l (by rw[← Aa H,Aa F,Lg,Aa Q,if_neg (by decide),if_neg m]) (by omega) n);clear m;go_wp2_with fail
     exact ⟨Aa a,Aa N⟩
   ·have a:=Ab (show R=acc by rw[← Aa H,Aa F,Lg,y,if_pos rfl,zr]);clear y;go_wp2_with fail
    go_ret
    exact ⟨⟨x,g,by rw[Aa a];rfl,by rw[Aa a];exact n⟩,l⟩
  ·have ad: ¬ ((k:Int) < (T.length:Int)):=by omega
   have a:=Ab (show R=acc by rw[← v,List.drop_eq_nil_of_le (by omega),Lg,zr]);clear v hk;go_wp2_with fail
   go_ret
   exact ⟨⟨x,g,by rw[Aa a];rfl,by rw[Aa a];exact p⟩,j⟩
def Gk:List (List UInt8):= [[43], [45], [42], [47], [37], [124], [38], [92], [61,61], [33,61], [60], [60,61], [105,110], [119,105,116,104,105,110], [97,110,100], [111,114]]
def OpI (w W:World) (s:List UInt8) (p0:Nat) (vi:Value) (wr:World):Prop:=∃ p:Nat,p≤p0∧vi= .int .i64 (p:Int)∧wr=W
theorem Aaw (s:List UInt8)(a:Nat)(h0:Gk[a]? =some s)(hf:∀ j,j < a→Gk[j]? ≠some s)(w:World):
  Calls Tryz.prog 78 #[.string (AB s)] w fun r w'=>r= .returned (.int .i64 (11+(a:Int)))∧Below w.heap.size w w':=by
 have k:a < 16:=(ze.1 h0).1;have d:=Ab (And.intro h0 hf);have f:=(Below.refl w.heap.size w).alloc NLN (.cells #[.string ⟨#[43]⟩,.string ⟨#[45]⟩,.string ⟨#[42]⟩,.string ⟨#[47]⟩,.string ⟨#[37]⟩,.string ⟨#[124]⟩,.string ⟨#[38]⟩,.string ⟨#[92]⟩,.string ⟨#[61,61]⟩,.string ⟨#[33,61]⟩,.string ⟨#[60]⟩,.string ⟨#[60,61]⟩,.string ⟨#[105,110]⟩,.string ⟨#[119,105,116,104,105,110]⟩,.string ⟨#[97,110,100]⟩,.string ⟨#[111,114]⟩] 9);have g:=Ab (fun (p:Nat) (y:List UInt8) (hy:Gk[p]? =some y)=>show (w.alloc (.cells #[.string ⟨#[43]⟩,.string ⟨#[45]⟩,.string ⟨#[42]⟩,.string ⟨#[47]⟩,.string ⟨#[37]⟩,.string ⟨#[124]⟩,.string ⟨#[38]⟩,.string ⟨#[92]⟩,.string ⟨#[61,61]⟩,.string ⟨#[33,61]⟩,.string ⟨#[60]⟩,.string ⟨#[60,61]⟩,.string ⟨#[105,110]⟩,.string ⟨#[119,105,116,104,105,110]⟩,.string ⟨#[97,110,100]⟩,.string ⟨#[111,114]⟩] 9)).cell? ⟨w.heap.size,p,none⟩=some (.string (AB y)) from by
  have hp:p < 16:=(ze.1 hy).1;rw[(GV w #[.string ⟨#[43]⟩,.string ⟨#[45]⟩,.string ⟨#[42]⟩,.string ⟨#[47]⟩,.string ⟨#[37]⟩,.string ⟨#[124]⟩,.string ⟨#[38]⟩,.string ⟨#[92]⟩,.string ⟨#[61,61]⟩,.string ⟨#[33,61]⟩,.string ⟨#[60]⟩,.string ⟨#[60,61]⟩,.string ⟨#[105,110]⟩,.string ⟨#[119,105,116,104,105,110]⟩,.string ⟨#[97,110,100]⟩,.string ⟨#[111,114]⟩] 16 rfl (by unfold maxLen;omega)).cellAt p hp];show (Gk.map fun x=>Value.string (AB x))[p]? =_;rw[zh,hy];rfl)
 clear h0 hf;go_enter Tryz.func78,Tryz.ntmps78
 go_wp2_with fail
 generalize w.alloc (.cells #[.string ⟨#[43]⟩,.string ⟨#[45]⟩,.string ⟨#[42]⟩,.string ⟨#[47]⟩,.string ⟨#[37]⟩,.string ⟨#[124]⟩,.string ⟨#[38]⟩,.string ⟨#[92]⟩,.string ⟨#[61,61]⟩,.string ⟨#[33,61]⟩,.string ⟨#[60]⟩,.string ⟨#[60,61]⟩,.string ⟨#[105,110]⟩,.string ⟨#[119,105,116,104,105,110]⟩,.string ⟨#[97,110,100]⟩,.string ⟨#[111,114]⟩] 9)=W at f g ⊢;go_loopw [3,4,7] (fun _ _ b wr=>OpI w W s a b wr) (fun _ _ b _=>16 - (intOf b).toNat)
 case atStart=>exact ⟨0,zF _,rfl,rfl⟩
 case round=>
  obtain ⟨p,hp,rfl,rfl⟩:=hrel;have c:p < Gk.length:=Nat.lt_of_le_of_lt hp k;obtain ⟨y,hy⟩:∃ y,Gk[p]? =some y:=⟨_,zH c⟩
  have hc:=Aa g p y hy;have n:(p:Int) < 16:=by omega
  have l:=Ab (Gg 16 p (by omega));by_cases e:p=a
  ·subst e;have i:y=s:=by
    have:=(Aa d).1;rw[hy] at this;injection this
   rw[i] at hc;clear i hy c;go_wp2_with fail
   go_ret
   exact ⟨rfl,f⟩
  ·have o:((AB s).toList==(AB y).toList)=false:=by
    rw[UR,za];refine zR (fun h=>(Aa d).2 p (by omega) ?_);rw[hy,h];rfl
   have m:=Ab (show OpI w wr s a (.int .i64 ((p:Int)+1)) wr from ⟨p+1,by omega,by rw[zd];rfl,rfl⟩);clear hy c e;go_wp2_with fail
   exact ⟨Aa m,Aa l⟩
structure Gh (w:World) (B nb:Nat) (tv:Value) (N:List Nd) (P:List Int) (nd pl:Value) (nv kv:List Value):Prop where
 row:Al w nb #[tv,nd,pl] 54
 nodes:Bt w B nd N nv kv
 places:w.ownsRow B 3 1 pl P.length (Ar P)
 apart:∀ q,pl.ownBlock=some q→∀ j,(hj:j < kv.length)→kv[j].ownBlock≠some q
 low:B≤nb
theorem Gh.below {w w':World}{B b:Nat}{c:Value}{N:List Nd}{P:List Int}{nd d:Value}{f g:List Value}(h:Gh w B b c N P nd d f g)(a:Below w.heap.size w w'):Gh w' B b c N P nd d f g:=
 ⟨h.row.after a NLN,h.nodes.blocks (fun k _ hk=>a.block k hk),Ac h.places (fun q hq=>a.block q (h.places.lt q hq).2),h.apart,h.low⟩
theorem Gh.pushN {W b:World}{B a g7 c7:Nat}{n:Value}{N:List Nd}{P:List Int}{nd d u k:Value}{h f:List Value}{x:Nd}(C:Gh W B a n N P nd d h f)(o:Obj)(hB:B≤W.heap.size)(r:W.ownsRow B 9 1 u x.names.length (x.names.map Value.string))(hk:W.ownsRow B 3 1 k x.kids.length (Ar x.kids))
  (v:∀ j,(c:j < h.length)→∀ q,h[j].ownBlock=some q→u.ownBlock≠some q)(w:∀ j,(c:j < f.length)→∀ q,f[j].ownBlock=some q→k.ownBlock≠some q)(y:∀ q,k.ownBlock=some q→d.ownBlock≠some q)
  (i:(W.alloc o).grownBy b nd.ownBlock)(z:b.ownsRow B 68 5 (.slice (some ⟨g7,0,none⟩) (N.length+1) c7) (N.length+1) (JY N h f ++Lk x u k))(hat:nd.ownBlock=some g7∨g7=W.heap.size+1):
  Gh (b.setCell ⟨a,1,none⟩ (.slice (some ⟨g7,0,none⟩) (N.length+1) c7)) B a n (N ++ [x]) P (.slice (some ⟨g7,0,none⟩) (N.length+1) c7) d (h ++ [u]) (f ++ [k])∧Nk B a nd d W (.slice (some ⟨g7,0,none⟩) (N.length+1) c7) d (b.setCell ⟨a,1,none⟩ (.slice (some ⟨g7,0,none⟩) (N.length+1) c7)):=by
 have m:=(Below.refl W.heap.size W).alloc NLN o;have A:=C.below m;have E:=Ac (w':=W.alloc o) r (fun q hq=>m.block q (r.lt q hq).2);have F:=Ac (w':=W.alloc o) hk (fun q hq=>m.block q (hk.lt q hq).2);have H:nd.ownBlock≠some a:=Ae C.row C.nodes.own (by decide);have l:Al b a #[n,nd,d] 54:=⟨(Bd i a C.row.lt H).trans C.row.out⟩
 have g:=A.nodes.snoc E F v w z i;have s:b.ownsRow B 3 1 d P.length (Ar P):=Ac C.places (fun q hq=>Bd i q (C.places.lt q hq).2 (fun e=>Ai C.places C.nodes.own (by decide) q hq e));have sc:∀ q,q≠a→(b.setCell ⟨a,1,none⟩ (.slice (some ⟨g7,0,none⟩) (N.length+1) c7)).heap[q]? =b.heap[q]? :=fun q hq=>heap_setCell_other b ⟨a,1,none⟩ q _ hq;refine ⟨⟨l.set 1 _,g.upto (fun q hq=>sc q (fun e=>Ae l g.own (by decide) (by rw[hq,e]))) (fun j c q hq=>sc q (fun e=>Ae l (g.names j (by rw[← g.len];exact c) c) (by decide) (by rw[hq,e]))) (fun j c q hq=>sc q (fun e=>Ae l (g.kids j (by rw[← g.lenk];exact c) c) (by decide) (by rw[hq,e]))),Ac s (fun q hq=>sc q (fun e=>Ae l s (by decide) (by rw[hq,e]))),fun q hq j c e=>?_,C.low⟩,⟨?_,fun q h1 h2 h3 h4=>(sc q h2).trans (Bd i q h1 h3),fun q hq=>?_,fun q hq=> .inl hq⟩⟩
 ·by_cases t:j < f.length
  ·rw[zx t] at e;exact C.apart q hq j t e
  ·have I:j=f.length:=by simp at c;omega
   subst I;simp at e;exact y q e hq
 ·exact ((m.mono hB).grown i (by simp;omega) (fun q hq=>(C.nodes.lts.1 q hq).1)).setCell (p:=⟨a,1,none⟩) C.low _
 ·have e:g7=q:=by simpa[Value.ownBlock] using hq
  subst e;exact hat.imp id (fun e=>by omega)
theorem Gh.pushP {W d:World}{B c g7 c7:Nat}{k:Value}{N:List Nd}{P:List Int}{nd f:Value}{l m:List Value}(C:Gh W B c k N P nd f l m)(o:Obj)(a:Int)(hB:B≤W.heap.size)
  (g:(W.alloc o).grownBy d f.ownBlock)(n:d.ownsRow B 3 1 (.slice (some ⟨g7,0,none⟩) (P.length+1) c7) (P.length+1) (Ar P ++ [.int .i64 a]))(hat:f.ownBlock=some g7∨g7=W.heap.size+1):
  Gh (d.setCell ⟨c,2,none⟩ (.slice (some ⟨g7,0,none⟩) (P.length+1) c7)) B c k N (P ++ [a]) nd (.slice (some ⟨g7,0,none⟩) (P.length+1) c7) l m∧Nk B c nd f W nd (.slice (some ⟨g7,0,none⟩) (P.length+1) c7) (d.setCell ⟨c,2,none⟩ (.slice (some ⟨g7,0,none⟩) (P.length+1) c7)):=by
 have r:=(Below.refl W.heap.size W).alloc NLN o;have s:f.ownBlock≠some c:=Ae C.row C.places (by decide);have i:Al d c #[k,nd,f] 54:=⟨(Bd g c C.row.lt s).trans C.row.out⟩
 have sc:∀ q,q≠c→(d.setCell ⟨c,2,none⟩ (.slice (some ⟨g7,0,none⟩) (P.length+1) c7)).heap[q]? =d.heap[q]? :=fun q hq=>heap_setCell_other d ⟨c,2,none⟩ q _ hq;have h:Bt d B nd N l m:=C.nodes.upto (fun q hq=>Bd g q (C.nodes.lts.1 q hq).2 (fun e=>Ai C.places C.nodes.own (by decide) q e hq)) (fun j b q hq=>Bd g q (C.nodes.lts.2.1 j b q hq).2 (fun e=>Ai C.places (C.nodes.names j (by rw[← C.nodes.len];exact b) b) (by decide) q e hq)) (fun j b q hq=>Bd g q (C.nodes.lts.2.2 j b q hq).2 (fun e=>C.apart q e j b hq));refine ⟨⟨i.set 2 _,h.upto (fun q hq=>sc q (fun e=>Ae i h.own (by decide) (by rw[hq,e]))) (fun j b q hq=>sc q (fun e=>Ae i (h.names j (by rw[← h.len];exact b) b) (by decide) (by rw[hq,e]))) (fun j b q hq=>sc q (fun e=>Ae i (h.kids j (by rw[← h.lenk];exact b) b) (by decide) (by rw[hq,e]))), ?_,fun q hq j b e=>?_,C.low⟩,⟨?_,fun q h1 h2 h3 h4=>(sc q h2).trans (Bd g q h1 h4),fun q hq=> .inl hq,fun q hq=>?_⟩⟩
 ·have:=Ac (w':=d.setCell ⟨c,2,none⟩ (.slice (some ⟨g7,0,none⟩) (P.length+1) c7)) n (fun q hq=>sc q (fun e=>Ae i n (by decide) (by rw[hq,e])));simpa[Ar] using this
 ·have t:g7=q:=by simpa[Value.ownBlock] using hq
  subst t;rcases hat with h1 | h1
  ·exact C.apart g7 h1 j b e
  ·have:=(C.nodes.lts.2.2 j b g7 e).2;omega
 ·exact ((r.mono hB).grown g (by simp;omega) (fun q hq=>(C.places.lt q hq).1)).setCell (p:=⟨c,2,none⟩) C.low _
 ·have e:g7=q:=by simpa[Value.ownBlock] using hq
  subst e;exact hat.imp id (fun e=>by omega)
end Go.Proofs.YtchakjeegneeoaaGreatDoor
