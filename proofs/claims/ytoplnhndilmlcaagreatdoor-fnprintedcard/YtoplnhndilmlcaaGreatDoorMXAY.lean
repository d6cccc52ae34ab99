/-
  QS, GY, HA. Own work.
-/
import Derived.Test.YtoplnhndilmlcaaGreatDoorQR
import Derived.Test.YtoplnhndilmlcaaGreatDoorMXAS
import Derived.Test.YtoplnhndilmlcaaGreatDoorMXAU
import Derived.Test.YtoplnhndilmlcaaGreatDoorGX
import Derived.Test.YtoplnhndilmlcaaGreatDoorMXBA
import Derived.Test.YtoplnhndilmlcaaGreatDoorMXAK
namespace Go.Proofs.YtoplnhndilmlcaaGreatDoor
open Go.RowKit
set_option linter.unusedVariables false
theorem Aak {op:Int}(h: 11≤op∧op≤26):Bi op=1∨Bi op=2∨Bi op=4∨Bi op=5∨Bi op=6:=by
 have:op=11∨op=12∨op=13∨op=14∨op=15∨op=16∨op=17∨op=18∨op=19∨op=20∨op=21∨op=22∨op=23∨op=24∨op=25∨op=26:=by omega
 rcases this with e | e | e | e | e | e | e | e | e | e | e | e | e | e | e | e <;> subst e <;> decide
theorem DK (w:World)(a:Option Addr)(n c:Nat)(N:List Nd)(h:Fe w a n c N):∀ (e:Ex) (i:Nat),CP N i e→e.fit w→e.cnt≤4000→FM w a n c i e.put
 | e,i,t,hf,hc=>by
  have E:=e.pr_size hf;have fin:∀ (x:Nd),N[i]? =some x→x.op=e.op→(1≤x.op∧x.op≤27)→RA w a n c i x.op e.pr→FM w a n c i e.put:=fun x hx b z A=>by
   have:=YB w a n c N h i x hx z e.pr (by omega) A;rw[b] at this;exact this
  cases t with
  | int hx b hk=>exact fin _ hx b (by omega) (by rw[b];exact Aaa w a n c N h i _ hx b hf.1 hf.2)
  | text hx b hk=>exact fin _ hx b (by omega) (by rw[b];exact Yz w a n c N h i _ hx b hf)
  | @bool _ x hx b hk=>
   refine fin _ hx b (by omega) ?_;rw[b];by_cases h1:x.num=1
   ·rw[Ex.pr,decide_eq_true h1];exact We w a n c N h i _ hx b h1
   ·rw[Ex.pr,decide_eq_false h1];exact Wf w a n c N h i _ hx b h1
  | set hx b hk F H I=>exact fin _ hx b (by omega) (by rw[b];exact Aab w a n c N h i _ hx b (by have:=hf.1.len;have:=hf.2.1;omega) hf.2.2)
  | name hx b hk=>exact fin _ hx b (by omega) (by rw[b];exact YA w a n c N h i _ hx b)
  | attr hx b hk=>exact absurd hf id
  | lett hx b hk=>exact absurd hf id
  | @un _ k x e hx b hk hi t=>
   have j:e.cnt≤4000:=by simp only[Ex.cnt] at hc;omega
   have s:=DK w a n c N h e k t hf.2 j;have y:∀ d,(e.put d).size≤50000000000:=fun d=>by have:=e.put_size hf.2 d;omega
   refine fin _ hx rfl (by omega) ?_;rw[AaR];have:x.op=8∨x.op=9∨x.op=10:=by omega
   rcases this with e1 | e1 | e1
   ·rw[e1];exact Aac w a n c N h i _ hx e1 k hk e.put s (y _)
   ·rw[e1];exact Aad w a n c N h i _ hx e1 k hk e.put s (y _)
   ·rw[e1];exact YC w a n c N h i _ hx e1 k hk e.put s (y _)
  | @bin _ k l x e f hx b hk hi t u=>
   have j:e.cnt≤4000∧f.cnt≤4000:=by simp only[Ex.cnt] at hc;omega
   have o:=DK w a n c N h e k t hf.2.1 j.1;have p:=DK w a n c N h f l u hf.2.2 j.2;have q:∀ d,(e.put d).size≤16000010:=fun d=>by have:=e.put_size hf.2.1 d;omega
   have r:∀ d,(f.put d).size≤16000010:=fun d=>by have:=f.put_size hf.2.2 d;omega
   refine fin _ hx rfl (by omega) ?_;rw[Yq,Yp,Dv];rcases Aak b with e1 | e1 | e1 | e1 | e1
   ·rw[e1];exact Aaf w a n c N h i _ hx b _ e1 rfl k l hk e.put f.put o p (q _) (r _)
   ·rw[e1];exact Aag w a n c N h i _ hx b _ e1 rfl k l hk e.put f.put o p (q _) (r _)
   ·rw[e1];exact Aah w a n c N h i _ hx b _ e1 rfl k l hk e.put f.put o p (q _) (r _)
   ·rw[e1];exact Aai w a n c N h i _ hx b _ e1 rfl k l hk e.put f.put o p (q _) (r _)
   ·rw[e1];exact Aaj w a n c N h i _ hx b _ e1 rfl k l hk e.put f.put o p (q _) (r _)
  | @ite _ k l m x e f g hx b hk hi t u v=>
   have j:e.cnt≤4000∧f.cnt≤4000∧g.cnt≤4000:=by simp only[Ex.cnt] at hc;omega
   have o:=DK w a n c N h e k t hf.1 j.1;have p:=DK w a n c N h f l u hf.2.1 j.2.1;have B:=DK w a n c N h g m v hf.2.2 j.2.2;have q:∀ d,(e.put d).size≤16000010:=fun d=>by have:=e.put_size hf.1 d;omega
   have r:∀ d,(f.put d).size≤16000010:=fun d=>by have:=f.put_size hf.2.1 d;omega
   have C:∀ d,(g.put d).size≤16000010:=fun d=>by have:=g.put_size hf.2.2 d;omega
   refine fin _ hx b (by omega) ?_;rw[b];have:=Aae w a n c N h i _ hx b k l m hk e.put f.put g.put o p B (q _) (r _) (C _);rw[Bt,Bt,Bt] at this;exact this
termination_by e=>e
theorem YD {w:World}{a:Option Addr}{n c:Nat}{N:List Nd}(h:Fe w a n c N)(p:∀ x∈N,Aq x=true)(q:∀ x∈N,x.num≤9223372036854775807)(r:∀ (i:Nat) (x:Nd),N[i]? =some x→∀ k∈x.kids,0≤k∧k < (i:Int)):
  ∃ Es:List Ex,Es.length=N.length∧(∀ j,(h:j < Es.length)→CP N j Es[j])∧∀ e∈Es,e.fit w:=by
 have:∀ k,k≤N.length→∃ Es:List Ex,Es.length=k∧(∀ j,(h:j < Es.length)→CP N j Es[j])∧∀ e∈Es,e.fit w:=by
  intro k
  induction k with
  | zero=>exact fun _=>⟨[],rfl,fun j g=>absurd g (by simp),fun e he=>by cases he⟩
  | succ k s=>
   intro hk;obtain ⟨Es,l,m,hf⟩:=s (by omega);have d:k < N.length:=by omega
   have hx:N[k]? =some N[k]:=List.getElem?_eq_getElem d;obtain ⟨b,v,_,_,an,nn,y,z,A,B,_,_,_,_,_,t,_⟩:=h.cells k d;obtain ⟨e,_,ht,u⟩:=Ys (w:=w) hx (p _ (List.getElem_mem d)) (r k _ hx) (q _ (List.getElem_mem d)) l m hf t;refine ⟨Es ++ [e],by simp[l],fun j g=>?_,fun f hf'=>?_⟩
   ·by_cases o:j < Es.length
    ·rw[List.getElem_append_left o];exact m j o
    ·have:j=Es.length:=by simp at g;omega
     subst this;simp only[List.getElem_concat_length];rw[l];exact ht
   ·rcases List.mem_append.1 hf' with hf' | hf'
    ·exact hf f hf'
    ·simp at hf';subst hf';exact u
 exact this N.length NLN
theorem CP.one {N:List Nd}{i:Nat}{e:Ex}(t:CP N i e):∀ {f:Ex},CP N i f→e.pr=f.pr∧e.op=f.op:=by
 induction t with
 | int h g hk=>intro f u;rcases u.inv h with ⟨b,r⟩ | ⟨b,r⟩ | ⟨b,r⟩ | ⟨b,r⟩ | ⟨b,r⟩ | ⟨b,r⟩ | ⟨b,r⟩ | ⟨b,r⟩ | ⟨b,r⟩ | ⟨b,r⟩ <;> first | omega | (subst r;exact ⟨rfl,rfl⟩)
 | text h g hk=>intro f u;rcases u.inv h with ⟨b,r⟩ | ⟨b,r⟩ | ⟨b,r⟩ | ⟨b,r⟩ | ⟨b,r⟩ | ⟨b,r⟩ | ⟨b,r⟩ | ⟨b,r⟩ | ⟨b,r⟩ | ⟨b,r⟩ <;> first | omega | (subst r;exact ⟨rfl,rfl⟩)
 | bool h g hk=>intro f u;rcases u.inv h with ⟨b,r⟩ | ⟨b,r⟩ | ⟨b,r⟩ | ⟨b,r⟩ | ⟨b,r⟩ | ⟨b,r⟩ | ⟨b,r⟩ | ⟨b,r⟩ | ⟨b,r⟩ | ⟨b,r⟩ <;> first | omega | (subst r;exact ⟨rfl,rfl⟩)
 | set h g hk a n c=>intro f u;rcases u.inv h with ⟨b,r⟩ | ⟨b,r⟩ | ⟨b,r⟩ | ⟨b,r⟩ | ⟨b,r⟩ | ⟨b,r⟩ | ⟨b,r⟩ | ⟨b,r⟩ | ⟨b,r⟩ | ⟨b,r⟩ <;> first | omega | (obtain ⟨_,_,_,r⟩:=r;subst r;exact ⟨rfl,rfl⟩)
 | name h g hk=>intro f u;rcases u.inv h with ⟨b,r⟩ | ⟨b,r⟩ | ⟨b,r⟩ | ⟨b,r⟩ | ⟨b,r⟩ | ⟨b,r⟩ | ⟨b,r⟩ | ⟨b,r⟩ | ⟨b,r⟩ | ⟨b,r⟩ <;> first | omega | (subst r;exact ⟨rfl,rfl⟩)
 | attr h g hk=>intro f u;rcases u.inv h with ⟨b,r⟩ | ⟨b,r⟩ | ⟨b,r⟩ | ⟨b,r⟩ | ⟨b,r⟩ | ⟨b,r⟩ | ⟨b,r⟩ | ⟨b,r⟩ | ⟨b,r⟩ | ⟨b,r⟩ <;> first | omega | (subst r;exact ⟨rfl,rfl⟩)
 | lett h g hk=>intro f u;rcases u.inv h with ⟨b,r⟩ | ⟨b,r⟩ | ⟨b,r⟩ | ⟨b,r⟩ | ⟨b,r⟩ | ⟨b,r⟩ | ⟨b,r⟩ | ⟨b,r⟩ | ⟨b,r⟩ | ⟨b,r⟩ <;> first | omega | (subst r;exact ⟨rfl,rfl⟩)
 | un h g hk hi t x=>
  intro f u;rcases u.inv h with ⟨b,r⟩ | ⟨b,r⟩ | ⟨b,r⟩ | ⟨b,r⟩ | ⟨b,r⟩ | ⟨b,r⟩ | ⟨b,r⟩ | ⟨b,s,e',d,j,r⟩ | ⟨b,r⟩ | ⟨b,r⟩ <;> first | omega | skip
  subst r;rw[hk] at d;obtain rfl:=Int.ofNat.inj (List.cons.inj d).1;obtain ⟨k,l⟩:=x j;exact ⟨by simp only[Ex.pr,k,l],rfl⟩
 | bin h g hk hi t u m o=>
  intro f v;rcases v.inv h with ⟨b,r⟩ | ⟨b,r⟩ | ⟨b,r⟩ | ⟨b,r⟩ | ⟨b,r⟩ | ⟨b,r⟩ | ⟨b,r⟩ | ⟨b,r⟩ | ⟨b,s,y,e',z,d,j,p,r⟩ | ⟨b,r⟩ <;> first | omega | skip
  subst r;rw[hk] at d;simp only[List.cons.injEq,and_true,Int.natCast_inj] at d;obtain ⟨rfl,rfl⟩:=d;obtain ⟨k,l⟩:=m j;obtain ⟨q,w⟩:=o p;exact ⟨by simp only[Ex.pr,k,l,q,w],rfl⟩
 | ite h g hk hi t u v m o A=>
  intro f B;rcases B.inv h with ⟨b,r⟩ | ⟨b,r⟩ | ⟨b,r⟩ | ⟨b,r⟩ | ⟨b,r⟩ | ⟨b,r⟩ | ⟨b,r⟩ | ⟨b,r⟩ | ⟨b,r⟩ | ⟨b,s,y,F,e',z,H,d,j,p,C,r⟩ <;> first | omega | skip
  subst r;rw[hk] at d;simp only[List.cons.injEq,and_true,Int.natCast_inj] at d;obtain ⟨rfl,rfl,rfl⟩:=d;obtain ⟨k,l⟩:=m j;obtain ⟨q,w⟩:=o p;obtain ⟨E,I⟩:=A C;exact ⟨by simp only[Ex.pr,k,q,E],rfl⟩
theorem Aal {N:List Nd}{Es a:List Ex}(h1:Es.length=N.length)(h2:a.length=N.length)(b:∀ j,(h:j < Es.length)→CP N j Es[j])(c:∀ j,(h:j < a.length)→CP N j a[j])(k:Int):WB Es k=WB a k:=by
 rw[WB,WB];by_cases hk:k.toNat < N.length
 ·rw[List.getElem?_eq_getElem (by omega),List.getElem?_eq_getElem (by omega)];exact ((b _ (by omega)).one (c _ (by omega))).1
 ·rw[List.getElem?_eq_none (by omega),List.getElem?_eq_none (by omega)]
theorem Aam {N:List Nd}{Es a:List Ex}(h1:Es.length=N.length)(h2:a.length=N.length)(b:∀ j,(h:j < Es.length)→CP N j Es[j])(c:∀ j,(h:j < a.length)→CP N j a[j])(L:List St):Gj Es L=Gj a L:=by
 have e:KJ Es=KJ a:=funext fun s=>by
  simp only[KJ,Rc,Aal h1 h2 b c]
 rw[Gj,Gj,e]
theorem Oi.one {N:List Nd}{L:List St}{s t:ByteArray}(h:Oi N L s)(k:Oi N L t):s=t:=by
 rcases h with ⟨h1,rfl⟩ | ⟨h1,Es,a1,a2,rfl⟩
 ·rcases k with ⟨_,rfl⟩ | ⟨a,_⟩
  ·rfl
  ·rw[h1] at a;cases a
 ·rcases k with ⟨a,_⟩ | ⟨_,b,b1,b2,rfl⟩
  ·rw[h1] at a;cases a
  ·exact Aam a1 b1 a2 b2 L
end Go.Proofs.YtoplnhndilmlcaaGreatDoor
namespace Go.Proofs.YtoplnhndilmlcaaGreatDoor
set_option maxRecDepth 100000
set_option maxHeartbeats 3200000
open Go.RowKit
set_option linter.unusedVariables false
variable {a1 a2 a3 a4 a5 a6 : Addr}
theorem Xd (a b:Int):mx a b=max a b:=by unfold mx;split <;> omega
def ErN (a4 a5 a6:Addr) (c:Int) (o:Option Int) (w:World) (r:Ending) (w':World):Prop:=
 (match o with
   | none=>r= .returned .nilIface
   | some i=>∃ b,r= .returned (By b)∧ErP a4 a5 a6 c i b w')∧Below w.heap.size w w'
theorem Xe {X:List Sx}{k:Nat}(hk:k < X.length):KS (X.drop k)=if 64 < mx (NF X[k].cond) (NF X[k].grant) then some X[k].at' else KS (X.drop (k+1)):=by
 rw[List.drop_eq_getElem_cons hk,KS]
theorem Qv (X:List Sx)(v:Value)(w:World)(lo:Nat)(a:Option Addr)(K:Nat)(L:w.ownsRow lo 47 5 (.slice a X.length K) X.length (NE X))(hc:∀ x∈X,AU x.cond≤65535∧AU x.grant≤65535)(ao:X.length≤4000)(S:S6 w a1 a2 a3 a4 a5 a6):
  Calls Tryz.prog 43 #[.slice a X.length K] w (ErN a4 a5 a6 6 (KS X) w):=by
 have ab:=Ab hc;have M:=Ab L;have ac:=Ab S;have d:=Ab (show KS X=KS (X.drop 0) by rw[List.drop_zero]);clear hc L S;generalize hm:X.length=m at *;have N:=Ab hm;clear hm;go_enter Tryz.func43,Tryz.ntmps43
 go_wp2_with fail
 go_loopw [7] (fun i wr=>∃ k:Nat,k≤m∧i= .int .i64 k∧KS X=KS (X.drop k)∧Below w.heap.size w wr) (fun i _=>m - (intOf i).toNat)
 case atStart=>exact ⟨0,Nat.zero_le _,rfl,Aa d,BRN⟩
 case round=>
  clear d;obtain ⟨k,hk,rfl,hx,o⟩:=hrel;have d:=Ab hx;clear hx;by_cases B:k < m
  ·have ap:(k:Int) < (m:Int):=by omega
   have q:k < X.length:=by rw[Aa N];exact B
   obtain ⟨aq,ar,hf,ad⟩:=Af (Aa M);obtain ⟨g,ae,au,O⟩:=ad (by omega);have af:a=some ⟨g,0,none⟩:=by injection hf with h1;rw[h1];exact ae
   subst af;have ag:g < w.heap.size:=((Aa M).lt g rfl).2;have f:∀ r,r < 5→∀ u,(Xa X[k])[r]? =some u→wr.cell? ⟨g,k * 5+r,none⟩=some u:=fun r ah u hu=>by
    rw[o.cell (p:=⟨g,k * 5+r,none⟩) ag];refine O _ _ ?_;rw[SM X k q r ah];exact hu
   have C:=f 0 (by decide) _ rfl;have P:=f 1 (by decide) _ rfl;have q2:=f 2 (by decide) _ rfl;have q3:=f 3 (by decide) _ rfl;have q4:=f 4 (by decide) _ rfl;simp only[Nat.add_zero] at C;obtain ⟨Q,R⟩:=Aa ab X[k] (List.getElem_mem q);have s:=Ab (fun w=>Xc X[k].cond Q w);have t:=Ab (fun w=>Xc X[k].grant R w);have h:=Ab (Xe q);have y:=IU X[k].cond;have z:=IU X[k].grant;have T:=Ab B;clear f O Q R hf B;generalize X[k]=x at C P q2 q3 q4 s t h y z;clear q;generalize NF x.cond=d1 at s h;generalize NF x.grant=d2 at t h;generalize DG x.cond=b at q3 s y;generalize DG x.grant=c at q4 t z;have ai:=o.alloc o.size (.cells #[.int .i64 x.at',.int .i64 x.kind,.string x.name,b,c] 47);have E:=Aj.new wr #[.int .i64 x.at',.int .i64 x.kind,.string x.name,b,c] 47;go_wp2_with fail
   rw[run_store _ _ _ _ _ y];go_simp
   rw[run_store _ _ _ _ _ z];go_simp
   go_wp2_with fail
   generalize aj:wr.alloc (.cells #[.int .i64 x.at',.int .i64 x.kind,.string x.name,b,c] 47)=j at *;have av:j.cell? ⟨wr.heap.size,3,none⟩=some b:=E.cell 3;have aw:j.cell? ⟨wr.heap.size,4,none⟩=some c:=E.cell 4;have F:=E.after BRN.drew NLN;have ax:j.drew.cell? ⟨wr.heap.size,3,none⟩=some b:=F.cell 3;have ay:j.drew.cell? ⟨wr.heap.size,4,none⟩=some c:=F.cell 4;have U:=ai.drew;clear aj C P q2 q3 q4 y z;have az:Hid (mx d1 d2=if d1 < d2 then d2 else d1):=Ab rfl;go_region_held3 (fun w'=>w'.cell? ⟨wr.heap.size,3,none⟩=some b∧w'.cell? ⟨wr.heap.size,4,none⟩=some c) (first | assumption | go_keep) (first
    | (go_at_call 80;refine (Aa t H).mono ?_;rintro e l ⟨rfl,V⟩;have I:=J.after V NLN;have A:=W.trans (V.mono W.size);have aA:l.cell? ⟨wr.heap.size,3,none⟩=some b:=I.cell 3;have aB:l.cell? ⟨wr.heap.size,4,none⟩=some c:=I.cell 4)
    | (go_at_call 80;refine (Aa s j.drew).mono ?_;rintro e H ⟨rfl,Y⟩;have J:=F.after Y NLN;have W:=U.trans (Y.mono U.size);have aC:H.cell? ⟨wr.heap.size,3,none⟩=some b:=J.cell 3;have aD:H.cell? ⟨wr.heap.size,4,none⟩=some c:=J.cell 4)
    | fail)
   cases Z:decide (64 < max d1 d2)
   ·have n:=Ab (show KS X=KS (X.drop (k+1)) by rw[Aa d,Aa h,if_neg (by rw[Xd];exact of_decide_eq_false Z)]);go_wp2_with fail
    go_roundw
    case rel=>exact ⟨k+1,Aa T,by go_num,Aa n,A⟩
    case measure=>have:=Aa T;simp[intOf];omega
   ·have n:=Ab (show KS X=some x.at' by rw[Aa d,Aa h,if_pos (by rw[Xd];exact of_decide_eq_true Z)]);have aa:=(Aa ac).below A NLN;have g6:=aa.g6;have aE:l.cell? ⟨wr.heap.size,0,none⟩=some (.int .i64 x.at'):=I.cell 0;have aF:=(aa.below (Below.refl l.heap.size l).drew NLN).g6;go_wp2_with fail
    refine (DY _ _ _ _).mono ?_;rintro e aG ⟨rfl,ak,al⟩;dsimp only;go_wp2_with fail
    go_ret
    rw[Aa n];exact ⟨⟨_,rfl,ak⟩,A.trans (al.mono A.size)⟩
  ·have e:k=m:=by omega
   subst e;have n:=Ab (show KS X=none by rw[Aa d,← Aa N,List.drop_length];rfl);go_wp2_with fail
   go_ret
   rw[Aa n];exact ⟨rfl,o⟩
def Jv:List Nd→List Int→List Int
 | n ::N,i ::P=>if 64 < n.names.length then i ::Jv N P else Jv N P
 | _,_=> []
theorem Xf {N:List Nd}{P:List Int}{k:Nat}(hk:k < N.length)(a:k < P.length):(Jv (N.drop k) (P.drop k)).head? =if 64 < N[k].names.length then some P[k] else (Jv (N.drop (k+1)) (P.drop (k+1))).head?:=by
 rw[List.drop_eq_getElem_cons hk,List.drop_eq_getElem_cons a,Jv];split <;> rfl
theorem SN (N:List Nd)(P:List Int)(nd R:Value)(n o:List Value)(w:World)(lo:Nat)(C:A6 w lo nd N n o)(E:w.ownsRow lo 3 1 R P.length (At P))(F:N.length=P.length)(ax:N.length≤65535)(S:S6 w a1 a2 a3 a4 a5 a6):
  Calls Tryz.prog 42 #[nd,R] w (ErN a4 a5 a6 5 (Jv N P).head? w):=by
 have c:=Ab C;have Z:=Ab E;have aa:=Ab S;have d:=Ab (show (Jv N P).head? =(Jv (N.drop 0) (P.drop 0)).head? by rw[List.drop_zero,List.drop_zero]);obtain ⟨ay,az,ab,g⟩:=Af C.own;obtain ⟨aA,aB,ac,h⟩:=Af E;subst ab;subst ac;have ad:=Ab g;have ae:=Ab h;clear C E S g h;generalize hm:N.length=m at *;have q:=Ab (And.intro hm F);rw[← F];clear hm F;go_enter Tryz.func42,Tryz.ntmps42
 go_wp2_with fail
 go_loopw [9] (fun i wr=>∃ k:Nat,k≤m∧i= .int .i64 k∧(Jv N P).head? =(Jv (N.drop k) (P.drop k)).head?∧Below w.heap.size w wr) (fun i _=>m - (intOf i).toNat)
 case atStart=>exact ⟨0,Nat.zero_le _,rfl,Aa d,BRN⟩
 case round=>
  clear d;obtain ⟨k,hk,rfl,hx,s⟩:=hrel;have d:=Ab hx;clear hx;by_cases t:k < m
  ·have aC:(k:Int) < (m:Int):=by omega
   have a:k < N.length:=by rw[(Aa q).1];exact t
   have H:k < P.length:=by rw[← (Aa q).2];exact t
   obtain ⟨v,af,aD,g⟩:=Aa ad (by omega);obtain ⟨j,ag,aE,h⟩:=Aa ae (by rw[← (Aa q).2];omega);subst af;subst ag;have ah:v < w.heap.size:=((Aa c).own.lt v rfl).2;have ai:j < w.heap.size:=((Aa Z).lt j rfl).2;have y:k < n.length:=by rw[(Aa c).len];exact a
   have I:k < o.length:=by rw[(Aa c).lenk];exact a
   have f:∀ r,r < 5→∀ u,(Gi N[k] n[k] o[k])[r]? =some u→wr.cell? ⟨v,k * 5+r,none⟩=some u:=fun r aj u hu=>by
    rw[s.cell (p:=⟨v,k * 5+r,none⟩) ah];refine g _ _ ?_;rw[Ii N n o k a y I r aj];exact hu
   have J:=f 0 (by decide) _ rfl;have T:=f 1 (by decide) _ rfl;have q2:=f 2 (by decide) _ rfl;have q3:=f 3 (by decide) _ rfl;have q4:=f 4 (by decide) _ rfl;simp only[Nat.add_zero] at J;obtain ⟨K,cs,U,ak⟩:=Af ((Aa c).names k a y);obtain ⟨L,M,V,al⟩:=Af ((Aa c).kids k a I);rw[U] at q3;rw[V] at q4;have W:∀ w',Below w.heap.size w w'→w'.cell? ⟨j,k,none⟩=some (.int .i64 P[k]):=fun w' ao=>by
    rw[ao.cell (p:=⟨j,k,none⟩) ai];refine h _ _ ?_;rw[At,List.getElem?_map,List.getElem?_eq_getElem H];rfl
   have z:=Ab W;have A:=Ab (Xf a H);have X:=Ab t;have aF:(k:Int) < (P.length:Int):=by omega
   have ap:N[k].names.length≤9223372036854775807:=by
    have:=(Aa c).names k a y;rcases this.2 with ⟨_,h0⟩ | ⟨aG,aH,aI,_,_,_,h4,h5,_⟩
    ·omega
    ·unfold maxLen at h5;omega
   clear f g h U V t W ak al;generalize P[k]=Y at z A;generalize N[k]=x at J T q2 q3 q4 A ap;clear a H y I;have b:=s.alloc s.size (.cells #[.int .i64 x.op,.int .i64 x.num,.string x.text,.slice K x.names.length cs,.slice L x.kids.length M] 80);have aq:=Aj.new wr #[.int .i64 x.op,.int .i64 x.num,.string x.text,.slice K x.names.length cs,.slice L x.kids.length M] 80;by_cases B: 64 < x.names.length
   ·have ar:(64 :Int) < (x.names.length:Int):=by omega
    have l:=Ab (show (Jv N P).head? =some Y by rw[Aa d,Aa A,if_pos B]);have O:=(Aa aa).below b NLN;have g5:=O.g5;have c5:=Aa z _ b;have aJ:=Aa z _ b.drew;have g6:=(O.below BRN.drew NLN).g5;clear B;go_wp2_with fail
    generalize au:wr.alloc (.cells #[.int .i64 x.op,.int .i64 x.num,.string x.text,.slice K x.names.length cs,.slice L x.kids.length M] 80)=av at *;clear au J T q2 q3 q4 aq;go_region_held3 (fun w'=>w'.cell? ⟨j,k,none⟩=some (.int .i64 Y)∧w'.cell? ⟨1,0,none⟩=some (.iface 256 (.pointer (some a5)))) (first | assumption | go_keep) (first
     | (go_at_call 75;refine (DY _ _ _ av.drew).mono ?_;rintro e aK ⟨rfl,aw,Q⟩;have c7:=Aa z _ (b.drew.trans (Q.mono b.drew.size));have g7:=((O.below BRN.drew NLN).below Q NLN).g5)
     | fail)
    all_goals
     go_wp2_with fail
     go_ret
     rw[Aa l];exact ⟨⟨_,rfl,aw⟩,b.drew.trans (Q.mono b.drew.size)⟩
   ·have ar: ¬ ((64 :Int) < (x.names.length:Int)):=by omega
    have l:=Ab (show (Jv N P).head? =(Jv (N.drop (k+1)) (P.drop (k+1))).head? by rw[Aa d,Aa A,if_neg B]);clear B;go_wp2_with fail
    go_roundw
    case rel=>exact ⟨k+1,Aa X,by go_num,Aa l,b⟩
    case measure=>have:=Aa X;simp[intOf];omega
  ·have e:k=m:=by omega
   subst e;have l:=Ab (show (Jv N P).head? =none by rw[Aa d,← (Aa q).1,List.drop_length];rfl);go_wp2_with fail
   go_ret
   rw[Aa l];exact ⟨rfl,s⟩
end Go.Proofs.YtoplnhndilmlcaaGreatDoor
namespace Go.Proofs.YtoplnhndilmlcaaGreatDoor
open Go.RowKit
set_option linter.unusedVariables false
theorem Er.same:∀ {e:Ex} {p:Pt},Er e p→e.cnt=p.ex.cnt∧(∀ b,Fc e b=Fc p.ex b)∧Jw e=Jw p.ex∧Eu e=Eu p.ex
 | .int i n,.int j m,h=>by obtain ⟨rfl,rfl⟩:=h;exact ⟨rfl,fun _=>rfl,rfl,rfl⟩
 | .text i s,.text j t,h=>by obtain ⟨rfl,rfl⟩:=h;exact ⟨rfl,fun _=>rfl,rfl,rfl⟩
 | .bool i b,.bool j d,h=>by obtain ⟨rfl,rfl⟩:=h;exact ⟨rfl,fun _=>rfl,rfl,rfl⟩
 | .set i a n c K,.set j ss,h=>by obtain ⟨rfl,f⟩:=h;rw[Xg f];exact ⟨rfl,fun _=>rfl,rfl,rfl⟩
 | .name i s,.name j t,h=>by obtain ⟨rfl,rfl⟩:=h;exact ⟨rfl,fun _=>rfl,rfl,rfl⟩
 | .un i op k,.un j o q,h=>by
  obtain ⟨rfl,rfl,hk⟩:=h;obtain ⟨a1,a2,a3,a4⟩:=Er.same hk;exact ⟨by simp only[Pt.ex,Ex.cnt,a1],fun b=>by simp only[Pt.ex,Fc,a1,a2],by simp only[Pt.ex,Jw,a3],by simp only[Pt.ex,Eu,a4]⟩
 | .bin i op l r,.bin j o p q,h=>by
  obtain ⟨rfl,rfl,g,u⟩:=h;obtain ⟨a1,a2,a3,a4⟩:=Er.same g;obtain ⟨b1,b2,b3,b4⟩:=Er.same u;exact ⟨by simp only[Pt.ex,Ex.cnt,a1,b1],fun b=>by simp only[Pt.ex,Fc,a1,a2,b1,b2],by simp only[Pt.ex,Jw,a3,b3],by simp only[Pt.ex,Eu,a4,b4]⟩
 | .ite i c t e,.ite j x y z,h=>by
  obtain ⟨rfl,hc,ht,he⟩:=h;obtain ⟨a1,a2,a3,a4⟩:=Er.same hc;obtain ⟨b1,b2,b3,b4⟩:=Er.same ht;obtain ⟨c1,c2,c3,c4⟩:=Er.same he;exact ⟨by simp only[Pt.ex,Ex.cnt,a1,b1,c1],fun b=>by simp only[Pt.ex,Fc,a1,a2,b1,b2,c1,c2],by simp only[Pt.ex,Jw,a3,b3,c3],by simp only[Pt.ex,Eu,a4,b4,c4]⟩
 | .attr ..,_,h=>absurd h (by simp[Er])
 | .lett ..,_,h=>absurd h (by simp[Er])
 | .int ..,.text ..,h | .int ..,.bool ..,h | .int ..,.set ..,h | .int ..,.name ..,h | .int ..,.un ..,h | .int ..,.bin ..,h | .int ..,.ite ..,h=>absurd h (by simp[Er])
 | .text ..,.int ..,h | .text ..,.bool ..,h | .text ..,.set ..,h | .text ..,.name ..,h | .text ..,.un ..,h | .text ..,.bin ..,h | .text ..,.ite ..,h=>absurd h (by simp[Er])
 | .bool ..,.int ..,h | .bool ..,.text ..,h | .bool ..,.set ..,h | .bool ..,.name ..,h | .bool ..,.un ..,h | .bool ..,.bin ..,h | .bool ..,.ite ..,h=>absurd h (by simp[Er])
 | .set ..,.int ..,h | .set ..,.text ..,h | .set ..,.bool ..,h | .set ..,.name ..,h | .set ..,.un ..,h | .set ..,.bin ..,h | .set ..,.ite ..,h=>absurd h (by simp[Er])
 | .name ..,.int ..,h | .name ..,.text ..,h | .name ..,.bool ..,h | .name ..,.set ..,h | .name ..,.un ..,h | .name ..,.bin ..,h | .name ..,.ite ..,h=>absurd h (by simp[Er])
 | .un ..,.int ..,h | .un ..,.text ..,h | .un ..,.bool ..,h | .un ..,.set ..,h | .un ..,.name ..,h | .un ..,.bin ..,h | .un ..,.ite ..,h=>absurd h (by simp[Er])
 | .bin ..,.int ..,h | .bin ..,.text ..,h | .bin ..,.bool ..,h | .bin ..,.set ..,h | .bin ..,.name ..,h | .bin ..,.un ..,h | .bin ..,.ite ..,h=>absurd h (by simp[Er])
 | .ite ..,.int ..,h | .ite ..,.text ..,h | .ite ..,.bool ..,h | .ite ..,.set ..,h | .ite ..,.name ..,h | .ite ..,.un ..,h | .ite ..,.bin ..,h=>absurd h (by simp[Er])
theorem ErO.same {a:Option Ex}{p:Option Pt}(h:ErO a p):AU a=AU (p.map Pt.ex)∧(∀ b,IV a b=IV (p.map Pt.ex) b)∧PT a=PT (p.map Pt.ex)∧NF a=NF (p.map Pt.ex)∧(∀ b,LC a b=LC (p.map Pt.ex) b):=by
 match a,p,h with
 | none,none,_=>exact ⟨rfl,fun _=>rfl,rfl,rfl,fun _=>rfl⟩
 | some e,some p,h=>
  obtain ⟨a1,a2,a3,a4⟩:=Er.same (show Er e p from h);exact ⟨a1,a2,a3,a4,fun b=>by simp only[Option.map_some,LC,a1]⟩
theorem Cy.same {lo:Nat}{w:World} :∀ (X:List Sx) (S:List Ps),Cy lo w X S→(∀ b,A9 b X=A9 b (S.map Ps.sx))∧(∀ b,Dn b X=Dn b (S.map Ps.sx))∧De X=De (S.map Ps.sx)∧Dt X=Dt (S.map Ps.sx)∧KS X=KS (S.map Ps.sx)
 | [], [],_=>⟨fun _=>rfl,fun _=>rfl,rfl,rfl,rfl⟩
 | x ::X,s ::S,h=>by
  obtain ⟨⟨h1,h2,h3,h4,h5,_,_⟩,a⟩:=h;obtain ⟨c,d,f,g,i⟩:=Cy.same X S a;obtain ⟨a1,a2,a3,a4,a5⟩:=h4.same;obtain ⟨b1,b2,b3,b4,b5⟩:=h5.same;refine ⟨fun b=>?_,fun b=>?_, ?_, ?_, ?_⟩
  ·simp only[List.map_cons,A9,Ps.sx,a1,a2,b1,b2,c]
  ·simp only[List.map_cons,Dn,Ps.sx,a1,a5,b1,b5,d,h2,h3]
  ·simp only[List.map_cons,De,Ps.sx,a3,b3,f]
  ·rw[List.map_cons,Cq,Cq,g];simp only[Ps.sx,a1,b1]
  ·simp only[List.map_cons,KS,Ps.sx,a4,b4,i,h1]
 | [],_ ::_,h=>absurd h id
 | _ ::_, [],h=>absurd h id
theorem Ei:∀ (b B:List Nd) (P c:List Int),b.length=P.length→Jv (b ++B) (P ++c)=Jv b P ++Jv B c
 | [],B, [],c,_=>rfl
 | [],_,_ ::_,_,h=>by simp at h
 | _ ::_,_, [],_,h=>by simp at h
 | a ::b,B,p ::P,c,h=>by
  have d:=Ei b B P c (by simpa using h);rw[List.cons_append,List.cons_append,Jv,Jv,d];split <;> rfl
theorem Pa (n:Nd)(i:Int)(h:n.names= []):Jv [n] [i]= []:=by
 rw[Jv,h];rfl
theorem Pt.wide:∀ (p:Pt) (b:Nat),Jv (Fc p.ex b) (Jw p.ex)=Qw p.sets
 | .int ..,b=>rfl
 | .text ..,b=>rfl
 | .bool ..,b=>rfl
 | .set i ss,b=>by
  show Jv [_] [_]=_;rw[Jv];show (if 64 < (SO ss).length then _ else _)=Qw [(i,ss)];rw[Qw,List.filterMap_cons];dsimp only;split <;> simp_all[Jv]
 | .name ..,b=>rfl
 | .un i op k,b=>by
  have a:=Pt.wide k b;simp only[Pt.ex,Fc,Jw,Pt.sets];rw[Ei _ _ _ _ (by rw[Bp,Bv]),a,Pa _ _ rfl,List.append_nil]
 | .bin i op l r,b=>by
  simp only[Pt.ex,Fc,Jw,Pt.sets];rw[Ei _ _ _ _ (by simp[Bp,Bv]),Ei _ _ _ _ (by rw[Bp,Bv]),Pt.wide l,Pt.wide r,Pa _ _ rfl,List.append_nil,KT]
 | .ite i c t e,b=>by
  simp only[Pt.ex,Fc,Jw,Pt.sets];rw[Ei _ _ _ _ (by simp[Bp,Bv]),Ei _ _ _ _ (by simp[Bp,Bv]),Ei _ _ _ _ (by rw[Bp,Bv]),Pt.wide c,Pt.wide t,Pt.wide e,Pa _ _ rfl,List.append_nil,KT,KT,List.append_assoc]
theorem Xh (a:Option Pt)(b:Nat):Jv (IV (a.map Pt.ex) b) (PT (a.map Pt.ex))=Qw (OI a):=by
 cases a with
 | none=>rfl
 | some p=>exact p.wide b
theorem IW:∀ (S:List Ps) (b:Nat),Jv (A9 b (S.map Ps.sx)) (De (S.map Ps.sx))=Qw (S.flatMap Ps.sets)
 | [],b=>rfl
 | s ::S,b=>by
  simp only[List.map_cons,A9,De,List.flatMap_cons,Ps.sets];rw[Ei _ _ _ _ (by simp[GX,IX]),Ei _ _ _ _ (by rw[GX,IX]),IW S];simp only[Ps.sx,Xh,KT,List.append_assoc]
theorem Ij:∀ {e:Ex} {p:Pt} {lo:Nat} {w:World},Er e p→e.own lo w→(∀ q∈p.sets,Zk q.2)→e.sok w
 | .int ..,.int ..,_,_,_,_,_=>trivial
 | .text ..,.text ..,_,_,_,_,_=>trivial
 | .bool ..,.bool ..,_,_,_,_,_=>trivial
 | .name ..,.name ..,_,_,_,_,_=>trivial
 | .set i a n c K,.set j ss,lo,w,h,ho,hs=>by
  obtain ⟨_,f⟩:=h;have g:w.ownsRow lo 9 1 (.slice a n c) n (K.map Value.string):=ho;have m:K.length=n:=by have:=g.1;simpa using this
  have h1:=hs (j,ss) (by simp[Pt.sets]);have h2:∀ x∈K,x.size≤maxLen:=fun x hx=>h1.1 x ((f.mem x).1 hx);have h3:=f.len;have h4:=h1.2;exact ⟨Bb.of_owns g (fun k hk=>by rw[Cz K k (by omega)];exact h2 _ (List.getElem_mem _)),by dsimp only at h4;omega⟩
 | .un _ _ k,.un _ _ q,lo,w,h,ho,hs=>Ij (e:=k) h.2.2 ho hs
 | .bin _ _ l r,.bin _ _ p q,lo,w,h,ho,hs=>⟨Ij h.2.2.1 ho.1 (fun b d=>hs b (List.mem_append_left _ d)),Ij h.2.2.2 ho.2 (fun b d=>hs b (List.mem_append_right _ d))⟩
 | .ite _ c t e,.ite _ x y b,lo,w,h,ho,hs=>⟨Ij h.2.1 ho.1 (fun b d=>hs b (List.mem_append_left _ d)),Ij h.2.2.1 ho.2.1 (fun b d=>hs b (List.mem_append_right _ (List.mem_append_left _ d))),Ij h.2.2.2 ho.2.2 (fun b d=>hs b (List.mem_append_right _ (List.mem_append_right _ d)))⟩
 | .attr ..,_,_,_,h,_,_=>absurd h (by simp[Er])
 | .lett ..,_,_,_,h,_,_=>absurd h (by simp[Er])
 | .int ..,.text ..,_,_,h,_,_ | .int ..,.bool ..,_,_,h,_,_ | .int ..,.set ..,_,_,h,_,_ | .int ..,.name ..,_,_,h,_,_ | .int ..,.un ..,_,_,h,_,_ | .int ..,.bin ..,_,_,h,_,_ | .int ..,.ite ..,_,_,h,_,_=>absurd h (by simp[Er])
 | .text ..,.int ..,_,_,h,_,_ | .text ..,.bool ..,_,_,h,_,_ | .text ..,.set ..,_,_,h,_,_ | .text ..,.name ..,_,_,h,_,_ | .text ..,.un ..,_,_,h,_,_ | .text ..,.bin ..,_,_,h,_,_ | .text ..,.ite ..,_,_,h,_,_=>absurd h (by simp[Er])
 | .bool ..,.int ..,_,_,h,_,_ | .bool ..,.text ..,_,_,h,_,_ | .bool ..,.set ..,_,_,h,_,_ | .bool ..,.name ..,_,_,h,_,_ | .bool ..,.un ..,_,_,h,_,_ | .bool ..,.bin ..,_,_,h,_,_ | .bool ..,.ite ..,_,_,h,_,_=>absurd h (by simp[Er])
 | .set ..,.int ..,_,_,h,_,_ | .set ..,.text ..,_,_,h,_,_ | .set ..,.bool ..,_,_,h,_,_ | .set ..,.name ..,_,_,h,_,_ | .set ..,.un ..,_,_,h,_,_ | .set ..,.bin ..,_,_,h,_,_ | .set ..,.ite ..,_,_,h,_,_=>absurd h (by simp[Er])
 | .name ..,.int ..,_,_,h,_,_ | .name ..,.text ..,_,_,h,_,_ | .name ..,.bool ..,_,_,h,_,_ | .name ..,.set ..,_,_,h,_,_ | .name ..,.un ..,_,_,h,_,_ | .name ..,.bin ..,_,_,h,_,_ | .name ..,.ite ..,_,_,h,_,_=>absurd h (by simp[Er])
 | .un ..,.int ..,_,_,h,_,_ | .un ..,.text ..,_,_,h,_,_ | .un ..,.bool ..,_,_,h,_,_ | .un ..,.set ..,_,_,h,_,_ | .un ..,.name ..,_,_,h,_,_ | .un ..,.bin ..,_,_,h,_,_ | .un ..,.ite ..,_,_,h,_,_=>absurd h (by simp[Er])
 | .bin ..,.int ..,_,_,h,_,_ | .bin ..,.text ..,_,_,h,_,_ | .bin ..,.bool ..,_,_,h,_,_ | .bin ..,.set ..,_,_,h,_,_ | .bin ..,.name ..,_,_,h,_,_ | .bin ..,.un ..,_,_,h,_,_ | .bin ..,.ite ..,_,_,h,_,_=>absurd h (by simp[Er])
 | .ite ..,.int ..,_,_,h,_,_ | .ite ..,.text ..,_,_,h,_,_ | .ite ..,.bool ..,_,_,h,_,_ | .ite ..,.set ..,_,_,h,_,_ | .ite ..,.name ..,_,_,h,_,_ | .ite ..,.un ..,_,_,h,_,_ | .ite ..,.bin ..,_,_,h,_,_=>absurd h (by simp[Er])
theorem Uo {a:Option Ex}{p:Option Pt}{lo:Nat}{w:World}(h:ErO a p)(b:KA lo w a)(hs:∀ q∈OI p,Zk q.2):Vm w a:=by
 match a,p,h with
 | none,none,_=>trivial
 | some e,some p,h=>exact Ij h b hs
theorem Cy.sok {lo:Nat}{w:World} :∀ (X:List Sx) (S:List Ps),Cy lo w X S→(∀ q∈S.flatMap Ps.sets,Zk q.2)→∀ x∈X,Vm w x.cond∧Vm w x.grant
 | [], [],_,_,x,hx=>by cases hx
 | y ::X,s ::S,h,hs,x,hx=>by
  obtain ⟨⟨h1,h2,h3,h4,h5,a,b⟩,c⟩:=h;rw[List.flatMap_cons] at hs;rcases List.mem_cons.1 hx with rfl | hx
  ·exact ⟨Uo h4 a (fun q hq=>hs q (List.mem_append_left _ (List.mem_append_left _ hq))),Uo h5 b (fun q hq=>hs q (List.mem_append_left _ (List.mem_append_right _ hq)))⟩
  ·exact Cy.sok X S c (fun q hq=>hs q (List.mem_append_right _ hq)) x hx
 | [],_ ::_,h,_,_,_=>absurd h id
 | _ ::_, [],h,_,_,_=>absurd h id
end Go.Proofs.YtoplnhndilmlcaaGreatDoor
