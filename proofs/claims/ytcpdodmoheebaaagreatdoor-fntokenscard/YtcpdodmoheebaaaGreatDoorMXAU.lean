/-
  QS, VPY0, QT. Own work.
-/
import Derived.Test.YtcpdodmoheebaaaGreatDoorQR
import Derived.Test.YtcpdodmoheebaaaGreatDoorMXAT
import Derived.Test.YtcpdodmoheebaaaGreatDoorMXAP
import Derived.Test.YtcpdodmoheebaaaGreatDoorVPS
namespace Go.Proofs.YtcpdodmoheebaaaGreatDoor
open Go.RowKit
set_option linter.unusedVariables false
theorem LB {op:Int}(h: 11≤op∧op≤26):BB op=1∨BB op=2∨BB op=4∨BB op=5∨BB op=6:=by
 have:op=11∨op=12∨op=13∨op=14∨op=15∨op=16∨op=17∨op=18∨op=19∨op=20∨op=21∨op=22∨op=23∨op=24∨op=25∨op=26:=by omega
 rcases this with e | e | e | e | e | e | e | e | e | e | e | e | e | e | e | e <;> subst e <;> decide
theorem BJ (w:World)(a:Option Addr)(n c:Nat)(N:List Nd)(h:Dx w a n c N):∀ (e:Ex) (i:Nat),BZ N i e→e.fit w→e.cnt≤4000→CC w a n c i e.put
 | e,i,t,hf,hc=>by
  have G:=e.pr_size hf
  have o:∀ (x:Nd),N[i]? =some x→x.op=e.op→(1≤x.op∧x.op≤27)→H8 w a n c i x.op e.pr→CC w a n c i e.put:=fun x hx b B C=>by
   have:=KG w a n c N h i x hx B e.pr (by omega) C
   rw [b] at this
   exact this
  cases t with
  | int hx b j=>exact o _ hx b (by omega) (by rw [b];exact Lr w a n c N h i _ hx b hf.1 hf.2)
  | text hx b j=>exact o _ hx b (by omega) (by rw [b];exact KD w a n c N h i _ hx b hf)
  | @bool _ x hx b j=>
   refine o _ hx b (by omega) ?_
   rw [b]
   by_cases h1:x.num=1
   ·rw [Ex.pr,decide_eq_true h1]
    exact JW w a n c N h i _ hx b h1
   ·rw [Ex.pr,decide_eq_false h1]
    exact JX w a n c N h i _ hx b h1
  | set hx b j H I J=>exact o _ hx b (by omega) (by rw [b];exact Ls w a n c N h i _ hx b (by have:=hf.1.len;have:=hf.2.1;omega) hf.2.2)
  | name hx b j=>exact o _ hx b (by omega) (by rw [b];exact KF w a n c N h i _ hx b)
  | attr hx b j=>exact absurd hf id
  | lett hx b j=>exact absurd hf id
  | @un _ k x e hx b j A t=>
   have p:e.cnt≤4000:=by simp only [Ex.cnt] at hc;omega
   have y:=BJ w a n c N h e k t hf.2 p
   have z:∀ d,(e.put d).size≤50000000000:=fun d=>by have:=e.put_size hf.2 d;omega
   refine o _ hx rfl (by omega) ?_
   rw [Ms]
   have:x.op=8∨x.op=9∨x.op=10:=by omega
   rcases this with e1 | e1 | e1
   ·rw [e1];exact Lt w a n c N h i _ hx e1 k j e.put y (z _)
   ·rw [e1];exact Lu w a n c N h i _ hx e1 k j e.put y (z _)
   ·rw [e1];exact KH w a n c N h i _ hx e1 k j e.put y (z _)
  | @bin _ k l x e f hx b j A t u=>
   have p:e.cnt≤4000∧f.cnt≤4000:=by simp only [Ex.cnt] at hc;omega
   have q:=BJ w a n c N h e k t hf.2.1 p.1
   have r:=BJ w a n c N h f l u hf.2.2 p.2
   have s:∀ d,(e.put d).size≤16000010:=fun d=>by have:=e.put_size hf.2.1 d;omega
   have v:∀ d,(f.put d).size≤16000010:=fun d=>by have:=f.put_size hf.2.2 d;omega
   refine o _ hx rfl (by omega) ?_
   rw [L8,Mt,Jt]
   rcases LB b with e1 | e1 | e1 | e1 | e1
   ·rw [e1];exact Lw w a n c N h i _ hx b _ e1 rfl k l j e.put f.put q r (s _) (v _)
   ·rw [e1];exact Lx w a n c N h i _ hx b _ e1 rfl k l j e.put f.put q r (s _) (v _)
   ·rw [e1];exact Ly w a n c N h i _ hx b _ e1 rfl k l j e.put f.put q r (s _) (v _)
   ·rw [e1];exact Lz w a n c N h i _ hx b _ e1 rfl k l j e.put f.put q r (s _) (v _)
   ·rw [e1];exact LA w a n c N h i _ hx b _ e1 rfl k l j e.put f.put q r (s _) (v _)
  | @ite _ k l m x e f g hx b j A t u D=>
   have p:e.cnt≤4000∧f.cnt≤4000∧g.cnt≤4000:=by simp only [Ex.cnt] at hc;omega
   have q:=BJ w a n c N h e k t hf.1 p.1
   have r:=BJ w a n c N h f l u hf.2.1 p.2.1
   have E:=BJ w a n c N h g m D hf.2.2 p.2.2
   have s:∀ d,(e.put d).size≤16000010:=fun d=>by have:=e.put_size hf.1 d;omega
   have v:∀ d,(f.put d).size≤16000010:=fun d=>by have:=f.put_size hf.2.1 d;omega
   have F:∀ d,(g.put d).size≤16000010:=fun d=>by have:=g.put_size hf.2.2 d;omega
   refine o _ hx b (by omega) ?_
   rw [b]
   have:=Lv w a n c N h i _ hx b k l m j e.put f.put g.put q r E (s _) (v _) (F _)
   rw [Bz,Bz,Bz] at this
   exact this
termination_by e=>e
theorem G5 {w:World}{a:Option Addr}{n c:Nat}{N:List Nd}(h:Dx w a n c N)(p:∀ x∈N,AI x=true)(q:∀ x∈N,x.num≤9223372036854775807)(r:∀ (i:Nat) (x:Nd),N[i]? =some x→∀ k∈x.kids,0≤k∧k < (i:Int)):
  ∃ Es:List Ex,Es.length=N.length∧(∀ j,(h:j < Es.length)→BZ N j Es[j])∧∀ e∈Es,e.fit w:=by
 have:∀ k,k≤N.length→∃ Es:List Ex,Es.length=k∧(∀ j,(h:j < Es.length)→BZ N j Es[j])∧∀ e∈Es,e.fit w:=by
  intro k
  induction k with
  | zero=>exact fun _=>⟨[],rfl,fun j g=>absurd g (by simp),fun e he=>by cases he⟩
  | succ k s=>
   intro y
   obtain ⟨Es,hl,l,m⟩:=s (by omega)
   have d:k < N.length:=by omega
   have hx:N[k]? =some N[k]:=List.getElem?_eq_getElem d
   obtain ⟨b,z,_,_,an,nn,A,B,C,D,_,_,_,_,_,t,_⟩:=h.cells k d
   obtain ⟨e,_,u,v⟩:=L9 (w:=w) hx (p _ (List.getElem_mem d)) (r k _ hx) (q _ (List.getElem_mem d)) hl l m t
   refine ⟨Es ++ [e],by simp [hl],fun j g=>?_,fun f hf'=>?_⟩
   ·by_cases o:j < Es.length
    ·rw [List.getElem_append_left o];exact l j o
    ·have:j=Es.length:=by simp at g;omega
     subst this
     simp only [List.getElem_concat_length]
     rw [hl];exact u
   ·rcases List.mem_append.1 hf' with hf' | hf'
    ·exact m f hf'
    ·simp at hf';subst hf';exact v
 exact this N.length (Nat.le_refl _)
theorem BZ.one {N:List Nd}{s:Nat}{e:Ex}(t:BZ N s e):∀ {f:Ex},BZ N s f→e.pr=f.pr∧e.op=f.op:=by
 induction t with
 | int h i d=>intro f u;rcases u.inv h with ⟨b,r⟩ | ⟨b,r⟩ | ⟨b,r⟩ | ⟨b,r⟩ | ⟨b,r⟩ | ⟨b,r⟩ | ⟨b,r⟩ | ⟨b,r⟩ | ⟨b,r⟩ | ⟨b,r⟩ <;> first | omega | (subst r;exact ⟨rfl,rfl⟩)
 | text h i d=>intro f u;rcases u.inv h with ⟨b,r⟩ | ⟨b,r⟩ | ⟨b,r⟩ | ⟨b,r⟩ | ⟨b,r⟩ | ⟨b,r⟩ | ⟨b,r⟩ | ⟨b,r⟩ | ⟨b,r⟩ | ⟨b,r⟩ <;> first | omega | (subst r;exact ⟨rfl,rfl⟩)
 | bool h i d=>intro f u;rcases u.inv h with ⟨b,r⟩ | ⟨b,r⟩ | ⟨b,r⟩ | ⟨b,r⟩ | ⟨b,r⟩ | ⟨b,r⟩ | ⟨b,r⟩ | ⟨b,r⟩ | ⟨b,r⟩ | ⟨b,r⟩ <;> first | omega | (subst r;exact ⟨rfl,rfl⟩)
 | set h i d a n c=>intro f u;rcases u.inv h with ⟨b,r⟩ | ⟨b,r⟩ | ⟨b,r⟩ | ⟨b,r⟩ | ⟨b,r⟩ | ⟨b,r⟩ | ⟨b,r⟩ | ⟨b,r⟩ | ⟨b,r⟩ | ⟨b,r⟩ <;> first | omega | (obtain ⟨_,_,_,r⟩:=r;subst r;exact ⟨rfl,rfl⟩)
 | name h i d=>intro f u;rcases u.inv h with ⟨b,r⟩ | ⟨b,r⟩ | ⟨b,r⟩ | ⟨b,r⟩ | ⟨b,r⟩ | ⟨b,r⟩ | ⟨b,r⟩ | ⟨b,r⟩ | ⟨b,r⟩ | ⟨b,r⟩ <;> first | omega | (subst r;exact ⟨rfl,rfl⟩)
 | attr h i d=>intro f u;rcases u.inv h with ⟨b,r⟩ | ⟨b,r⟩ | ⟨b,r⟩ | ⟨b,r⟩ | ⟨b,r⟩ | ⟨b,r⟩ | ⟨b,r⟩ | ⟨b,r⟩ | ⟨b,r⟩ | ⟨b,r⟩ <;> first | omega | (subst r;exact ⟨rfl,rfl⟩)
 | lett h i d=>intro f u;rcases u.inv h with ⟨b,r⟩ | ⟨b,r⟩ | ⟨b,r⟩ | ⟨b,r⟩ | ⟨b,r⟩ | ⟨b,r⟩ | ⟨b,r⟩ | ⟨b,r⟩ | ⟨b,r⟩ | ⟨b,r⟩ <;> first | omega | (subst r;exact ⟨rfl,rfl⟩)
 | un h i d v t z=>
  intro f u
  rcases u.inv h with ⟨b,r⟩ | ⟨b,r⟩ | ⟨b,r⟩ | ⟨b,r⟩ | ⟨b,r⟩ | ⟨b,r⟩ | ⟨b,r⟩ | ⟨b,w,e',g,j,r⟩ | ⟨b,r⟩ | ⟨b,r⟩ <;> first | omega | skip
  subst r
  rw [d] at g
  obtain rfl:=Int.ofNat.inj (List.cons.inj g).1
  obtain ⟨k,l⟩:=z j
  exact ⟨by simp only [Ex.pr,k,l],rfl⟩
 | bin h i d v t u m o=>
  intro f x
  rcases x.inv h with ⟨b,r⟩ | ⟨b,r⟩ | ⟨b,r⟩ | ⟨b,r⟩ | ⟨b,r⟩ | ⟨b,r⟩ | ⟨b,r⟩ | ⟨b,r⟩ | ⟨b,w,A,e',B,g,j,p,r⟩ | ⟨b,r⟩ <;> first | omega | skip
  subst r
  rw [d] at g
  simp only [List.cons.injEq,and_true,Int.natCast_inj] at g
  obtain ⟨rfl,rfl⟩:=g
  obtain ⟨k,l⟩:=m j
  obtain ⟨q,y⟩:=o p
  exact ⟨by simp only [Ex.pr,k,l,q,y],rfl⟩
 | ite h i d v t u x m o C=>
  intro f D
  rcases D.inv h with ⟨b,r⟩ | ⟨b,r⟩ | ⟨b,r⟩ | ⟨b,r⟩ | ⟨b,r⟩ | ⟨b,r⟩ | ⟨b,r⟩ | ⟨b,r⟩ | ⟨b,r⟩ | ⟨b,w,A,G,e',B,H,g,j,p,E,r⟩ <;> first | omega | skip
  subst r
  rw [d] at g
  simp only [List.cons.injEq,and_true,Int.natCast_inj] at g
  obtain ⟨rfl,rfl,rfl⟩:=g
  obtain ⟨k,l⟩:=m j
  obtain ⟨q,y⟩:=o p
  obtain ⟨F,I⟩:=C E
  exact ⟨by simp only [Ex.pr,k,q,F],rfl⟩
theorem LC {N:List Nd}{Es a:List Ex}(h1:Es.length=N.length)(h2:a.length=N.length)(b:∀ j,(h:j < Es.length)→BZ N j Es[j])(c:∀ j,(h:j < a.length)→BZ N j a[j])(k:Int):Lf Es k=Lf a k:=by
 rw [Lf,Lf]
 by_cases d:k.toNat < N.length
 ·rw [List.getElem?_eq_getElem (by omega),List.getElem?_eq_getElem (by omega)]
  exact ((b _ (by omega)).one (c _ (by omega))).1
 ·rw [List.getElem?_eq_none (by omega),List.getElem?_eq_none (by omega)]
theorem LD {N:List Nd}{Es a:List Ex}(h1:Es.length=N.length)(h2:a.length=N.length)(b:∀ j,(h:j < Es.length)→BZ N j Es[j])(c:∀ j,(h:j < a.length)→BZ N j a[j])(L:List St):EQ Es L=EQ a L:=by
 have e:IS Es=IS a:=funext fun s=>by
  simp only [IS,Lp,LC h1 h2 b c]
 rw [EQ,EQ,e]
theorem FZ.one {N:List Nd}{L:List St}{s t:ByteArray}(h:FZ N L s)(k:FZ N L t):s=t:=by
 rcases h with ⟨h1,rfl⟩ | ⟨h1,Es,a1,a2,rfl⟩
 ·rcases k with ⟨_,rfl⟩ | ⟨a,_⟩
  ·rfl
  ·rw [h1] at a;cases a
 ·rcases k with ⟨a,_⟩ | ⟨_,b,b1,b2,rfl⟩
  ·rw [h1] at a;cases a
  ·exact LD a1 b1 a2 b2 L
set_option maxHeartbeats 800000
theorem Ji (N:List Nd)(L:List St):GB N L=true↔∃ a,Cv (N.map Nd.kids) N.length [] 0=some a∧AH a=L.flatMap AG:=by
 rw [GB]
 cases h:Cv (N.map Nd.kids) N.length [] 0 with
 | none=>simp
 | some a=>simp
theorem Ke (N:List Nd)(L:List St):De N L=true↔(N.length≤4000∧1≤L.length∧L.length≤600)∧N.all AI=true∧Du N L:=by
 rw [← Je,La,← Ji,De]
 simp only [Bool.and_eq_true,decide_eq_true_eq]
 constructor
 ·rintro ⟨⟨⟨h1,h2,h3⟩,h4⟩,h5⟩
  exact ⟨⟨h1,h2⟩,h4,h3,h5⟩
 ·rintro ⟨⟨h1,h2⟩,h4,h3,h5⟩
  exact ⟨⟨⟨h1,h2,h3⟩,h4⟩,h5⟩
theorem Jj {n m:Nat}{N:List Nd}{L:List St}{e:Ending}(h:BS n m N L e)(a:N.length=n)(hm:L.length=m):e= .returned (.bool (De N L)):=by
 obtain ⟨b,rfl,c⟩:=h
 have:b=De N L:=by
  rw [Bool.eq_iff_iff,c,Ke,a,hm]
 rw [this]
theorem Ef (a b:Option Addr)(n c m d:Nat)(N:List Nd)(L:List St)(w:World)(h1:Dx w a n c N)(h2:Ku w b m d L):
  Calls Tryz.prog 34 #[.agg #[.slice a n c,.slice b m d]] w fun e w'=>e= .returned (.bool (De N L))∧Below w.heap.size w w':=by
 have f:=(Below.refl w.heap.size w).alloc (Nat.le_refl _) (.cells #[.slice a n c,.slice b m d] 49)
 have g:=Ab h1.len
 have h:=Ab h2.len
 go_enter Tryz.func34,Tryz.ntmps34
 go_wp2_with (go_at_call 52;refine (Iz _ _ _ _ _ _ N L _ (h1.below f (Nat.le_refl _)) (h2.below f (Nat.le_refl _))).mono ?_;rintro e k ⟨he,i⟩;have j:=Jj he (Aa g) (Aa h);subst j;clear he)
 go_ret
 exact ⟨rfl,f.trans (i.mono f.size)⟩
set_option maxRecDepth 100000
set_option maxHeartbeats 1600000
theorem IN (a b:Option Addr)(n c m d:Nat)(N:List Nd)(L:List St)(w:World)(h1:Dx w a n c N)(h2:Ku w b m d L)(aK:∀ x∈N,x.num≤9223372036854775807):
  Calls Tryz.prog 16 #[.agg #[.slice a n c,.slice b m d]] w fun r w'=>(∃ s,r= .returned (.string s)∧FZ N L s)∧Below w.heap.size w w':=by
 have bi:=Ab h1.len
 have ai:=Ab h2.len
 have aV:=Ab aK
 have aL:=Ao.new w #[.slice a n c,.slice b m d] 49
 have V:=(Below.refl w.heap.size w).alloc (Nat.le_refl _) (.cells #[.slice a n c,.slice b m d] 49)
 have aj:=h1.below V (Nat.le_refl _)
 have ak:=h2.below V (Nat.le_refl _)
 clear h1 h2 aK
 go_enter Tryz.func16,Tryz.ntmps16
 go_wp2_with fail
 refine (Ef _ _ _ _ _ _ N L _ aj ak).mono ?_
 rintro r R ⟨rfl,W⟩
 have al:=V.trans (W.mono V.size)
 have aM:=aj.below W (Nat.le_refl _)
 have aW:=ak.below W (Nat.le_refl _)
 have ao:=aL.after W (Nat.le_refl _)
 clear aj ak aL V W
 have aX:=al.size
 have bj:w.heap.size < R.heap.size:=ao.lt
 obtain ⟨aY,aZ⟩:=IW ao
 dsimp only
 cases X:De N L with
 | false=>
  have ap:=Ab X
  clear X
  go_wp2_with fail
  go_ret
  exact ⟨⟨_,rfl,.inl ⟨Aa ap,rfl⟩⟩,al⟩
 | true=>
  have ap:=Ab X
  have Y:=Ab (GZ X)
  clear X
  obtain ⟨Es,hl,ae,aq⟩:=G5 aM (Aa Y).fields (Aa aV) (Aa Y).kids
  have F:=Ab (Jo (Aa Y) hl ae aq)
  have A:=Ab (fun (k:Nat) (e:Ex) (he:Es[k]? =some e) (hc:e.cnt≤4000)=>show CC R a n c k e.put by
   obtain ⟨ar,q2⟩:=List.getElem?_eq_some_iff.1 he
   exact BJ R a n c N aM e k (q2 ▸ ae k ar) (aq e (List.mem_of_getElem? he)) hc)
  have S:=Ab ae
  have a0:=Ab hl
  have aN:=Ab (show 1≤m∧m≤600 by rw [← Aa ai];exact ⟨(Aa Y).m0,(Aa Y).m⟩)
  have bk:m≤600:=(Aa aN).2
  clear hl ae aq
  go_wp2_with fail
  go_loopw [3,12] (fun a1 au wr=>∃ k:Nat,k≤m∧a1= .string (EQ Es (L.take k))∧au= .int .i64 k∧Below R.heap.size R wr) (fun _ au _=>m - (intOf au).toNat)
  case atStart=>exact ⟨0,by omega,rfl,rfl,Below.refl _ _⟩
  case round=>
   obtain ⟨k,bl,rfl,rfl,l⟩:=hrel
   by_cases av:k < m
   ·have bm:(k:Int) < (m:Int):=by omega
    have af:k < L.length:=by rw [Aa ai];exact av
    obtain ⟨b1,bn,rfl,bo,T,c1,c2,c3⟩:=(aW.below l (Nat.le_refl _)).cells k af
    have p:=Ab (Ky Es L k af)
    have G:=Ab (Aa F L[k] (List.getElem_mem af))
    have H:=Ab (show (EQ Es (L.take k)).size≤30000000000 by
     have h1:=Fa (w:=R) (Es:=Es) (L:=L.take k) (fun s hs=>Aa F s (List.mem_of_mem_take hs))
     have h2:=Aa aN
     rw [List.length_take] at h1
     omega)
    have bp:=l.size
    have B:=Ab av
    generalize L[k]=s at T c1 c2 c3 p G
    generalize EQ Es (L.take k)=v at p H ⊢
    have C:=ao.after l (Nat.le_refl _)
    clear af av aY aZ
    have Z:(⟨#[108,101,116,32]⟩:ByteArray).size=4:=rfl
    have ag:(⟨#[32,61,32]⟩:ByteArray).size=3:=rfl
    have aO:(⟨#[119,104,101,110,32]⟩:ByteArray).size=5:=rfl
    have aP:(⟨#[32,61,62,32]⟩:ByteArray).size=4:=rfl
    have bq:(⟨#[101,108,115,101,32]⟩:ByteArray).size=5:=rfl
    have br:(⟨#[59,10]⟩:ByteArray).size=2:=rfl
    have bs:(⟨#[103,114,97,110,116,32]⟩:ByteArray).size=6:=rfl
    have bt:(⟨#[100,101,110,121]⟩:ByteArray).size=4:=rfl
    have bu:w.heap.size < wr.heap.size:=by omega
    have bv:=Aa H
    rcases Aa G with ⟨j,U,⟨i,e,hm,D,I,J⟩,aQ⟩ | ⟨j,⟨i,e,hm,D,I,J⟩,aw⟩ | ⟨j,U,aw⟩
    ·have h:=Ab (show EQ Es (L.take (k+1))=v ++(⟨#[108,101,116,32]⟩ ++s.name ++⟨#[32,61,32]⟩ ++e.pr) ++⟨#[59,10]⟩ by rw [Aa p,IS,if_pos j,hm,Dm D];simp only [ByteArray.append_assoc])
     rw [j] at T
     rw [hm] at c2
     rw [aQ] at c3
     have y:=Ab (Aa A i e D J 0)
     simp only [Bz] at y
     have aa:e.pr.size≤16000000:=by have:=e.pr_size I;omega
     generalize s.name=nm at c1 U h
     generalize e.pr=t at y aa h
     have g:=l.alloc l.size (.cells #[.int .i64 1,.string nm,.int .i64 i,.int .i64 (-1)] 71)
     have o:=Ao.new wr #[.int .i64 1,.string nm,.int .i64 i,.int .i64 (-1)] 71
     have q:=C.alloc (.cells #[.int .i64 1,.string nm,.int .i64 i,.int .i64 (-1)] 71)
     clear C
     clear G p j hm aQ D I J H A F S
     have a2:∃ K,K=wr.alloc (.cells #[.int .i64 1,.string nm,.int .i64 i,.int .i64 (-1)] 71):=⟨_,rfl⟩
     go_wp2_with fail
     obtain ⟨K,aR⟩:=a2
     rw [← aR] at g o q ⊢
     clear aR
     have ah:Below K.heap.size K K.drew:=(Below.refl _ _).drew
     have a3:=Ab (g.trans (ah.mono g.size))
     have ax:∀ w',Below K.heap.size K w'→w'.cell? ⟨wr.heap.size,1,none⟩=some (.string nm)∧w'.cell? ⟨wr.heap.size,2,none⟩=some (.int .i64 i)∧w'.cell? ⟨w.heap.size,0,none⟩=some (.slice a n c):=fun w' ay=>⟨(o.after ay (Nat.le_refl _)).cell 1,(o.after ay (Nat.le_refl _)).cell 2,(q.after ay (Nat.le_refl _)).cell 0⟩
     have aS:=Ab ax
     have ar:=ax _ ah
     have a4:=AX (a:=⟨#[108,101,116,32]⟩) (b:=nm) (by rw [Z];omega)
     have a5:=AX (a:=⟨#[108,101,116,32]⟩ ++nm) (b:=⟨#[32,61,32]⟩) (by simp only [ByteArray.size_append,Z,ag];omega)
     have a6:=AX (a:=⟨#[108,101,116,32]⟩ ++nm ++⟨#[32,61,32]⟩) (b:=t) (by simp only [ByteArray.size_append,Z,ag];omega)
     have a7:=AX (a:=v) (b:=⟨#[108,101,116,32]⟩ ++nm ++⟨#[32,61,32]⟩ ++t) (by simp only [ByteArray.size_append,Z,ag];omega)
     clear ax
     go_region_held3 (fun w'=>w'.cell? ⟨wr.heap.size,1,none⟩=some (.string nm)∧w'.cell? ⟨wr.heap.size,2,none⟩=some (.int .i64 i)∧w'.cell? ⟨w.heap.size,0,none⟩=some (.slice a n c)) (first | assumption | go_keep)
      (first | (go_at_call 35;refine (Aa y _ (Aa a3)).mono ?_;rintro r aT ⟨rfl,E⟩;have az:=ah.trans (E.mono ah.size);have q2:=Aa aS _ az))
     have M:=g.trans (az.mono g.size)
     have ab:=o.after az (Nat.le_refl _)
     obtain ⟨bw,d1,d2,d3⟩:=Fe ab
     clear a4 a5 a6 a7 ar q2 aS
     have aU:(v ++(⟨#[108,101,116,32]⟩ ++nm ++⟨#[32,61,32]⟩ ++t)).size≤40000000000:=by simp only [ByteArray.size_append,Z,ag];omega
     go_wp2_with fail
     go_roundw
     case rel=>exact ⟨k+1,Aa B,by rw [Aa h],by go_num,M⟩
     case measure=>have:=Aa B;simp [intOf];omega
    ·rcases aw with k5 | k5
     ·have h:=Ab (show EQ Es (L.take (k+1))=v ++(⟨#[119,104,101,110,32]⟩ ++e.pr ++⟨#[32,61,62,32]⟩) ++⟨#[100,101,110,121]⟩ ++⟨#[59,10]⟩ by rw [Aa p,IS,if_neg (by omega),if_pos j,hm,Dm D,Lp,if_pos k5];simp only [ByteArray.append_assoc])
      rw [j] at T
      rw [hm] at c2
      rw [k5] at c3
      have y:=Ab (Aa A i e D J 0)
      simp only [Bz] at y
      have aa:e.pr.size≤16000000:=by have:=e.pr_size I;omega
      generalize s.name=nm at c1
      generalize e.pr=t at y aa h
      have g:=l.alloc l.size (.cells #[.int .i64 2,.string nm,.int .i64 i,.int .i64 (-1)] 71)
      have o:=Ao.new wr #[.int .i64 2,.string nm,.int .i64 i,.int .i64 (-1)] 71
      have q:=C.alloc (.cells #[.int .i64 2,.string nm,.int .i64 i,.int .i64 (-1)] 71)
      clear C
      obtain ⟨aA,aB,aC,aD⟩:=Fe o
      obtain ⟨aE,aF⟩:=IW q
      clear G p j H A F S hm D I J k5
      go_wp2_with fail
      refine (Aa y _ g).mono ?_
      rintro r aT ⟨rfl,E⟩
      have M:=g.trans (E.mono g.size)
      have ab:=o.after E (Nat.le_refl _)
      have aG:=q.after E (Nat.le_refl _)
      obtain ⟨a8,a9,ba,bb⟩:=Fe ab
      obtain ⟨bc,bd⟩:=IW aG
      dsimp only
      have aU:(v ++(⟨#[119,104,101,110,32]⟩ ++t ++⟨#[32,61,62,32]⟩)).size≤40000000000:=by simp only [ByteArray.size_append,aO,aP];omega
      go_wp2_with fail
      go_roundw
      case rel=>exact ⟨k+1,Aa B,by rw [Aa h],by go_num,M⟩
      case measure=>have:=Aa B;simp [intOf];omega
     ·obtain ⟨z,f,O,P,ac,ad⟩:=k5
      have h:=Ab (show EQ Es (L.take (k+1))=v ++(⟨#[119,104,101,110,32]⟩ ++e.pr ++⟨#[32,61,62,32]⟩) ++(⟨#[103,114,97,110,116,32]⟩ ++f.pr) ++⟨#[59,10]⟩ by rw [Aa p,IS,if_neg (by omega),if_pos j,hm,Dm D,Lp,if_neg (by omega),O,Dm P];simp only [ByteArray.append_assoc])
      rw [j] at T
      rw [hm] at c2
      rw [O] at c3
      have y:=Ab (Aa A i e D J 0)
      simp only [Bz] at y
      have aa:e.pr.size≤16000000:=by have:=e.pr_size I;omega
      have Q:=Ab (Aa A z f P ad 0)
      simp only [Bz] at Q
      have aH:f.pr.size≤16000000:=by have:=f.pr_size ac;omega
      generalize s.name=nm at c1
      generalize e.pr=t at y aa h
      generalize f.pr=u at Q aH h
      have g:=l.alloc l.size (.cells #[.int .i64 2,.string nm,.int .i64 i,.int .i64 z] 71)
      have o:=Ao.new wr #[.int .i64 2,.string nm,.int .i64 i,.int .i64 z] 71
      have q:=C.alloc (.cells #[.int .i64 2,.string nm,.int .i64 i,.int .i64 z] 71)
      clear C
      obtain ⟨aA,aB,aC,aD⟩:=Fe o
      obtain ⟨aE,aF⟩:=IW q
      clear G p j H A F S hm D I J O P ac ad
      have bf: ¬ ((z:Int) < 0):=by omega
      go_wp2_with fail
      refine (Aa y _ g).mono ?_
      rintro r aT ⟨rfl,E⟩
      have M:=g.trans (E.mono g.size)
      have ab:=o.after E (Nat.le_refl _)
      have aG:=q.after E (Nat.le_refl _)
      obtain ⟨a8,a9,ba,bb⟩:=Fe ab
      obtain ⟨bc,bd⟩:=IW aG
      dsimp only
      have aU:(v ++(⟨#[119,104,101,110,32]⟩ ++t ++⟨#[32,61,62,32]⟩)).size≤40000000000:=by simp only [ByteArray.size_append,aO,aP];omega
      go_wp2_with fail
      refine (Aa Q _ M).mono ?_
      rintro r bg ⟨rfl,aI⟩
      have aJ:=M.trans (aI.mono M.size)
      dsimp only
      have bh:(v ++(⟨#[119,104,101,110,32]⟩ ++t ++⟨#[32,61,62,32]⟩) ++(⟨#[103,114,97,110,116,32]⟩ ++u)).size≤40000000000:=by simp only [ByteArray.size_append];omega
      go_wp2_with fail
      go_roundw
      case rel=>exact ⟨k+1,Aa B,by rw [Aa h],by go_num,aJ⟩
      case measure=>have:=Aa B;simp [intOf];omega
    ·rcases aw with k5 | k5
     ·have h:=Ab (show EQ Es (L.take (k+1))=v ++⟨#[101,108,115,101,32]⟩ ++⟨#[100,101,110,121]⟩ ++⟨#[59,10]⟩ by rw [Aa p,IS,if_neg (by omega),if_neg (by omega),Lp,if_pos k5];simp only [ByteArray.append_assoc])
      rw [j] at T
      rw [U] at c2
      rw [k5] at c3
      generalize s.name=nm at c1
      have g:=l.alloc l.size (.cells #[.int .i64 3,.string nm,.int .i64 (-1),.int .i64 (-1)] 71)
      have o:=Ao.new wr #[.int .i64 3,.string nm,.int .i64 (-1),.int .i64 (-1)] 71
      have q:=C.alloc (.cells #[.int .i64 3,.string nm,.int .i64 (-1),.int .i64 (-1)] 71)
      clear C
      obtain ⟨aA,aB,aC,aD⟩:=Fe o
      obtain ⟨aE,aF⟩:=IW q
      clear G p j H A F S U k5
      go_wp2_with fail
      go_roundw
      case rel=>exact ⟨k+1,Aa B,by rw [Aa h],by go_num,g⟩
      case measure=>have:=Aa B;simp [intOf];omega
     ·obtain ⟨z,f,O,P,ac,ad⟩:=k5
      have h:=Ab (show EQ Es (L.take (k+1))=v ++⟨#[101,108,115,101,32]⟩ ++(⟨#[103,114,97,110,116,32]⟩ ++f.pr) ++⟨#[59,10]⟩ by rw [Aa p,IS,if_neg (by omega),if_neg (by omega),Lp,if_neg (by omega),O,Dm P];simp only [ByteArray.append_assoc])
      rw [j] at T
      rw [U] at c2
      rw [O] at c3
      have Q:=Ab (Aa A z f P ad 0)
      simp only [Bz] at Q
      have aH:f.pr.size≤16000000:=by have:=f.pr_size ac;omega
      generalize s.name=nm at c1
      generalize f.pr=u at Q aH h
      have g:=l.alloc l.size (.cells #[.int .i64 3,.string nm,.int .i64 (-1),.int .i64 z] 71)
      have o:=Ao.new wr #[.int .i64 3,.string nm,.int .i64 (-1),.int .i64 z] 71
      have q:=C.alloc (.cells #[.int .i64 3,.string nm,.int .i64 (-1),.int .i64 z] 71)
      clear C
      obtain ⟨aA,aB,aC,aD⟩:=Fe o
      obtain ⟨aE,aF⟩:=IW q
      clear G p j H A F S U O P ac ad
      have bf: ¬ ((z:Int) < 0):=by omega
      go_wp2_with fail
      refine (Aa Q _ g).mono ?_
      rintro r bg ⟨rfl,aI⟩
      have aJ:=g.trans (aI.mono g.size)
      dsimp only
      have bh:(v ++⟨#[101,108,115,101,32]⟩ ++(⟨#[103,114,97,110,116,32]⟩ ++u)).size≤40000000000:=by simp only [ByteArray.size_append];omega
      go_wp2_with fail
      go_roundw
      case rel=>exact ⟨k+1,Aa B,by rw [Aa h],by go_num,aJ⟩
      case measure=>have:=Aa B;simp [intOf];omega
   ·have e:k=m:=by omega
    subst e
    have h:=Ab (show EQ Es (L.take k)=EQ Es L by rw [← Aa ai,List.take_length])
    rw [Aa h]
    go_wp2_with fail
    go_ret
    exact ⟨⟨_,rfl,.inr ⟨Aa ap,Es,Aa a0,Aa S,rfl⟩⟩,al.trans (l.mono aX)⟩
end Go.Proofs.YtcpdodmoheebaaaGreatDoor
