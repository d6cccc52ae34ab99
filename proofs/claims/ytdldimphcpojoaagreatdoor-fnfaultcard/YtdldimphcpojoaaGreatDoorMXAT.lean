/-
  HS, FFC, VPY0, HT, HU0, GV, GW. Own work.
-/
import Derived.Test.YtdldimphcpojoaaGreatDoorMXAS
import Derived.Test.YtdldimphcpojoaaGreatDoorMXAR
import Derived.Test.YtdldimphcpojoaaGreatDoorMXAQ
import Derived.Test.YtdldimphcpojoaaGreatDoorMXAW
import Derived.Test.YtdldimphcpojoaaGreatDoorVPS
import Derived.Test.YtdldimphcpojoaaGreatDoorMXBC
import Derived.Test.YtdldimphcpojoaaGreatDoorGU
namespace Go.Proofs.YtdldimphcpojoaaGreatDoor
open Go.RowKit
set_option linter.unusedVariables false
theorem TC (l:List UInt8){k m:Int}{s:List UInt8}{b a:Nat}(h:Cc l= .tok k m s b):BL ⟨k,m,Ax s,a⟩∧s.length≤l.length:=by
 have d:∀ r,Bn r= .tok k m s b→BL ⟨k,m,Ax s,a⟩∧s.length≤r.length:=by
  intro r h;rw[Bn] at h;split at h
  ·cases h
  ·simp only[L3.tok.injEq] at h;obtain ⟨h1,_,h3,_⟩:=h;refine ⟨?_,by rw[← h3,List.length_take];omega⟩;split at h1
   ·rename_i hi;refine .inr (.inr (.inr ⟨.inl h1.symm, ?_⟩));rw[Do,← h3];refine List.mem_append_left _ (List.mem_append_left _ ?_);simpa[Gb] using hi
   ·exact .inr (.inr (.inl h1.symm))
 have f:∀ r,Bm r= .tok k m s b→BL ⟨k,m,Ax s,a⟩∧s.length≤r.length:=by
  intro r h;rw[Bm] at h;split at h
  ·cases h
  ·simp only[L3.tok.injEq] at h;exact ⟨.inl h.1.symm,by rw[← h.2.2.1];simp⟩
 have ht:∀ r,BH r= .tok k m s b→BL ⟨k,m,Ax s,a⟩∧s.length≤r.length:=by
  intro r h;rw[BH] at h;split at h
  ·cases h
  ·simp only[L3.tok.injEq] at h;exact ⟨.inr (.inl h.1.symm),by rw[← h.2.2.1,List.length_take];omega⟩
 have hs:∀ c r,A8 c (c ::r)= .tok k m s b→BL ⟨k,m,Ax s,a⟩∧s.length≤(c ::r).length:=by
  intro c r h;rw[A8] at h;split at h
  ·rename_i h2;simp only[L3.tok.injEq] at h;refine ⟨.inr (.inr (.inr ⟨.inr h.1.symm, ?_⟩)),by rw[← h.2.2.1,List.length_take];omega⟩;rw[Do,← h.2.2.1];refine List.mem_append_left _ (List.mem_append_right _ ?_);simpa using h2
  ·split at h
   ·rename_i h2;simp only[L3.tok.injEq] at h;refine ⟨.inr (.inr (.inr ⟨.inr h.1.symm, ?_⟩)),by rw[← h.2.2.1];simp⟩;rw[Do,← h.2.2.1];refine List.mem_append_right _ (List.mem_map.2 ⟨c, ?_,rfl⟩);simpa using h2
   ·cases h
 match l,h with
 | [],h=>cases h
 | c ::r,h=>
  rw[Cc] at h;split at h
  ·exact d _ h
  ·split at h
   ·exact f _ h
   ·split at h
    ·obtain ⟨h1,h2⟩:=ht _ h;exact ⟨h1,by simp;omega⟩
    ·exact hs _ _ h
theorem KV (n:Nat):∀ (f:Nat) (l:List UInt8) (out:List Af),l.length≤4000→(∀ t∈out,BL t∧t.text.size≤4000)→∀ t∈(AH n f l out).toks,BL t∧t.text.size≤4000
 | 0,l,out,_,h=>h
 | f+1,l,out,hl,h=>by
  rw[AH];have b:=FA false l;split
  ·exact h
  ·rename_i c r d;rw[d] at b;split
   ·intro t ht;cases ht
   ·rename_i k m s i g;refine KV n f _ _ (by rw[List.length_drop];omega) ?_;intro t ht;rcases List.mem_append.1 ht with ht | ht
    ·exact h t ht
    ·rw[List.mem_singleton.1 ht];obtain ⟨h1,h2⟩:=TC (c ::r) (a:=n - (r.length+1)) g;refine ⟨h1, ?_⟩;show (Ax s).size≤4000;have e:(Ax s).size=s.length:=by simp[Ax,ByteArray.size]
     rw[e];omega
theorem Ml (t:ByteArray):∀ u∈(Ar t).toks,BL u∧u.text.size≤4000:=by
 unfold Ar;split
 ·intro u hu;cases hu
 ·exact KV t.size (t.size+1) (Ak t) [] (by rw[As];omega) (fun u hu=>by cases hu)
theorem Fi (t:ByteArray):∀ u∈(Ar t).toks,BL u∧u.text.size≤maxLen:=fun u hu=>⟨(Ml t u hu).1,by have:=(Ml t u hu).2;unfold maxLen;omega⟩
theorem Qc (t:ByteArray):(Ar t).code=0∨(Ar t).code=1∨(Ar t).code=2∨(Ar t).code=3:=by
 rw[Ar];split
 ·exact .inr (.inl rfl)
 ·generalize t.size+1=f;generalize ([]:List Af)=out;generalize Ak t=l
  induction f generalizing l out with
  | zero=>exact .inl rfl
  | succ f b=>
   rw[AH];split
   ·exact .inl rfl
   ·split
    ·rename_i code a;show code=0∨code=1∨code=2∨code=3;rw[Cc] at a;split at a
     ·rw[Bn] at a;(split at a <;> cases a) <;> decide
     ·split at a
      ·rw[Bm] at a;(split at a <;> cases a) <;> decide
      ·split at a
       ·rw[BH] at a;(split at a <;> cases a) <;> decide
       ·rw[A8] at a;split at a
        ·cases a
        ·(split at a <;> cases a) <;> decide
    ·exact b _ _
theorem ET {t:ByteArray}{S:List Ps}(h:(Ar t).code=0):(FP t (.ok S)).2.2.2.1=0∨(FP t (.ok S)).2.2.2.1=5∨(FP t (.ok S)).2.2.2.1=6:=by
 cases a:(LE (S.flatMap Ps.sets)).head? with
 | some i=>rw[Kl h a];exact .inr (.inl rfl)
 | none=>
  cases b:IX (S.map Ps.sx) with
  | some i=>rw[Km h a b];exact .inr (.inr rfl)
  | none=>rw[Qd h a b];exact .inl rfl
theorem MI {t:ByteArray}{x:QR}(d:DP (Ar t).toks x)(hc:(FP t x).2.2.2.1=4):
  ∃ k:Nat,(FP t x).2.2.2.2=(k:Int)∧k≤t.size∧∀ b,DP (Ar (t.extract 0 k)).toks b→(FP (t.extract 0 k) b).2.2.2.1=0∨(FP (t.extract 0 k) b).2.2.2.1=5∨(FP (t.extract 0 k) b).2.2.2.1=6∨((FP (t.extract 0 k) b).2.2.2.1=4∧(FP (t.extract 0 k) b).2.2.2.2=(k:Int)):=by
 have f:=fun u hu=>(Fi t u hu).1;have h0:(Ar t).code=0:=by
  by_cases h:(Ar t).code=0
  ·exact h
  ·rw[H9 h] at hc;rcases Qc t with e | e | e | e <;> simp[e] at hc
 cases x with
 | ok S=>rcases ET (S:=S) h0 with e | e | e <;> rw[e] at hc <;> cases hc
 | bad q=>
  rw[Gi h0];obtain ⟨a,g⟩:=d.tail f;cases q with
  | nil=>
   refine ⟨t.size,rfl,NLN,fun b c=>?_⟩;have e:t.extract 0 t.size=t:=by simp
   rw[e] at c ⊢;rw[List.append_nil] at g;rcases d.ahead f (by rw[List.append_nil]) c with ⟨S,rfl⟩ | rfl
   ·rcases ET (S:=S) h0 with e | e | e
    ·exact .inl e
    ·exact .inr (.inl e)
    ·exact .inr (.inr (.inl e))
   ·exact .inr (.inr (.inr (by rw[Gi h0];exact ⟨rfl,rfl⟩)))
  | cons u q=>
   obtain ⟨h1,h2⟩:=UA h0 g;refine ⟨u.at_,rfl,h1,fun b c=>?_⟩;have h3:(Ar (t.extract 0 u.at_)).code=0:=by rw[h2]
   have i:(t.extract 0 u.at_).size=u.at_:=by rw[ByteArray.size_extract];omega
   have d2:=c;rw[h2] at d2;rcases d.ahead f g d2 with ⟨S,rfl⟩ | rfl
   ·rcases ET (S:=S) h3 with e | e | e
    ·exact .inl e
    ·exact .inr (.inl e)
    ·exact .inr (.inr (.inl e))
   ·exact .inr (.inr (.inr (by rw[Gi h3];exact ⟨rfl,by rw[i];rfl⟩)))
theorem Qe {t:ByteArray}{x:QR}(hc:(FP t x).2.2.2.1=2∨(FP t x).2.2.2.1=3):
  ∃ k:Nat,(FP t x).2.2.2.2=(k:Int)∧k≤t.size∧(Ar (t.extract 0 k)).code=0:=by
 have h0:(Ar t).code≠0:=by
  intro h;cases x with
  | ok S=>rcases ET (S:=S) h with e | e | e <;> rw[e] at hc <;> simp at hc
  | bad q=>rw[Gi h] at hc;simp at hc
 rw[H9 h0] at hc ⊢;dsimp only at hc;obtain ⟨h1,h2⟩:=NL h0 (by rcases hc with e | e <;> rw[e] <;> decide);exact ⟨_,rfl,h1,h2⟩
set_option maxHeartbeats 800000
theorem RM (N:List Nd)(L:List St):Ns N L=true↔∃ S,Fd (N.map Nd.kids) N.length [] 0=some S∧Bw S=L.flatMap Bo:=by
 rw[Ns];cases h:Fd (N.map Nd.kids) N.length [] 0 with
 | none=>simp
 | some S=>simp
theorem Ut (N:List Nd)(L:List St):GI N L=true↔(N.length≤4000∧1≤L.length∧L.length≤600)∧N.all By=true∧GZ N L:=by
 rw[← RC,V7,← RM,GI];simp only[Bool.and_eq_true,decide_eq_true_eq];constructor
 ·rintro ⟨⟨⟨h1,h2,h3⟩,h4⟩,h5⟩;exact ⟨⟨h1,h2⟩,h4,h3,h5⟩
 ·rintro ⟨⟨h1,h2⟩,h4,h3,h5⟩;exact ⟨⟨⟨h1,h2,h3⟩,h4⟩,h5⟩
theorem RR {n m:Nat}{N:List Nd}{L:List St}{e:Ending}(h:Eb n m N L e)(a:N.length=n)(hm:L.length=m):e= .returned (.bool (GI N L)):=by
 obtain ⟨b,rfl,c⟩:=h;have:b=GI N L:=by
  rw[Bool.eq_iff_iff,c,Ut,a,hm]
 rw[this]
theorem Jm (a b:Option Addr)(n c m d:Nat)(N:List Nd)(L:List St)(w:World)(h1:Hj w a n c N)(h2:VE w b m d L):
  Calls Tryz.prog 44 #[.agg #[.slice a n c,.slice b m d]] w fun e w'=>e= .returned (.bool (GI N L))∧Below w.heap.size w w':=by
 have f:=(Below.refl w.heap.size w).alloc NLN (.cells #[.slice a n c,.slice b m d] 27);have g:=Ab h1.len;have h:=Ab h2.len;go_enter Tryz.func44,Tryz.ntmps44
 go_wp2_with (go_at_call 79;refine (PU _ _ _ _ _ _ N L _ (h1.below f NLN) (h2.below f NLN)).mono ?_;rintro e k ⟨he,i⟩;have j:=RR he (Aa g) (Aa h);subst j;clear he)
 go_ret
 exact ⟨rfl,f.trans (i.mono f.size)⟩
set_option maxRecDepth 100000
set_option maxHeartbeats 6400000
theorem BY.kid {w:World}{lo g c:Nat}{N:List Nd}{a d:List Value}(h:BY w lo (.slice (some ⟨g,0,none⟩) N.length c) N a d)(t:Nat)(ht:t < N.length):
  ∃ x m,w.cell? ⟨g,t * 5+4,none⟩=some (.slice x N[t].kids.length m)∧(∀ j,(f:j < N[t].kids.length)→∃ b,x=some ⟨b,0,none⟩∧b < w.heap.size∧w.cell? ⟨b,j,none⟩=some (.int .i64 (N[t].kids[j])))∧g < w.heap.size:=by
 have h1:t < a.length:=by rw[h.len];exact ht
 have h2:t < d.length:=by rw[h.lenk];exact ht
 have hc:=MZ N a d t ht h1 h2 4 (by omega);have i:=h.kids t ht h2;have k:=h.own;obtain ⟨x,m,l,hx⟩:=Ah i;obtain ⟨r,s,n,o⟩:=Ah k;obtain ⟨u,e',_,p⟩:=o (by omega);simp only[Value.slice.injEq] at n;obtain ⟨rfl,_,_⟩:=n;simp only[Option.some.injEq,Addr.mk.injEq,and_true] at e';subst e';refine ⟨x,m, ?_,fun j f=>?_,(k.lt g rfl).2⟩
 ·rw[← l];exact p _ _ (hc.trans rfl)
 ·obtain ⟨b,e,_,q⟩:=hx (by omega);refine ⟨b,e,(i.lt b (by rw[l,e];rfl)).2,q j _ ?_⟩;simp[AN,f]
def YT (ds:List Int) (w:World) (vd vi:Value) (wr:World):Prop:=
 ∃ j:Nat,j≤ds.length∧vi= .int .i64 (j:Int)∧vd= .int .i64 ((ds.take j).foldl mx 0)∧Below w.heap.size w wr
theorem Sn:∀ (a:List Int) (d:Int),0≤d∧d≤65535→(∀ x∈a,0≤x∧x≤65535)→0≤a.foldl mx d∧a.foldl mx d≤65535
 | [],d,h,_=>h
 | x ::a,d,h,hd=>by
  rw[List.foldl_cons];refine Sn a _ ?_ (fun y hy=>hd y (List.mem_cons_of_mem _ hy));have:=hd x (List.mem_cons_self ..);unfold mx;split <;> omega
theorem Is {w:World}{B g c:Nat}{N:List Nd}{L M:List Value}(z:BY w B (.slice (some ⟨g,0,none⟩) N.length c) N L M)(hs:N.length≤65535)(t:Nat)(ht:t < N.length)(d a:List Int)(hk:N[t].kids=d)(o:a.length=d.length)(h3:d.length≤3)(i:∀ x∈a,0≤x∧x≤65535)
  (A:∀ j (h:j < d.length) (aa:j < a.length) (w':World),Below w.heap.size w w'→Calls Tryz.prog 31 #[.slice (some ⟨g,0,none⟩) N.length c,.int .i64 d[j]] w' fun r O=>r= .returned (.int .i64 a[j])∧Below w'.heap.size w' O):
  Calls Tryz.prog 31 #[.slice (some ⟨g,0,none⟩) N.length c,.int .i64 (t:Int)] w fun r w'=>r= .returned (.int .i64 (a.foldl mx 0+1))∧Below w.heap.size w w':=by
 obtain ⟨x,m,c4,C,ab⟩:=z.kid t ht;subst hk;generalize N[t].kids=d at *;have ac:(t:Int) < (N.length:Int):=by omega
 have P:=Ab A;have Q:=Ab (And.intro o i);have R:=Ab C;have E:=Ab (show YT a w (.int .i64 0) (.int .i64 0) w from ⟨0,by omega,rfl,rfl,BRN⟩);clear A C i o z;go_enter Tryz.func31,Tryz.ntmps31
 go_wp2_with fail
 go_loopw [5,15] (fun S s wr=>YT a w S s wr) (fun _ s _=>a.length - (intOf s).toNat)
 case atStart=>exact Aa E
 case round=>
  clear E;obtain ⟨j,ad,rfl,rfl,f⟩:=hrel;obtain ⟨o,i⟩:=Aa Q;have u:=Sn (a.take j) 0 (by omega) (fun y hy=>i y (List.mem_of_mem_take hy));by_cases l:j < a.length
  ·have T:(j:Int) < (d.length:Int):=by omega
   have F:=Ab (CQ a.length j l);have q:=Ab (Aa P j (by omega) l);obtain ⟨b,rfl,H,I⟩:=Aa R j (by omega);have U:=(f.cell (p:=⟨b,j,none⟩) H).trans I;clear I;have V:=i _ (List.getElem_mem l);have n:=Ab (fun (w':World) (W:Below w.heap.size w w')=>show YT a w (.int .i64 (mx ((a.take j).foldl mx 0) a[j])) (.int .i64 ((j:Int)+1)) w' from ⟨j+1,by omega,by rw[Int.natCast_add];rfl,by rw[List.take_succ_eq_append_getElem l,List.foldl_append];rfl,W⟩);generalize (a.take j).foldl mx 0=D at u n;generalize a[j]=y at V n q;generalize d[j]=k at U q;clear o i l H;by_cases J:D < y
   ·rw[show mx D y=y from if_pos J] at n;go_wp2_with fail
    refine (Aa q _ f).mono ?_;rintro r X ⟨rfl,v⟩;dsimp only;go_wp2_with fail
    exact ⟨Aa n _ (f.trans (v.mono f.size)),Aa F⟩
   ·rw[show mx D y=D from if_neg J] at n;go_wp2_with fail
    refine (Aa q _ f).mono ?_;rintro r X ⟨rfl,v⟩;dsimp only;go_wp2_with fail
    exact ⟨Aa n _ (f.trans (v.mono f.size)),Aa F⟩
  ·have T: ¬ ((j:Int) < (d.length:Int)):=by omega
   have Y:=Ab (show a.take j=a from List.take_of_length_le (by omega));rw[Aa Y] at u ⊢;clear o i l;generalize K:a.foldl mx 0=D at u ⊢;have Z:=Ab K;clear K;go_wp2_with fail
   go_ret
   exact ⟨by rw[Aa Z];rfl,f⟩
theorem QO (a L C:List Nd)(x:Nd)(h:a.length+L.length < (a ++(L ++ [x] ++C)).length):(a ++(L ++ [x] ++C))[a.length+L.length]=x:=by
 simp
theorem WN {B g c:Nat}{N:List Nd}{F H:List Value}(hs:N.length≤65535):∀ (e:Ex) (b:Nat) (d C:List Nd),N=d ++(BI e b ++C)→d.length=b→∀ (w:World),BY w B (.slice (some ⟨g,0,none⟩) N.length c) N F H→
  Calls Tryz.prog 31 #[.slice (some ⟨g,0,none⟩) N.length c,.int .i64 ((b+e.cnt - 1 :Nat):Int)] w fun r w'=>r= .returned (.int .i64 (DF e))∧Below w.heap.size w w':=by
 have z:∀ {w w':World},BY w B (.slice (some ⟨g,0,none⟩) N.length c) N F H→Below w.heap.size w w'→BY w' B (.slice (some ⟨g,0,none⟩) N.length c) N F H:=fun h q=>h.blocks (fun k _ hk=>q.block k hk);have v:∀ (e:Ex) (b:Nat) (d C:List Nd),(So e).kids= []→N=d ++([So e] ++C)→d.length=b→∀ (w:World),BY w B (.slice (some ⟨g,0,none⟩) N.length c) N F H→
   Calls Tryz.prog 31 #[.slice (some ⟨g,0,none⟩) N.length c,.int .i64 ((b+1 - 1 :Nat):Int)] w fun r w'=>r= .returned (.int .i64 1)∧Below w.heap.size w w':=by
  intro e b d C hk I o w f;have hl:b < N.length:=by rw[I];simp;omega
  exact Is f hs b hl [] [] (by
   have:N[b]=So e:=by
    subst o;simp only[I];simp
   rw[this,hk]) rfl (by simp) (fun x hx=>by cases hx) (fun j h=>absurd h (by simp))
 intro e
 induction e with
 | int i n=>intro b d C h o w f;exact v (.int i n) b d C rfl h o w f
 | text i s=>intro b d C h o w f;exact v (.text i s) b d C rfl h o w f
 | bool i x=>intro b d C h o w f;exact v (.bool i x) b d C rfl h o w f
 | set i a n m K=>intro b d C h o w f;exact v (.set i a n m K) b d C rfl h o w f
 | name i s=>intro b d C h o w f;exact v (.name i s) b d C rfl h o w f
 | attr i n=>intro b d C h o w f;exact v (.attr i n) b d C rfl h o w f
 | lett i n=>intro b d C h o w f;exact v (.lett i n) b d C rfl h o w f
 | un i op k L=>
  intro b d C h o w f;rw[BI] at h;have A:=congrArg List.length h;simp only[List.length_append,Am,List.length_singleton] at A;have e1:b+(Ex.un i op k).cnt - 1=d.length+(BI k b).length:=by rw[Am,Ex.cnt];omega
  have hl:d.length+(BI k b).length < N.length:=by rw[Am];omega
  have d1:=Bf k;obtain ⟨p,u⟩:∃ p:Nd,p=⟨op,0,⟨#[]⟩, [], [((b+k.cnt - 1 :Nat):Int)]⟩:=⟨_,rfl⟩
  rw[← u] at h;rw[e1];refine (Is f hs _ hl [((b+k.cnt - 1 :Nat):Int)] [DF k] (by simp only[h];rw[QO,u]) rfl (by simp) (fun x hx=>by rw[List.mem_singleton.1 hx];omega) ?_);intro j E J w' q
  match j,E with
  | 0,_=>exact L b d ([p] ++C) (by rw[h];simp only[List.append_assoc]) o w' (z f q)
 | bin i op l r M O=>
  intro b d C h o w f;rw[BI] at h;have A:=congrArg List.length h;simp only[List.length_append,Am,List.length_singleton] at A;have e1:b+(Ex.bin i op l r).cnt - 1=d.length+(BI l b ++BI r (b+l.cnt)).length:=by rw[List.length_append,Am,Am,Ex.cnt];omega
  have hl:d.length+(BI l b ++BI r (b+l.cnt)).length < N.length:=by rw[List.length_append,Am,Am];omega
  have d1:=Bf l;have d2:=Bf r;obtain ⟨p,u⟩:∃ p:Nd,p=⟨op,0,⟨#[]⟩, [], [((b+l.cnt - 1 :Nat):Int),((b+l.cnt+r.cnt - 1 :Nat):Int)]⟩:=⟨_,rfl⟩
  rw[← u] at h;rw[e1];refine (Is f hs _ hl [((b+l.cnt - 1 :Nat):Int),((b+l.cnt+r.cnt - 1 :Nat):Int)] [DF l,DF r] (by simp only[h];rw[QO,u]) rfl (by simp) (fun x hx=>by simp only[List.mem_cons,List.mem_nil_iff,or_false] at hx;rcases hx with rfl | rfl <;> omega) ?_);intro j E J w' q
  match j,E with
  | 0,_=>exact M b d (BI r (b+l.cnt) ++([p] ++C)) (by rw[h];simp only[List.append_assoc]) o w' (z f q)
  | 1,_=>exact O (b+l.cnt) (d ++BI l b) ([p] ++C) (by rw[h];simp only[List.append_assoc]) (by rw[List.length_append,Am,o]) w' (z f q)
 | ite i x y t P Q R=>
  intro b d C h o w f;rw[BI] at h;have A:=congrArg List.length h;simp only[List.length_append,Am,List.length_singleton] at A;have e1:b+(Ex.ite i x y t).cnt - 1=d.length+(BI x b ++BI y (b+x.cnt) ++BI t (b+x.cnt+y.cnt)).length:=by rw[List.length_append,List.length_append,Am,Am,Am,Ex.cnt];omega
  have hl:d.length+(BI x b ++BI y (b+x.cnt) ++BI t (b+x.cnt+y.cnt)).length < N.length:=by rw[List.length_append,List.length_append,Am,Am,Am];omega
  have d1:=Bf x;have d2:=Bf y;have d3:=Bf t;obtain ⟨p,u⟩:∃ p:Nd,p=⟨27,0,⟨#[]⟩, [], [((b+x.cnt - 1 :Nat):Int),((b+x.cnt+y.cnt - 1 :Nat):Int),((b+x.cnt+y.cnt+t.cnt - 1 :Nat):Int)]⟩:=⟨_,rfl⟩
  rw[← u] at h;rw[e1];refine (Is f hs _ hl [((b+x.cnt - 1 :Nat):Int),((b+x.cnt+y.cnt - 1 :Nat):Int),((b+x.cnt+y.cnt+t.cnt - 1 :Nat):Int)] [DF x,DF y,DF t] (by simp only[h];rw[QO,u]) rfl (by simp) (fun x hx=>by simp only[List.mem_cons,List.mem_nil_iff,or_false] at hx;rcases hx with rfl | rfl | rfl <;> omega) ?_);intro j E J w' q
  match j,E with
  | 0,_=>exact P b d (BI y (b+x.cnt) ++(BI t (b+x.cnt+y.cnt) ++([p] ++C))) (by rw[h];simp only[List.append_assoc]) o w' (z f q)
  | 1,_=>exact Q (b+x.cnt) (d ++BI x b) (BI t (b+x.cnt+y.cnt) ++([p] ++C)) (by rw[h];simp only[List.append_assoc]) (by rw[List.length_append,Am,o]) w' (z f q)
  | 2,_=>exact R (b+x.cnt+y.cnt) (d ++BI x b ++BI y (b+x.cnt)) ([p] ++C) (by rw[h];simp only[List.append_assoc]) (by rw[List.length_append,List.length_append,Am,Am,o]) w' (z f q)
theorem It {w:World}{B:Nat}{nd:Value}{a b:List Value}(e:Ex)(N:List Nd)(h:BY w B nd (N ++BI e N.length) a b)(hs:N.length+e.cnt≤65535):
  Calls Tryz.prog 31 #[nd,.int .i64 ((N.length+e.cnt - 1 :Nat):Int)] w fun r w'=>r= .returned (.int .i64 (DF e))∧Below w.heap.size w w':=by
 obtain ⟨x,c,d,hx⟩:=Ah h.own;have i:=Bf e;have hl:(N ++BI e N.length).length=N.length+e.cnt:=by rw[List.length_append,Am]
 obtain ⟨g,f,_,_⟩:=hx (by omega);subst f;subst d;exact WN (by omega) e N.length N [] (by simp) rfl w h
theorem DJ {w w':World}{a f c:Nat}{T:List Af}(g:Ja w a f c T)(j:Below w.heap.size w w')(i:Nat)(d:Int)(k:d=(i:Int))(hi:i < T.length)(s:List UInt8)(b:Bool)(h:see s T[i]=b):
  Calls Tryz.prog 11 #[.pointer (some ⟨a,0,none⟩),.int .i64 d,.string (Ax s)] w' fun r l=>r= .returned (.bool b)∧Below w'.heap.size w' l:=by
 subst k;exact Bj g j i hi s b h
theorem Nk.rowL {B b:Nat}{f nd c i j:Value}{w w':World}{N:List Nd}{P:List Int}{k l:List Value}(h:Nk B b nd c w i j w')(C:EZ w B b f N P nd c k l){g:Nat}{cs:Array Value}{t:TypeId}(R:An w g cs t)(h1:t≠44)(h2:t≠114)(h3:t≠3):An w' g cs t:=
 ⟨(h.block g R.lt (fun e=>by
  have d:=R.out;have a:=C.row.out;rw[e] at d;rw[d] at a;injection a with a;injection a with _ a;exact h1 a) (Ad R C.nodes.own h2) (Ad R C.places h3)).trans R.out⟩
theorem EZ.others {w w':World}{B c:Nat}{i:Value}{N:List Nd}{P:List Int}{nd g:Value}{d f:List Value}(h:EZ w B c i N P nd g d f)(X:Nat→Prop)(b:∀ q,X q→q≠c∧nd.ownBlock≠some q∧g.ownBlock≠some q∧(∀ j,(a:j < d.length)→d[j].ownBlock≠some q)∧∀ j,(a:j < f.length)→f[j].ownBlock≠some q)(hk:∀ q,q < w.heap.size→¬ X q→w'.heap[q]? =w.heap[q]?):EZ w' B c i N P nd g d f:=
 ⟨⟨(hk c h.row.lt (fun e=>(b _ e).1 rfl)).trans h.row.out⟩,
   h.nodes.upto (fun q hq=>hk q (h.nodes.lts.1 q hq).2 (fun e=>(b q e).2.1 hq)) (fun j a q hq=>hk q (h.nodes.lts.2.1 j a q hq).2 (fun e=>(b q e).2.2.2.1 j a hq)) (fun j a q hq=>hk q (h.nodes.lts.2.2 j a q hq).2 (fun e=>(b q e).2.2.2.2 j a hq)),
   Ac h.places (fun q hq=>hk q (h.places.lt q hq).2 (fun e=>(b q e).2.2.1 hq)),h.apart,h.low⟩
theorem EZ.other {w w':World}{B b:Nat}{c:Value}{N:List Nd}{P:List Int}{nd d:Value}{f g:List Value}(h:EZ w B b c N P nd d f g){v:Value}{m:Nat}{i:List Value}{lo:Nat}(O:w.ownsRow lo 49 4 v m i)(hk:∀ q,q < w.heap.size→v.ownBlock≠some q→w'.heap[q]? =w.heap[q]?):EZ w' B b c N P nd d f g:=
 h.others (fun q=>v.ownBlock=some q) (fun q hq=>⟨fun e=>Ad h.row O (by decide) (by rw[hq,e]),fun e=>Al O h.nodes.own (by decide) q hq e,fun e=>Al O h.places (by decide) q hq e,fun j a e=>Al O (h.nodes.names j (by rw[← h.nodes.len];exact a) a) (by decide) q hq e,fun j a e=>Al O (h.nodes.kids j (by rw[← h.nodes.lenk];exact a) a) (by decide) q hq e⟩) hk
theorem EZ.row_set {w w':World}{B c:Nat}{d:Value}{N:List Nd}{P:List Int}{nd f:Value}{i k:List Value}(h:EZ w B c d N P nd f i k){g:Nat}{cs:Array Value}{t:TypeId}(R:An w g cs t)(h1:t≠44)(h2:t≠114)(h3:t≠3)(h4:t≠9)(hk:∀ q,q≠g→w'.heap[q]? =w.heap[q]?):EZ w' B c d N P nd f i k:=
 h.others (fun q=>q=g) (fun q hq=>by
  subst hq;refine ⟨fun e=>?_,Ad R h.nodes.own h2,Ad R h.places h3,fun j b=>Ad R (h.nodes.names j (by rw[← h.nodes.len];exact b) b) h4,fun j b=>Ad R (h.nodes.kids j (by rw[← h.nodes.lenk];exact b) b) h3⟩;have l:=R.out;have a:=h.row.out;rw[e] at l;rw[l] at a;injection a with a;injection a with _ a;exact h1 a) (fun q _ hq=>hk q hq)
theorem Nk.stmL {B a:Nat}{d nd b f g:Value}{w w':World}{N:List Nd}{P:List Int}{i j:List Value}(h:Nk B a nd b w f g w')(C:EZ w B a d N P nd b i j){v:Value}{m:Nat}{c:List Value}{lo:Nat}(O:w.ownsRow lo 49 4 v m c):w'.ownsRow lo 49 4 v m c:=
 Ac O (fun q hq=>h.block q (O.lt q hq).2 (fun e=>Ad C.row O (by decide) (by rw[hq,e])) (fun e=>Al O C.nodes.own (by decide) q hq e) (fun e=>Al O C.places (by decide) q hq e))
theorem Jd {j:Func}{a u:Tmp}(h:j.results= #[.cell a 49,.tmp u]){c:Array Value}{w:World}{b:Nat}{d f g i e:Value}(k:c.getD a undef= .pointer (some ⟨b,0,none⟩))(hu:c.getD u undef=e)
  (R:An w b #[d,f,g,i] 49):
  (results j c).run Tryz.prog w= .ok (.tuple #[.agg #[d,f,g,i],e]) w:=by
 rw[Array.getD_eq_getD_getElem?] at k hu;have l:w.cell? ⟨b,0,none⟩=some d:=R.cell 0;have g1:w.cell? ⟨b,1,none⟩=some f:=R.cell 1;have g2:w.cell? ⟨b,2,none⟩=some g:=R.cell 2;have g3:w.cell? ⟨b,3,none⟩=some i:=R.cell 3;simp[results,h,k,hu,go_sem,l,g1,g2,g3]
structure Mm (B nb:Nat) (tv nd pl:Value) (w:World) (N:List Nd) (P:List Int) (nd' pl':Value) (nv kv:List Value) (v0 v1 v2 v3:Value) (w':World):Prop where
 C:EZ w' B nb tv N P nd' pl' nv kv
 K:Nk B nb nd pl w nd' pl' w'
 R:An w' w.heap.size #[.int .i64 0,.string ⟨#[]⟩,.int .i64 0,.int .i64 0] 49
 S:An w' (w.heap.size+1) #[v0,v1,v2,v3] 49
theorem Mm.start {B b:Nat}{c nd a:Value}{w:World}{N:List Nd}{P:List Int}{d f:List Value}(C:EZ w B b c N P nd a d f):Mm B b c nd a w N P nd a d f (.int .i64 0) (.string ⟨#[]⟩) (.int .i64 (-1)) (.int .i64 (-1)) ((w.alloc (.cells #[.int .i64 0,.string ⟨#[]⟩,.int .i64 0,.int .i64 0] 49)).alloc (.cells #[.int .i64 0,.string ⟨#[]⟩,.int .i64 (-1),.int .i64 (-1)] 49)):=by
 have j:B≤w.heap.size:=by have:=C.row.lt;have:=C.low;omega
 have g:=(Below.refl w.heap.size w).alloc NLN (.cells #[.int .i64 0,.string ⟨#[]⟩,.int .i64 0,.int .i64 0] 49);have h:=g.alloc g.size (.cells #[.int .i64 0,.string ⟨#[]⟩,.int .i64 (-1),.int .i64 (-1)] 49);have i:=An.new (w.alloc (.cells #[.int .i64 0,.string ⟨#[]⟩,.int .i64 0,.int .i64 0] 49)) #[.int .i64 0,.string ⟨#[]⟩,.int .i64 (-1),.int .i64 (-1)] 49;simp only[World.size_alloc] at i;exact ⟨C.below h,Nk.of_all h j,(An.new w #[.int .i64 0,.string ⟨#[]⟩,.int .i64 0,.int .i64 0] 49).alloc _,i⟩
theorem Mm.below {B c:Nat}{d nd f g i:Value}{w b j:World}{N:List Nd}{P:List Int}{k l:List Value}{m n o p:Value}(h:Mm B c d nd f w N P g i k l m n o p b)(a:Below b.heap.size b j):Mm B c d nd f w N P g i k l m n o p j:=
 ⟨h.C.below a,h.K.trans (Nk.of_all a (by have:=h.C.row.lt;have:=h.C.low;omega)),h.R.after a NLN,h.S.after a NLN⟩
theorem Mm.call {B a:Nat}{b nd i j k c d:Value}{w l f:World}{N m:List Nd}{P n:List Int}{u v o p:List Value}{q r s t:Value}(h:Mm B a b nd i w N P j k u v q r s t l)(x:EZ f B a b m n c d o p)(g:Nk B a j k l c d f):Mm B a b nd i w m n c d o p q r s t f:=
 ⟨x,h.K.trans g,g.rowL h.C h.R (by decide) (by decide) (by decide),g.rowL h.C h.S (by decide) (by decide) (by decide)⟩
theorem Nk.setNew {B a:Nat}{nd b c d:Value}{w w':World}(h:Nk B a nd b w c d w')(f:B≤w.heap.size){p:Addr}(g:w.heap.size≤p.block)(u:Value):Nk B a nd b w c d (w'.setCell p u):=
 ⟨h.low.setCell (Nat.le_trans f g) u,fun k h1 h2 h3 h4=>(heap_setCell_other w' p k u (by omega)).trans (h.block k h1 h2 h3 h4),h.newN,h.newP⟩
theorem Mm.set {B b:Nat}{c nd d f g:Value}{w a:World}{N:List Nd}{P:List Int}{i k:List Value}{l m n o r s t v:Value}(h:Mm B b c nd d w N P f g i k l m n o a)(x:B≤w.heap.size)(j:Nat)(u:Value)(hu: #[l,m,n,o].setIfInBounds j u= #[r,s,t,v]):Mm B b c nd d w N P f g i k r s t v (a.setCell ⟨w.heap.size+1,j,none⟩ u):=
 ⟨h.C.row_set h.S (by decide) (by decide) (by decide) (by decide) (fun q hq=>heap_setCell_other a ⟨w.heap.size+1,j,none⟩ q u hq),h.K.setNew x (Nat.le_succ _) u,h.R.setFar (p:=⟨w.heap.size+1,j,none⟩) (by simp) u,by have:=h.S.set j u;rw[hu] at this;exact this⟩
theorem Mm.row4 {B b:Nat}{k nd l c m:Value}{w a:World}{N:List Nd}{P:List Int}{n o:List Value}{d f g i:Value}(h:Mm B b k nd l w N P c m n o d f g i a):a.cell? ⟨w.heap.size+1,0,none⟩=some d∧a.cell? ⟨w.heap.size+1,1,none⟩=some f∧a.cell? ⟨w.heap.size+1,2,none⟩=some g∧a.cell? ⟨w.heap.size+1,3,none⟩=some i∧(∀ j,a.frozen? ⟨w.heap.size+1,j,none⟩=false)∧(∀ j,a.frozen? ⟨w.heap.size,j,none⟩=false)∧a.cell? ⟨b,1,none⟩=some c∧(a.cell? ⟨w.heap.size,0,none⟩=some (.int .i64 0)∧a.cell? ⟨w.heap.size,1,none⟩=some (.string ⟨#[]⟩)∧a.cell? ⟨w.heap.size,2,none⟩=some (.int .i64 0)∧a.cell? ⟨w.heap.size,3,none⟩=some (.int .i64 0)):=
 ⟨h.S.cell 0,h.S.cell 1,h.S.cell 2,h.S.cell 3,fun j=>h.S.frozen j,fun j=>h.R.frozen j,h.C.row.cell 1,h.R.cell 0,h.R.cell 1,h.R.cell 2,h.R.cell 3⟩
theorem Mm.done {B i:Nat}{l nd m j k:Value}{w f:World}{N:List Nd}{P:List Int}{n o:List Value}{a b c d:Value}(h:Mm B i l nd m w N P j k n o a b c d f)(g:B≤w.heap.size):An (BN f w.heap.size a b c d) w.heap.size #[a,b,c,d] 49∧EZ (BN f w.heap.size a b c d) B i l N P j k n o∧Nk B i nd m w j k (BN f w.heap.size a b c d):=
 ⟨Aw h.R a b c d,h.C.row_set h.R (by decide) (by decide) (by decide) (by decide) (fun q hq=>GN f w.heap.size q a b c d hq),(((h.K.setNew g (p:=⟨w.heap.size,0,none⟩) NLN a).setNew g (p:=⟨w.heap.size,1,none⟩) NLN b).setNew g (p:=⟨w.heap.size,2,none⟩) NLN c).setNew g (p:=⟨w.heap.size,3,none⟩) NLN d⟩
theorem Nj {T:List Af}{lo hi k:Nat}(a:hi≤T.length)(h1:lo≤k)(h2:k < hi):T[k]'(by omega)∈Fe T lo hi:=by
 have e:(Fe T lo hi)[k - lo]'(by rw[DQ a];omega)=T[k]'(by omega):=by
  simp only[Fe,List.getElem_drop,List.getElem_take]
  congr 1
  omega
 rw[← e];exact List.getElem_mem _
end Go.Proofs.YtdldimphcpojoaaGreatDoor
namespace Go.Proofs.YtdldimphcpojoaaGreatDoor
set_option maxRecDepth 100000
set_option maxHeartbeats 1600000
open Go.RowKit
set_option linter.unusedVariables false
variable {aY : Addr} {pb g c : Nat} {T : List Af} {tl : Nat}
theorem LO.form {x:SR}{w w':World}{r:Ending}(h:LO aY pb g c T tl x w r w'):∃ f i n a d e,r= .returned (.tuple #[.agg #[.int .i64 f,.int .i64 i,.string n,a,d],e])∧FT a∧FT d∧FT e:=by
 cases x with
 | ok s q=>obtain ⟨⟨j,l,k,rfl,_⟩,_⟩:=h;exact ⟨_,_,_,_,_,_,rfl,Gq j,Gq l,.inl rfl⟩
 | bad q=>obtain ⟨⟨f,i,n,a,d,b,rfl,h3,h4,_⟩,_⟩:=h;exact ⟨_,_,_,_,_,_,rfl,h3,h4,.inr ⟨_,_,rfl⟩⟩
theorem LO.put5 {x:SR}{w w':World}{a d:Int}{n:ByteArray}{f i e:Value}(h:LO aY pb g c T tl x w (.returned (.tuple #[.agg #[.int .i64 a,.int .i64 d,.string n,f,i],e])) w'){b:Nat}{cs:Array Value}(R:An w' b cs 122)(j:w.heap.size≤b):
  LO aY pb g c T tl x w (.returned (.tuple #[.agg #[.int .i64 a,.int .i64 d,.string n,f,i],e])) (Ii w' b (.int .i64 a) (.int .i64 d) (.string n) f i):=by
 cases x with
 | ok s q=>
  obtain ⟨⟨l,o,k,h1,h2,h3,h4,h5,h6⟩,h7⟩:=h;exact ⟨⟨l,o,k,h1,h2,h3,Et R _ _ _ _ _ l h4,Et R _ _ _ _ _ o h5,h6.put5 R _ _ _ _ _⟩,h7.put5 j _ _ _ _ _⟩
 | bad q=>
  obtain ⟨⟨p,r,m,t,u,v,h1,h3,h4,h5⟩,h7⟩:=h;exact ⟨⟨p,r,m,t,u,v,h1,h3,h4,h5.put5 R _ _ _ _ _⟩,h7.put5 j _ _ _ _ _⟩
theorem FV (t:Af)(r:List Af)(x:SR)(hk:see CU t=true)(i:∀ w k,Pp w pb g c T tl (t ::r) k→Gy w aY→Calls Tryz.prog 85 #[.pointer (some ⟨pb,0,none⟩)] w (LO aY pb g c T tl x w))(w:World)(k:Nat)(h:Pp w pb g c T tl (t ::r) k)(j:Gy w aY):
  Calls Tryz.prog 61 #[.pointer (some ⟨pb,0,none⟩)] w (LO aY pb g c T tl x w):=by
 have o:=Ab (show AL CU (t ::r)=true from hk);have p:=Ab i;clear i hk;have b:=(Below.refl w.heap.size w).alloc NLN (.cells #[.int .i64 0,.int .i64 0,.string ⟨#[]⟩,.nilIface,.nilIface] 122);have u:=An.new w #[.int .i64 0,.int .i64 0,.string ⟨#[]⟩,.nilIface,.nilIface] 122;have v:=Ab (j.below b);have l:=Ab (h.below b);have nz:=h.row.lt;clear h j;go_enter Tryz.func61,Tryz.ntmps61
 go_wp2_with fail
 generalize m:w.alloc (.cells #[.int .i64 0,.int .i64 0,.string ⟨#[]⟩,.nilIface,.nilIface] 122)=y at *;have K:w.heap.size < y.heap.size:=by rw[← m];simp
 clear m;refine (AR (Aa l) CU).mono ?_;rintro e n ⟨rfl,d⟩;rw[Aa o];have z:=Ab ((Aa l).below d);have A:=Ab ((Aa v).below d);have B:=u.after d NLN;have C:=b.trans (d.mono b.size);dsimp only;go_wp2_with fail
 refine (Aa p n _ (Aa z) (Aa A)).mono ?_;intro L E a;obtain ⟨F,H,nm,M,N,e,rfl,h3,h4,h5⟩:=a.form;have I:Ai pb (pb+1) n E:=by
  cases x with
  | ok s q=>exact a.2
  | bad q=>exact a.2
 have f:=B.touchP I (.inr nz);have J:=Ab (a.from (Ai.of_below (lo:=pb) (hi:=pb+1) C NLN));clear a;obtain ⟨O,c1,c2,c3,c4,P⟩:=EF f;rcases h3 with rfl | ⟨Q,R,rfl⟩ <;> rcases h4 with rfl | ⟨S,U,rfl⟩
 all_goals
  dsimp only;go_wp2_with fail
  exact bodyPost_ret (Di (cs:=#[]) Tryz.results61 rfl rfl (Bv f (.int .i64 F) (.int .i64 H) (.string nm) _ _)) rfl ((Aa J).put5 f NLN)
theorem Gr (t:Af)(r:List Af)(x:SR)(hk:see AZ t=true)(j:∀ w k,Pp w pb g c T tl (t ::r) k→Gy w aY→Calls Tryz.prog 86 #[.pointer (some ⟨pb,0,none⟩)] w (LO aY pb g c T tl x w))(w:World)(k:Nat)(h:Pp w pb g c T tl (t ::r) k)(l:Gy w aY):
  Calls Tryz.prog 61 #[.pointer (some ⟨pb,0,none⟩)] w (LO aY pb g c T tl x w):=by
 have v:=Ab (show AL CU (t ::r)=false from Ag hk (by decide));have y:=Ab (show AL AZ (t ::r)=true from hk);have z:=Ab j;clear j hk;have b:=(Below.refl w.heap.size w).alloc NLN (.cells #[.int .i64 0,.int .i64 0,.string ⟨#[]⟩,.nilIface,.nilIface] 122);have A:=An.new w #[.int .i64 0,.int .i64 0,.string ⟨#[]⟩,.nilIface,.nilIface] 122;have B:=Ab (l.below b);have m:=Ab (h.below b);have nz:=h.row.lt;clear h l;go_enter Tryz.func61,Tryz.ntmps61
 go_wp2_with fail
 generalize n:w.alloc (.cells #[.int .i64 0,.int .i64 0,.string ⟨#[]⟩,.nilIface,.nilIface] 122)=C at *;have Q:w.heap.size < C.heap.size:=by rw[← n];simp
 clear n;refine (AR (Aa m) CU).mono ?_;rintro e R ⟨rfl,d⟩;rw[Aa v];have o:=Ab ((Aa m).below d);have E:=Ab ((Aa B).below d);have F:=A.after d NLN;have p:=b.trans (d.mono b.size);dsimp only;go_wp2_with fail
 refine (AR (Aa o) AZ).mono ?_;rintro e u ⟨rfl,f⟩;rw[Aa y];have H:=Ab ((Aa o).below f);have I:=Ab ((Aa E).below f);have J:=F.after f NLN;have K:=p.trans (f.mono p.size);dsimp only;go_wp2_with fail
 refine (Aa z u _ (Aa H) (Aa I)).mono ?_;intro S L a;obtain ⟨M,N,nm,U,V,e,rfl,h3,h4,h5⟩:=a.form;have O:Ai pb (pb+1) u L:=by
  cases x with
  | ok s q=>exact a.2
  | bad q=>exact a.2
 have i:=J.touchP O (.inr nz);have P:=Ab (a.from (Ai.of_below (lo:=pb) (hi:=pb+1) K NLN));clear a;obtain ⟨W,c1,c2,c3,c4,X⟩:=EF i;rcases h3 with rfl | ⟨Y,Z,rfl⟩ <;> rcases h4 with rfl | ⟨aa,ab,rfl⟩
 all_goals
  dsimp only;go_wp2_with fail
  exact bodyPost_ret (Di (cs:=#[]) Tryz.results61 rfl rfl (Bv i (.int .i64 M) (.int .i64 N) (.string nm) _ _)) rfl ((Aa P).put5 i NLN)
theorem I4 (t:Af)(r:List Af)(x:SR)(hk:see AI t=true)(l:∀ w k,Pp w pb g c T tl (t ::r) k→Gy w aY→Calls Tryz.prog 87 #[.pointer (some ⟨pb,0,none⟩)] w (LO aY pb g c T tl x w))(w:World)(k:Nat)(h:Pp w pb g c T tl (t ::r) k)(m:Gy w aY):
  Calls Tryz.prog 61 #[.pointer (some ⟨pb,0,none⟩)] w (LO aY pb g c T tl x w):=by
 have A:=Ab (show AL CU (t ::r)=false from Ag hk (by decide));have B:=Ab (show AL AZ (t ::r)=false from Ag hk (by decide));have C:=Ab (show AL AI (t ::r)=true from hk);have E:=Ab l;clear l hk;have b:=(Below.refl w.heap.size w).alloc NLN (.cells #[.int .i64 0,.int .i64 0,.string ⟨#[]⟩,.nilIface,.nilIface] 122);have F:=An.new w #[.int .i64 0,.int .i64 0,.string ⟨#[]⟩,.nilIface,.nilIface] 122;have H:=Ab (m.below b);have n:=Ab (h.below b);have nz:=h.row.lt;clear h m;go_enter Tryz.func61,Tryz.ntmps61
 go_wp2_with fail
 generalize o:w.alloc (.cells #[.int .i64 0,.int .i64 0,.string ⟨#[]⟩,.nilIface,.nilIface] 122)=I at *;have X:w.heap.size < I.heap.size:=by rw[← o];simp
 clear o;refine (AR (Aa n) CU).mono ?_;rintro e Y ⟨rfl,d⟩;rw[Aa A];have p:=Ab ((Aa n).below d);have J:=Ab ((Aa H).below d);have K:=F.after d NLN;have u:=b.trans (d.mono b.size);dsimp only;go_wp2_with fail
 refine (AR (Aa p) AZ).mono ?_;rintro e Z ⟨rfl,f⟩;rw[Aa B];have v:=Ab ((Aa p).below f);have L:=Ab ((Aa J).below f);have M:=K.after f NLN;have y:=u.trans (f.mono u.size);dsimp only;go_wp2_with fail
 refine (AR (Aa v) AI).mono ?_;rintro e z ⟨rfl,i⟩;rw[Aa C];have N:=Ab ((Aa v).below i);have O:=Ab ((Aa L).below i);have P:=M.after i NLN;have Q:=y.trans (i.mono y.size);dsimp only;go_wp2_with fail
 refine (Aa E z _ (Aa N) (Aa O)).mono ?_;intro aa R a;obtain ⟨S,U,nm,ab,ac,e,rfl,h3,h4,h5⟩:=a.form;have V:Ai pb (pb+1) z R:=by
  cases x with
  | ok s q=>exact a.2
  | bad q=>exact a.2
 have j:=P.touchP V (.inr nz);have W:=Ab (a.from (Ai.of_below (lo:=pb) (hi:=pb+1) Q NLN));clear a;obtain ⟨ad,c1,c2,c3,c4,ae⟩:=EF j;rcases h3 with rfl | ⟨af,ag,rfl⟩ <;> rcases h4 with rfl | ⟨ah,ai,rfl⟩
 all_goals
  dsimp only;go_wp2_with fail
  exact bodyPost_ret (Di (cs:=#[]) Tryz.results61 rfl rfl (Bv j (.int .i64 S) (.int .i64 U) (.string nm) _ _)) rfl ((Aa W).put5 j NLN)
theorem Tk (a:List Af)(h1:AL CU a=false)(h2:AL AZ a=false)(h3:AL AI a=false)(w:World)(k:Nat)(h:Pp w pb g c T tl a k)(m:Gy w aY):
  Calls Tryz.prog 61 #[.pointer (some ⟨pb,0,none⟩)] w (LO aY pb g c T tl (.bad a) w):=by
 have u:=Ab h1;have v:=Ab h2;have x:=Ab h3;clear h1 h2 h3;have d:=(Below.refl w.heap.size w).alloc NLN (.cells #[.int .i64 0,.int .i64 0,.string ⟨#[]⟩,.nilIface,.nilIface] 122);have y:=An.new w #[.int .i64 0,.int .i64 0,.string ⟨#[]⟩,.nilIface,.nilIface] 122;have z:=Ab (m.below d);have n:=Ab (h.below d);have nz:=h.row.lt;clear h m;go_enter Tryz.func61,Tryz.ntmps61
 go_wp2_with fail
 generalize o:w.alloc (.cells #[.int .i64 0,.int .i64 0,.string ⟨#[]⟩,.nilIface,.nilIface] 122)=A at *;have N:w.heap.size < A.heap.size:=by rw[← o];simp
 clear o;refine (AR (Aa n) CU).mono ?_;rintro e O ⟨rfl,f⟩;rw[Aa u];have p:=Ab ((Aa n).below f);have B:=Ab ((Aa z).below f);have C:=y.after f NLN;have q:=d.trans (f.mono d.size);dsimp only;go_wp2_with fail
 refine (AR (Aa p) AZ).mono ?_;rintro e P ⟨rfl,i⟩;rw[Aa v];have r:=Ab ((Aa p).below i);have E:=Ab ((Aa B).below i);have F:=C.after i NLN;have s:=q.trans (i.mono q.size);dsimp only;go_wp2_with fail
 refine (AR (Aa r) AI).mono ?_;rintro e Q ⟨rfl,j⟩;rw[Aa x];have H:=Ab ((Aa r).below j);have I:=Ab ((Aa E).below j);have J:=F.after j NLN;have K:=s.trans (j.mono s.size);dsimp only;go_wp2_with fail
 refine (CM (Aa H) (Aa I)).mono ?_;rintro e R ⟨b,rfl,L,t⟩;have l:=J.after t NLN;have M:=(Ai.of_below (lo:=pb) (hi:=pb+1) K NLN).allP t;obtain ⟨S,c1,c2,c3,c4,U⟩:=EF l;dsimp only[BS];go_wp2_with fail
 exact bodyPost_ret (Di (cs:=#[]) Tryz.results61 rfl rfl (Bv l (.int .i64 0) (.int .i64 0) (.string ⟨#[]⟩) .nilIface .nilIface)) rfl ⟨⟨_,_,_,_,_,b,rfl,.inl rfl,.inl rfl,L.put5 l (.int .i64 0) (.int .i64 0) (.string ⟨#[]⟩) .nilIface .nilIface⟩,M.put5 NLN (.int .i64 0) (.int .i64 0) (.string ⟨#[]⟩) .nilIface .nilIface⟩
theorem LP (b: 17≤pb)(l:List Af)(x:SR)(d:DS l x)(w:World)(k:Nat)(h:Pp w pb g c T tl l k)(a:Gy w aY):
  Calls Tryz.prog 61 #[.pointer (some ⟨pb,0,none⟩)] w (LO aY pb g c T tl x w):=by
 cases d with
 | @let_nil t hk=>exact FV t [] _ hk (fun w k h a=>KC b t [] (show (0 :Int)≠3 by decide) w k h a) w k h a
 | @let_no t n r hk j=>exact FV t _ _ hk (fun w k h a=>KC b t (n ::r) j w k h a) w k h a
 | @let_bad t n r q hk j d=>exact FV t _ _ hk (fun w k h a=>MV b t n r _ j d w k h a) w k h a
 | @let_end t n r q e hk j d hq=>
  have f:UZ t n (.ok e q)= .bad q:=by
   cases q with
   | nil=>rfl
   | cons u q=>exact if_neg (by rw[show see AF u=false from hq];decide)
  rw[← f];exact FV t _ _ hk (fun w k h a=>MV b t n r _ j d w k h a) w k h a
 | @let_ t n u r q e hk j d hq=>
  have f:UZ t n (.ok e (u ::q))= .ok ⟨t.at_,1,n.text,some e,none⟩ q:=if_pos hq;rw[← f];exact FV t _ _ hk (fun w k h a=>MV b t n r _ j d w k h a) w k h a
 | @when_bad t r q hk d=>exact Gr t _ _ hk (fun w k h a=>MW b t r q d w k h a) w k h a
 | @when_bad2 t r q p e hk d d2=>exact Gr t _ _ hk (fun w k h a=>KF b t r q e (.bad p) d d2 w k h a) w k h a
 | @when_end t r q p e i hk d d2 hq=>
  have f:Oj t e (.ok i p)= .bad p:=by
   cases p with
   | nil=>rfl
   | cons u q=>exact if_neg (by rw[show see AF u=false from hq];decide)
  rw[← f];exact Gr t _ _ hk (fun w k h a=>KF b t r q e _ d d2 w k h a) w k h a
 | @when t u r q p e i hk d d2 hq=>
  have f:Oj t e (.ok i (u ::p))= .ok ⟨t.at_,2,Ax [],some e,i⟩ p:=if_pos hq;rw[← f];exact Gr t _ _ hk (fun w k h a=>KF b t r q e _ d d2 w k h a) w k h a
 | @else_bad t r q hk d=>exact I4 t _ _ hk (fun w k h a=>KG b t r (.bad q) d w k h a) w k h a
 | @else_end t r q i hk d hq=>
  have f:Ol t (.ok i q)= .bad q:=by
   cases q with
   | nil=>rfl
   | cons u q=>exact if_neg (by rw[show see AF u=false from hq];decide)
  rw[← f];exact I4 t _ _ hk (fun w k h a=>KG b t r _ d w k h a) w k h a
 | @else_ t u r q i hk d hq=>
  have f:Ol t (.ok i (u ::q))= .ok ⟨t.at_,3,Ax [],none,i⟩ q:=if_pos hq;rw[← f];exact I4 t _ _ hk (fun w k h a=>KG b t r _ d w k h a) w k h a
 | none h1 h2 h3=>exact Tk l h1 h2 h3 w k h a
end Go.Proofs.YtdldimphcpojoaaGreatDoor
namespace Go.Proofs.YtdldimphcpojoaaGreatDoor
set_option maxRecDepth 100000
set_option maxHeartbeats 6400000
open Go.RowKit
set_option linter.unusedVariables false
variable {aY : Addr} {pb g c : Nat} {T : List Af} {tl : Nat}
theorem WG:(Tryz.prog.info? 122).map (fun i=>(i.zero,i.size,i.bytes))=some (some (.agg #[.int .i64 0,.int .i64 0,.string ByteArray.empty,.nilIface,.nilIface]),5,64):=by kernel_rfl
def XU (lo:Nat) (w:World) (x:Sx) (s:Ps):Prop:=x.at'=(s.at_:Int)∧x.kind=s.kind∧x.name=s.name∧Xy x.cond s.cond∧Xy x.grant s.grant∧JV lo w x.cond∧JV lo w x.grant
def CG (lo:Nat) (w:World):List Sx→List Ps→Prop
 | [], []=>True
 | x ::X,s ::S=>XU lo w x s∧CG lo w X S
 | _,_=>False
theorem DO {lo:Nat}{w w':World}(hk:∀ (v:Value) (n:Nat) (b:List Value),w.ownsRow lo 9 1 v n b→∀ q,v.ownBlock=some q→w'.heap[q]? =w.heap[q]?)(a:Option Ex)(h:JV lo w a):JV lo w' a:=by
 cases a with
 | none=>trivial
 | some e=>exact e.own_of hk h
theorem CG.of {lo:Nat}{w w':World}(hk:∀ (v:Value) (n:Nat) (a:List Value),w.ownsRow lo 9 1 v n a→∀ q,v.ownBlock=some q→w'.heap[q]? =w.heap[q]?):∀ (X:List Sx) (S:List Ps),CG lo w X S→CG lo w' X S
 | [], [],_=>trivial
 | x ::X,s ::S,h=>⟨⟨h.1.1,h.1.2.1,h.1.2.2.1,h.1.2.2.2.1,h.1.2.2.2.2.1,DO hk _ h.1.2.2.2.2.2.1,DO hk _ h.1.2.2.2.2.2.2⟩,CG.of hk X S h.2⟩
 | [],_ ::_,h=>h
 | _ ::_, [],h=>h
theorem CG.snoc {lo:Nat}{w:World}{x:Sx}{s:Ps}(hx:XU lo w x s):∀ (X:List Sx) (S:List Ps),CG lo w X S→CG lo w (X ++ [x]) (S ++ [s])
 | [], [],_=>⟨hx,trivial⟩
 | _ ::X,_ ::S,h=>⟨h.1,CG.snoc hx X S h.2⟩
 | [],_ ::_,h=>absurd h id
 | _ ::_, [],h=>absurd h id
theorem CG.len {lo:Nat}{w:World} :∀ (X:List Sx) (S:List Ps),CG lo w X S→X.length=S.length
 | [], [],_=>rfl
 | _ ::X,_ ::S,h=>by rw[List.length_cons,List.length_cons,CG.len X S h.2]
 | [],_ ::_,h=>absurd h id
 | _ ::_, [],h=>absurd h id
def QR.pre (L:List Ps):QR→QR
 | .ok S=> .ok (L ++S)
 | .bad q=> .bad q
theorem QR.pre_cons (L:List Ps)(s:Ps)(y:QR):QR.pre L (y.cons s)=QR.pre (L ++ [s]) y:=by
 cases y with
 | ok S=>simp[QR.pre,QR.cons]
 | bad q=>rfl
theorem DS.less {a q:List Af}{s:Ps}(d:DS a (.ok s q)):q.length < a.length:=by
 obtain ⟨b,c,f⟩:=d.suf;have h1: 0 < b.length:=List.length_pos_iff.2 (f _ _ rfl);rw[c,List.length_append];show q.length < _+q.length;omega
theorem MX {w:World}{b:Nat}{a c d f g:Value}{t:TypeId}(R:An w b #[a,c,d,f,g] t):∀ j u, [a,c,d,f,g][j]? =some u→w.cell? ((⟨b,0,none⟩:Addr).add j)=some u:=fun j u h=>by
 have i:(⟨b,0,none⟩:Addr).add j=⟨b,j,none⟩:=by by_cases e:j=0 <;> simp[Addr.add,e]
 rw[i,R.cell j,← h];simp
def Zj (aY:Addr) (pb:Nat) (tl:Nat):QR→World→Ending→World→Prop
 | .ok S,w,r,w'=>(∃ X a cx,r= .returned (.tuple #[.slice a X.length cx,.nilIface])∧w'.ownsRow w.heap.size 122 5 (.slice a X.length cx) X.length (Mc X)∧CG (pb+1) w' X S∧X.length≤4000)∧Ai pb (pb+1) w w'
 | .bad q,w,r,w'=>(∃ b,r= .returned (.tuple #[.slice none 0 0,BS b])∧Uu aY tl q b w')∧Ai pb (pb+1) w w'
def Uv (pb g c:Nat) (T:List Af) (tl:Nat) (x:QR) (w:World) (n:Nat) (v:Value) (wr:World):Prop:=
 ∃ X L a cx r k y,v= .slice a X.length cx∧wr.ownsRow w.heap.size 122 5 v X.length (Mc X)∧CG (pb+1) wr X L∧Pp wr pb g c T tl r k∧DP r y∧x=QR.pre L y∧n=r.length∧X.length+r.length≤T.length∧Ai pb (pb+1) w wr
theorem Ij (X:List Sx)(x:Sx):Mc (X ++ [x])=Mc X ++U0 x:=by simp[Mc]
theorem Qu (aJ: 17≤pb)(aP:List Af)(x:QR)(d:DP aP x)(w:World)(k:Nat)(h:Pp w pb g c T tl aP k)(a3:Gy w aY):
  Calls Tryz.prog 32 #[.pointer (some ⟨pb,0,none⟩)] w (Zj aY pb tl x w):=by
 obtain ⟨i,hi,aQ,aR,aS⟩:=info_parts WG;have aL:=Ab a3;have nz:=h.row.lt;have ap:=Ab h.small;have a4:=Ab (show Uv pb g c T tl x w aP.length (.slice none 0 0) w from ⟨[], [],none,0,aP,k,x,rfl,World.ownsRow_nil _ _ _ _,trivial,h,d,by cases x <;> rfl,rfl,by have:=h.len;simp;omega,Ai.refl _ _ _⟩);clear h a3 d;go_enter Tryz.func32,Tryz.ntmps32
 go_wp2_with fail
 go_loopw [4] (fun v wr=>∃ n,Uv pb g c T tl x w n v wr) (fun v wr=>Bu (fun n=>Uv pb g c T tl x w n v wr))
 case atStart=>exact ⟨_,Aa a4⟩
 case round=>
  clear a4;have hl:=EY hrel;have aM:=Ab (show ∀ n ax w',n < Bu (fun n=>Uv pb g c T tl x w n u4 wr)→Uv pb g c T tl x w n ax w'→Bu (fun n=>Uv pb g c T tl x w n ax w') < Bu (fun n=>Uv pb g c T tl x w n u4 wr) from fun n ax w' h1 h2=>Gp h1 h2);generalize a5:Bu (fun n=>Uv pb g c T tl x w n u4 wr)=m at hl aM;have aT:=Ab a5;clear a5 hrel;obtain ⟨X,L,a,aq,r,bo,y,rfl,aU,a6,a7,a8,hx,hm,a9,aV⟩:=hl;have ar:=Ab (And.intro hm a9);have ba:=Ab a6;have bA:=Ab hx;have bp:=Ab ((Aa aL).touch aV aJ);have bB:=aV.size;have bq:∃ ay,DS r ay∧(∀ q,ay= .bad q→x= .bad q)∧(∀ s q,ay= .ok s q→(s.kind≠3∧∃ ac,DP q ac∧x=QR.pre (L ++ [s]) ac∧q.length < r.length)∨(s.kind=3∧q= []∧x= .ok (L ++ [s]))∨(s.kind=3∧q≠ []∧x= .bad q)):=by
   cases a8 with
   | bad d=>exact ⟨_,d,fun q e=>(by cases e;rw[hx];rfl),fun s q e=>by cases e⟩
   | @more _ aX s ac d hk d2=>exact ⟨_,d,fun q e=>(by cases e),fun s q e=>by
     cases e;obtain ⟨br,bs,bt⟩:=d.suf;have h1: 0 < br.length:=List.length_pos_iff.2 (bt _ _ rfl);exact .inl ⟨hk,ac,d2,by rw[hx,QR.pre_cons],by rw[bs,List.length_append];show aX.length < _+aX.length;omega⟩⟩
   | @last _ s d hk=>exact ⟨_,d,fun q e=>(by cases e),fun s q e=>by cases e;exact .inr (.inl ⟨hk,rfl,by rw[hx];rfl⟩)⟩
   | @over _ aX t s d hk=>exact ⟨_,d,fun q e=>(by cases e),fun s q e=>by cases e;exact .inr (.inr ⟨hk,by simp,by rw[hx];rfl⟩)⟩
  obtain ⟨ay,aZ,bb,bc⟩:=bq;have bd:=Ab (LP (aY:=aY) aJ r ay aZ wr bo a7 (Aa bp));have a0:=Ab (And.intro bb bc);have bu:=Ab (show ∀ s q,ay= .ok s q→q.length < r.length from fun s q e=>by subst e;exact aZ.less);clear a6 hx a7 a8 hm a9 aZ bb bc;go_wp2_with fail
  refine (Aa bd).mono ?_;intro bC j bf;cases ay with
  | bad q=>
   obtain ⟨⟨bD,bE,nm,bv,bw,b,rfl,h3,h4,av⟩,aN⟩:=bf;have bx:=Ab ((Aa a0).1 q rfl);rcases h3 with rfl | ⟨C,u3,rfl⟩ <;> rcases h4 with rfl | ⟨l,u4,rfl⟩
   all_goals
    dsimp only[BS];go_wp2_with fail
    go_ret2
    rw[Aa bx];have bg:=fun bz=>(Below.refl j.heap.size j).alloc NLN bz;exact ⟨⟨b,rfl,An.after av (bg _) NLN⟩,(aV.trans aN).allP (bg _)⟩
  | ok s q=>
   obtain ⟨⟨I,J,E,rfl,bh,bi,bj,bk,bl⟩,aN⟩:=bf;have aW:=(Aa a0).2 s q rfl;have aO:=aV.trans aN;have B:j.ownsRow w.heap.size 122 5 (.slice a X.length aq) X.length (Mc X):=Ac aU (fun q hq=>aN.block q (aU.lt q hq).2 (.inr (by have:=(aU.lt q hq).1;omega)));have aw:=Ab (CG.of (w':=j) (fun v n ad ab q hq=>aN.block q (ab.lt q hq).2 (.inr (ab.lt q hq).1)) X L (Aa ba));have K:=Ab (show XU (pb+1) j ⟨(s.at_:Int),s.kind,s.name,I,J⟩ s from ⟨rfl,rfl,rfl,bh,bi,bj,bk⟩);have aK:=Ab (show U0 ⟨(s.at_:Int),s.kind,s.name,I,J⟩= [.int .i64 (s.at_:Int),.int .i64 s.kind,.string s.name,DE I,DE J] from rfl);have p:=Ab bl;have bF:X.length < 4000:=by have:=(Aa ar).2;have:=Aa ap;have:=(Aa bu) s q rfl;omega
   have bm:=Gq I;have bn:=Gq J;generalize DE I=bv at bm aK;generalize DE J=bw at bn aK;have bG:=aO.size;clear bh bi bj bk bl aU a0 ba bd;rcases bm with rfl | ⟨C,u3,rfl⟩ <;> rcases bn with rfl | ⟨l,u4,rfl⟩
   ·have Q:=(Below.refl j.heap.size j).alloc NLN (.cells #[.int .i64 (s.at_:Int),.int .i64 s.kind,.string s.name,.nilIface,.nilIface] 122);have R:=Q.alloc Q.size (.cells #[.int .i64 (s.at_:Int),.int .i64 s.kind,.string s.name,.nilIface,.nilIface] 122);have ae:=(B.alloc (.cells #[.int .i64 (s.at_:Int),.int .i64 s.kind,.string s.name,.nilIface,.nilIface] 122)).alloc (.cells #[.int .i64 (s.at_:Int),.int .i64 s.kind,.string s.name,.nilIface,.nilIface] 122);have S:=An.new (j.alloc (.cells #[.int .i64 (s.at_:Int),.int .i64 s.kind,.string s.name,.nilIface,.nilIface] 122)) #[.int .i64 (s.at_:Int),.int .i64 s.kind,.string s.name,.nilIface,.nilIface] 122;simp only[World.size_alloc] at S;have af:=(An.new j #[.int .i64 (s.at_:Int),.int .i64 s.kind,.string s.name,.nilIface,.nilIface] 122).alloc (.cells #[.int .i64 (s.at_:Int),.int .i64 s.kind,.string s.name,.nilIface,.nilIface] 122);dsimp only;go_wp2_with (at_builtin;refine wpList_append_own _ rfl _ _ 80 rfl w.heap.size 122 i (.agg #[.int .i64 0,.int .i64 0,.string ByteArray.empty,.nilIface,.nilIface]) 5 64 Tryz.underlying80 hi aQ aR aS rfl (by decide) _ _ _ rfl ae ⟨j.heap.size+1,0,none⟩ 1 1 [.int .i64 (s.at_:Int),.int .i64 s.kind,.string s.name,.nilIface,.nilIface] rfl rfl ?k0c1 ?k0c2 ?k0c3 ?k0c4 ?k0c5 ?_)
    case k0c1=>exact MX S
    case k0c2=>intro u hu;simp at hu;rcases hu with rfl | rfl | rfl | rfl | rfl <;> rfl
    case k0c3=>unfold maxLen;omega
    case k0c4=>omega
    case k0c5=>simp;omega
    intro ax f U A _;have V:∀ q,q < j.heap.size+2→(Value.slice a X.length aq).ownBlock≠some q→f.heap[q]? =((j.alloc (.cells #[.int .i64 (s.at_:Int),.int .i64 s.kind,.string s.name,.nilIface,.nilIface] 122)).alloc (.cells #[.int .i64 (s.at_:Int),.int .i64 s.kind,.string s.name,.nilIface,.nilIface] 122)).heap[q]? :=fun q h1 h2=>A.block q (by simp;omega) (fun e=>h2 e.symm);have ag:An f j.heap.size #[.int .i64 (s.at_:Int),.int .i64 s.kind,.string s.name,.nilIface,.nilIface] 122:=⟨(V _ (by omega) (fun e=>by have:=(B.lt _ e).2;omega)).trans af.out⟩
    have M:∀ q,q < j.heap.size→(Value.slice a X.length aq).ownBlock≠some q→f.heap[q]? =j.heap[q]? :=fun q h1 h2=>(V q (by omega) h2).trans (R.block q h1);have o:Pp f pb g c T tl q E:=⟨⟨(M pb (Aa p).row.lt (Ad (Aa p).row B (by decide))).trans (Aa p).row.out⟩,Ac (Aa p).toks (fun q hq=>M q ((Aa p).toks.lt q hq).2 (fun e=>Al B (Aa p).toks (by decide) q e hq)),(Aa p).drop,(Aa p).len,(Aa p).small⟩
    have N:∀ (v:Value) (n:Nat) (ad:List Value),j.ownsRow (pb+1) 9 1 v n ad→∀ q,v.ownBlock=some q→f.heap[q]? =j.heap[q]? :=fun v n ad ab q hq=>M q (ab.lt q hq).2 (fun e=>Al B ab (by decide) q e hq);have ah:=Ab (CG.of N X L (Aa aw));have ai:=Ab (show XU (pb+1) f ⟨(s.at_:Int),s.kind,s.name,I,J⟩ s from ⟨rfl,rfl,rfl,(Aa K).2.2.2.1,(Aa K).2.2.2.2.1,DO N _ (Aa K).2.2.2.2.2.1,DO N _ (Aa K).2.2.2.2.2.2⟩);have aj:=Ab (CG.snoc (Aa ai) X L (Aa ah));have F:Ai pb (pb+1) w f:=by
     have l:=aO.allP R;exact ⟨A.os.trans l.os,A.tape.trans l.tape,A.output.trans l.output,Nat.le_trans l.size A.size,fun q h1 h2=>(A.block q (Nat.lt_of_lt_of_le h1 l.size) (fun e=>by have:=(B.lt q e.symm).1;omega)).trans (l.block q h1 h2)⟩
    obtain ⟨O,P,W⟩:=Ah U;have ak:Hid (f.ownsRow w.heap.size 122 5 (.slice O (X.length+1) P) (X.length+1) (Mc (X ++ [⟨(s.at_:Int),s.kind,s.name,I,J⟩]))):=Ab (by rw[Ij,Aa aK,← W.1];exact U);have az:=W.1;subst az;have a1:f.cell? ⟨j.heap.size,1,none⟩=some (.int .i64 s.kind):=ag.cell 1;clear A V M N U W ae Q R S af ag B aw K ah ai;rcases aW with ⟨hk,ac,al,z,aA⟩ | ⟨hk,rfl,z⟩ | ⟨hk,hq,z⟩
    ·have ek:(s.kind== 3)=false:=beq_eq_false_iff_ne.2 hk;have ao:=Ab (show Uv pb g c T tl x w q.length (.slice O (X.length+1) P) f from ⟨X ++ [⟨(s.at_:Int),s.kind,s.name,I,J⟩],L ++ [s],O,P,q,E,ac,by simp,by rw[List.length_append];exact Aa ak,Aa aj,o,al,z,rfl,by have:=(Aa ar).2;simp;omega,F⟩);have aB:=Ab (show q.length < m by have:=(Aa ar).1;omega);clear hk al z aA o F;go_wp2_with fail
     go_roundw
     case rel=>exact ⟨_,Aa ao⟩
     case measure=>rw[Aa aT];exact Aa aM _ _ _ (Aa aB) (Aa ao)
    ·have ek:(s.kind== 3)=true:=beq_iff_eq.2 hk;have Y:=Ab z;have H:=o.len;have Z:=o.row.cell 0;have aa:=o.row.cell 1;simp only[List.getElem?_toArray,List.getElem?_cons_zero,List.getElem?_cons_succ] at Z aa;clear hk z;have aC:=Aa ap;have aD:wrap64 (((T.length+1 :Nat):Int) - 1)=(T.length:Int):=by simp[wrap64];omega
     have aE:decide (E < T.length)=false:=by rw[decide_eq_false_iff_not];simp at H;omega
     have au: ¬ E < T.length:=by simp at H;omega
     clear H;go_wp2_with fail
     go_region
     all_goals
      go_wp2_with fail
      go_ret2
      rw[Aa Y];have aF:=(Below.refl f.heap.size f).drew;exact ⟨⟨X ++ [(⟨(s.at_:Int),s.kind,s.name,I,J⟩:Sx)],O,P,by rw[List.length_append];rfl,by rw[List.length_append];exact Ac (Aa ak) (fun q hq=>rfl),CG.of (w:=f) (w':=f.drew) (fun _ _ _ _ _ _=>rfl) _ _ (Aa aj),by simp;omega⟩,F.allP aF⟩
    ·have ek:(s.kind== 3)=true:=beq_iff_eq.2 hk;have Y:=Ab z;have H:=o.len;have Z:=o.row.cell 0;have aa:=o.row.cell 1;simp only[List.getElem?_toArray,List.getElem?_cons_zero,List.getElem?_cons_succ] at Z aa;have aG:=Ab (CM (o.drew) (((Aa aL).touch F aJ).below (Below.refl f.heap.size f).drew));clear hk z;have aC:=Aa ap;have aH: 0 < q.length:=List.length_pos_iff.2 hq;have aD:wrap64 (((T.length+1 :Nat):Int) - 1)=(T.length:Int):=by simp[wrap64];omega
     have aE:decide (E < T.length)=true:=by rw[decide_eq_true_eq];omega
     have au:E < T.length:=by omega
     clear H hq aH;go_wp2_with fail
     go_region
     all_goals
      go_wp2_with fail
      refine (Aa aG).mono ?_;rintro e a2 ⟨b,rfl,av,aI⟩;dsimp only[BS];go_wp2_with fail
      go_ret2
      rw[Aa Y];exact ⟨⟨b,rfl,av⟩,(F.allP (Below.refl f.heap.size f).drew).allP aI⟩
   ·have Q:=(Below.refl j.heap.size j).alloc NLN (.cells #[.int .i64 (s.at_:Int),.int .i64 s.kind,.string s.name,.nilIface,(.iface l u4)] 122);have R:=Q.alloc Q.size (.cells #[.int .i64 (s.at_:Int),.int .i64 s.kind,.string s.name,.nilIface,(.iface l u4)] 122);have ae:=(B.alloc (.cells #[.int .i64 (s.at_:Int),.int .i64 s.kind,.string s.name,.nilIface,(.iface l u4)] 122)).alloc (.cells #[.int .i64 (s.at_:Int),.int .i64 s.kind,.string s.name,.nilIface,(.iface l u4)] 122);have S:=An.new (j.alloc (.cells #[.int .i64 (s.at_:Int),.int .i64 s.kind,.string s.name,.nilIface,(.iface l u4)] 122)) #[.int .i64 (s.at_:Int),.int .i64 s.kind,.string s.name,.nilIface,(.iface l u4)] 122;simp only[World.size_alloc] at S;have af:=(An.new j #[.int .i64 (s.at_:Int),.int .i64 s.kind,.string s.name,.nilIface,(.iface l u4)] 122).alloc (.cells #[.int .i64 (s.at_:Int),.int .i64 s.kind,.string s.name,.nilIface,(.iface l u4)] 122);dsimp only;go_wp2_with (at_builtin;refine wpList_append_own _ rfl _ _ 80 rfl w.heap.size 122 i (.agg #[.int .i64 0,.int .i64 0,.string ByteArray.empty,.nilIface,.nilIface]) 5 64 Tryz.underlying80 hi aQ aR aS rfl (by decide) _ _ _ rfl ae ⟨j.heap.size+1,0,none⟩ 1 1 [.int .i64 (s.at_:Int),.int .i64 s.kind,.string s.name,.nilIface,(.iface l u4)] rfl rfl ?k1c1 ?k1c2 ?k1c3 ?k1c4 ?k1c5 ?_)
    case k1c1=>exact MX S
    case k1c2=>intro u hu;simp at hu;rcases hu with rfl | rfl | rfl | rfl | rfl <;> rfl
    case k1c3=>unfold maxLen;omega
    case k1c4=>omega
    case k1c5=>simp;omega
    intro ax f U A _;have V:∀ q,q < j.heap.size+2→(Value.slice a X.length aq).ownBlock≠some q→f.heap[q]? =((j.alloc (.cells #[.int .i64 (s.at_:Int),.int .i64 s.kind,.string s.name,.nilIface,(.iface l u4)] 122)).alloc (.cells #[.int .i64 (s.at_:Int),.int .i64 s.kind,.string s.name,.nilIface,(.iface l u4)] 122)).heap[q]? :=fun q h1 h2=>A.block q (by simp;omega) (fun e=>h2 e.symm);have ag:An f j.heap.size #[.int .i64 (s.at_:Int),.int .i64 s.kind,.string s.name,.nilIface,(.iface l u4)] 122:=⟨(V _ (by omega) (fun e=>by have:=(B.lt _ e).2;omega)).trans af.out⟩
    have M:∀ q,q < j.heap.size→(Value.slice a X.length aq).ownBlock≠some q→f.heap[q]? =j.heap[q]? :=fun q h1 h2=>(V q (by omega) h2).trans (R.block q h1);have o:Pp f pb g c T tl q E:=⟨⟨(M pb (Aa p).row.lt (Ad (Aa p).row B (by decide))).trans (Aa p).row.out⟩,Ac (Aa p).toks (fun q hq=>M q ((Aa p).toks.lt q hq).2 (fun e=>Al B (Aa p).toks (by decide) q e hq)),(Aa p).drop,(Aa p).len,(Aa p).small⟩
    have N:∀ (v:Value) (n:Nat) (ad:List Value),j.ownsRow (pb+1) 9 1 v n ad→∀ q,v.ownBlock=some q→f.heap[q]? =j.heap[q]? :=fun v n ad ab q hq=>M q (ab.lt q hq).2 (fun e=>Al B ab (by decide) q e hq);have ah:=Ab (CG.of N X L (Aa aw));have ai:=Ab (show XU (pb+1) f ⟨(s.at_:Int),s.kind,s.name,I,J⟩ s from ⟨rfl,rfl,rfl,(Aa K).2.2.2.1,(Aa K).2.2.2.2.1,DO N _ (Aa K).2.2.2.2.2.1,DO N _ (Aa K).2.2.2.2.2.2⟩);have aj:=Ab (CG.snoc (Aa ai) X L (Aa ah));have F:Ai pb (pb+1) w f:=by
     have l:=aO.allP R;exact ⟨A.os.trans l.os,A.tape.trans l.tape,A.output.trans l.output,Nat.le_trans l.size A.size,fun q h1 h2=>(A.block q (Nat.lt_of_lt_of_le h1 l.size) (fun e=>by have:=(B.lt q e.symm).1;omega)).trans (l.block q h1 h2)⟩
    obtain ⟨O,P,W⟩:=Ah U;have ak:Hid (f.ownsRow w.heap.size 122 5 (.slice O (X.length+1) P) (X.length+1) (Mc (X ++ [⟨(s.at_:Int),s.kind,s.name,I,J⟩]))):=Ab (by rw[Ij,Aa aK,← W.1];exact U);have az:=W.1;subst az;have a1:f.cell? ⟨j.heap.size,1,none⟩=some (.int .i64 s.kind):=ag.cell 1;clear A V M N U W ae Q R S af ag B aw K ah ai;rcases aW with ⟨hk,ac,al,z,aA⟩ | ⟨hk,rfl,z⟩ | ⟨hk,hq,z⟩
    ·have ek:(s.kind== 3)=false:=beq_eq_false_iff_ne.2 hk;have ao:=Ab (show Uv pb g c T tl x w q.length (.slice O (X.length+1) P) f from ⟨X ++ [⟨(s.at_:Int),s.kind,s.name,I,J⟩],L ++ [s],O,P,q,E,ac,by simp,by rw[List.length_append];exact Aa ak,Aa aj,o,al,z,rfl,by have:=(Aa ar).2;simp;omega,F⟩);have aB:=Ab (show q.length < m by have:=(Aa ar).1;omega);clear hk al z aA o F;go_wp2_with fail
     go_roundw
     case rel=>exact ⟨_,Aa ao⟩
     case measure=>rw[Aa aT];exact Aa aM _ _ _ (Aa aB) (Aa ao)
    ·have ek:(s.kind== 3)=true:=beq_iff_eq.2 hk;have Y:=Ab z;have H:=o.len;have Z:=o.row.cell 0;have aa:=o.row.cell 1;simp only[List.getElem?_toArray,List.getElem?_cons_zero,List.getElem?_cons_succ] at Z aa;clear hk z;have aC:=Aa ap;have aD:wrap64 (((T.length+1 :Nat):Int) - 1)=(T.length:Int):=by simp[wrap64];omega
     have aE:decide (E < T.length)=false:=by rw[decide_eq_false_iff_not];simp at H;omega
     have au: ¬ E < T.length:=by simp at H;omega
     clear H;go_wp2_with fail
     go_region
     all_goals
      go_wp2_with fail
      go_ret2
      rw[Aa Y];have aF:=(Below.refl f.heap.size f).drew;exact ⟨⟨X ++ [(⟨(s.at_:Int),s.kind,s.name,I,J⟩:Sx)],O,P,by rw[List.length_append];rfl,by rw[List.length_append];exact Ac (Aa ak) (fun q hq=>rfl),CG.of (w:=f) (w':=f.drew) (fun _ _ _ _ _ _=>rfl) _ _ (Aa aj),by simp;omega⟩,F.allP aF⟩
    ·have ek:(s.kind== 3)=true:=beq_iff_eq.2 hk;have Y:=Ab z;have H:=o.len;have Z:=o.row.cell 0;have aa:=o.row.cell 1;simp only[List.getElem?_toArray,List.getElem?_cons_zero,List.getElem?_cons_succ] at Z aa;have aG:=Ab (CM (o.drew) (((Aa aL).touch F aJ).below (Below.refl f.heap.size f).drew));clear hk z;have aC:=Aa ap;have aH: 0 < q.length:=List.length_pos_iff.2 hq;have aD:wrap64 (((T.length+1 :Nat):Int) - 1)=(T.length:Int):=by simp[wrap64];omega
     have aE:decide (E < T.length)=true:=by rw[decide_eq_true_eq];omega
     have au:E < T.length:=by omega
     clear H hq aH;go_wp2_with fail
     go_region
     all_goals
      go_wp2_with fail
      refine (Aa aG).mono ?_;rintro e a2 ⟨b,rfl,av,aI⟩;dsimp only[BS];go_wp2_with fail
      go_ret2
      rw[Aa Y];exact ⟨⟨b,rfl,av⟩,(F.allP (Below.refl f.heap.size f).drew).allP aI⟩
   ·have Q:=(Below.refl j.heap.size j).alloc NLN (.cells #[.int .i64 (s.at_:Int),.int .i64 s.kind,.string s.name,(.iface C u3),.nilIface] 122);have R:=Q.alloc Q.size (.cells #[.int .i64 (s.at_:Int),.int .i64 s.kind,.string s.name,(.iface C u3),.nilIface] 122);have ae:=(B.alloc (.cells #[.int .i64 (s.at_:Int),.int .i64 s.kind,.string s.name,(.iface C u3),.nilIface] 122)).alloc (.cells #[.int .i64 (s.at_:Int),.int .i64 s.kind,.string s.name,(.iface C u3),.nilIface] 122);have S:=An.new (j.alloc (.cells #[.int .i64 (s.at_:Int),.int .i64 s.kind,.string s.name,(.iface C u3),.nilIface] 122)) #[.int .i64 (s.at_:Int),.int .i64 s.kind,.string s.name,(.iface C u3),.nilIface] 122;simp only[World.size_alloc] at S;have af:=(An.new j #[.int .i64 (s.at_:Int),.int .i64 s.kind,.string s.name,(.iface C u3),.nilIface] 122).alloc (.cells #[.int .i64 (s.at_:Int),.int .i64 s.kind,.string s.name,(.iface C u3),.nilIface] 122);dsimp only;go_wp2_with (at_builtin;refine wpList_append_own _ rfl _ _ 80 rfl w.heap.size 122 i (.agg #[.int .i64 0,.int .i64 0,.string ByteArray.empty,.nilIface,.nilIface]) 5 64 Tryz.underlying80 hi aQ aR aS rfl (by decide) _ _ _ rfl ae ⟨j.heap.size+1,0,none⟩ 1 1 [.int .i64 (s.at_:Int),.int .i64 s.kind,.string s.name,(.iface C u3),.nilIface] rfl rfl ?k2c1 ?k2c2 ?k2c3 ?k2c4 ?k2c5 ?_)
    case k2c1=>exact MX S
    case k2c2=>intro u hu;simp at hu;rcases hu with rfl | rfl | rfl | rfl | rfl <;> rfl
    case k2c3=>unfold maxLen;omega
    case k2c4=>omega
    case k2c5=>simp;omega
    intro ax f U A _;have V:∀ q,q < j.heap.size+2→(Value.slice a X.length aq).ownBlock≠some q→f.heap[q]? =((j.alloc (.cells #[.int .i64 (s.at_:Int),.int .i64 s.kind,.string s.name,(.iface C u3),.nilIface] 122)).alloc (.cells #[.int .i64 (s.at_:Int),.int .i64 s.kind,.string s.name,(.iface C u3),.nilIface] 122)).heap[q]? :=fun q h1 h2=>A.block q (by simp;omega) (fun e=>h2 e.symm);have ag:An f j.heap.size #[.int .i64 (s.at_:Int),.int .i64 s.kind,.string s.name,(.iface C u3),.nilIface] 122:=⟨(V _ (by omega) (fun e=>by have:=(B.lt _ e).2;omega)).trans af.out⟩
    have M:∀ q,q < j.heap.size→(Value.slice a X.length aq).ownBlock≠some q→f.heap[q]? =j.heap[q]? :=fun q h1 h2=>(V q (by omega) h2).trans (R.block q h1);have o:Pp f pb g c T tl q E:=⟨⟨(M pb (Aa p).row.lt (Ad (Aa p).row B (by decide))).trans (Aa p).row.out⟩,Ac (Aa p).toks (fun q hq=>M q ((Aa p).toks.lt q hq).2 (fun e=>Al B (Aa p).toks (by decide) q e hq)),(Aa p).drop,(Aa p).len,(Aa p).small⟩
    have N:∀ (v:Value) (n:Nat) (ad:List Value),j.ownsRow (pb+1) 9 1 v n ad→∀ q,v.ownBlock=some q→f.heap[q]? =j.heap[q]? :=fun v n ad ab q hq=>M q (ab.lt q hq).2 (fun e=>Al B ab (by decide) q e hq);have ah:=Ab (CG.of N X L (Aa aw));have ai:=Ab (show XU (pb+1) f ⟨(s.at_:Int),s.kind,s.name,I,J⟩ s from ⟨rfl,rfl,rfl,(Aa K).2.2.2.1,(Aa K).2.2.2.2.1,DO N _ (Aa K).2.2.2.2.2.1,DO N _ (Aa K).2.2.2.2.2.2⟩);have aj:=Ab (CG.snoc (Aa ai) X L (Aa ah));have F:Ai pb (pb+1) w f:=by
     have l:=aO.allP R;exact ⟨A.os.trans l.os,A.tape.trans l.tape,A.output.trans l.output,Nat.le_trans l.size A.size,fun q h1 h2=>(A.block q (Nat.lt_of_lt_of_le h1 l.size) (fun e=>by have:=(B.lt q e.symm).1;omega)).trans (l.block q h1 h2)⟩
    obtain ⟨O,P,W⟩:=Ah U;have ak:Hid (f.ownsRow w.heap.size 122 5 (.slice O (X.length+1) P) (X.length+1) (Mc (X ++ [⟨(s.at_:Int),s.kind,s.name,I,J⟩]))):=Ab (by rw[Ij,Aa aK,← W.1];exact U);have az:=W.1;subst az;have a1:f.cell? ⟨j.heap.size,1,none⟩=some (.int .i64 s.kind):=ag.cell 1;clear A V M N U W ae Q R S af ag B aw K ah ai;rcases aW with ⟨hk,ac,al,z,aA⟩ | ⟨hk,rfl,z⟩ | ⟨hk,hq,z⟩
    ·have ek:(s.kind== 3)=false:=beq_eq_false_iff_ne.2 hk;have ao:=Ab (show Uv pb g c T tl x w q.length (.slice O (X.length+1) P) f from ⟨X ++ [⟨(s.at_:Int),s.kind,s.name,I,J⟩],L ++ [s],O,P,q,E,ac,by simp,by rw[List.length_append];exact Aa ak,Aa aj,o,al,z,rfl,by have:=(Aa ar).2;simp;omega,F⟩);have aB:=Ab (show q.length < m by have:=(Aa ar).1;omega);clear hk al z aA o F;go_wp2_with fail
     go_roundw
     case rel=>exact ⟨_,Aa ao⟩
     case measure=>rw[Aa aT];exact Aa aM _ _ _ (Aa aB) (Aa ao)
    ·have ek:(s.kind== 3)=true:=beq_iff_eq.2 hk;have Y:=Ab z;have H:=o.len;have Z:=o.row.cell 0;have aa:=o.row.cell 1;simp only[List.getElem?_toArray,List.getElem?_cons_zero,List.getElem?_cons_succ] at Z aa;clear hk z;have aC:=Aa ap;have aD:wrap64 (((T.length+1 :Nat):Int) - 1)=(T.length:Int):=by simp[wrap64];omega
     have aE:decide (E < T.length)=false:=by rw[decide_eq_false_iff_not];simp at H;omega
     have au: ¬ E < T.length:=by simp at H;omega
     clear H;go_wp2_with fail
     go_region
     all_goals
      go_wp2_with fail
      go_ret2
      rw[Aa Y];have aF:=(Below.refl f.heap.size f).drew;exact ⟨⟨X ++ [(⟨(s.at_:Int),s.kind,s.name,I,J⟩:Sx)],O,P,by rw[List.length_append];rfl,by rw[List.length_append];exact Ac (Aa ak) (fun q hq=>rfl),CG.of (w:=f) (w':=f.drew) (fun _ _ _ _ _ _=>rfl) _ _ (Aa aj),by simp;omega⟩,F.allP aF⟩
    ·have ek:(s.kind== 3)=true:=beq_iff_eq.2 hk;have Y:=Ab z;have H:=o.len;have Z:=o.row.cell 0;have aa:=o.row.cell 1;simp only[List.getElem?_toArray,List.getElem?_cons_zero,List.getElem?_cons_succ] at Z aa;have aG:=Ab (CM (o.drew) (((Aa aL).touch F aJ).below (Below.refl f.heap.size f).drew));clear hk z;have aC:=Aa ap;have aH: 0 < q.length:=List.length_pos_iff.2 hq;have aD:wrap64 (((T.length+1 :Nat):Int) - 1)=(T.length:Int):=by simp[wrap64];omega
     have aE:decide (E < T.length)=true:=by rw[decide_eq_true_eq];omega
     have au:E < T.length:=by omega
     clear H hq aH;go_wp2_with fail
     go_region
     all_goals
      go_wp2_with fail
      refine (Aa aG).mono ?_;rintro e a2 ⟨b,rfl,av,aI⟩;dsimp only[BS];go_wp2_with fail
      go_ret2
      rw[Aa Y];exact ⟨⟨b,rfl,av⟩,(F.allP (Below.refl f.heap.size f).drew).allP aI⟩
   ·have Q:=(Below.refl j.heap.size j).alloc NLN (.cells #[.int .i64 (s.at_:Int),.int .i64 s.kind,.string s.name,(.iface C u3),(.iface l u4)] 122);have R:=Q.alloc Q.size (.cells #[.int .i64 (s.at_:Int),.int .i64 s.kind,.string s.name,(.iface C u3),(.iface l u4)] 122);have ae:=(B.alloc (.cells #[.int .i64 (s.at_:Int),.int .i64 s.kind,.string s.name,(.iface C u3),(.iface l u4)] 122)).alloc (.cells #[.int .i64 (s.at_:Int),.int .i64 s.kind,.string s.name,(.iface C u3),(.iface l u4)] 122);have S:=An.new (j.alloc (.cells #[.int .i64 (s.at_:Int),.int .i64 s.kind,.string s.name,(.iface C u3),(.iface l u4)] 122)) #[.int .i64 (s.at_:Int),.int .i64 s.kind,.string s.name,(.iface C u3),(.iface l u4)] 122;simp only[World.size_alloc] at S;have af:=(An.new j #[.int .i64 (s.at_:Int),.int .i64 s.kind,.string s.name,(.iface C u3),(.iface l u4)] 122).alloc (.cells #[.int .i64 (s.at_:Int),.int .i64 s.kind,.string s.name,(.iface C u3),(.iface l u4)] 122);dsimp only;go_wp2_with (at_builtin;refine wpList_append_own _ rfl _ _ 80 rfl w.heap.size 122 i (.agg #[.int .i64 0,.int .i64 0,.string ByteArray.empty,.nilIface,.nilIface]) 5 64 Tryz.underlying80 hi aQ aR aS rfl (by decide) _ _ _ rfl ae ⟨j.heap.size+1,0,none⟩ 1 1 [.int .i64 (s.at_:Int),.int .i64 s.kind,.string s.name,(.iface C u3),(.iface l u4)] rfl rfl ?k3c1 ?k3c2 ?k3c3 ?k3c4 ?k3c5 ?_)
    case k3c1=>exact MX S
    case k3c2=>intro u hu;simp at hu;rcases hu with rfl | rfl | rfl | rfl | rfl <;> rfl
    case k3c3=>unfold maxLen;omega
    case k3c4=>omega
    case k3c5=>simp;omega
    intro ax f U A _;have V:∀ q,q < j.heap.size+2→(Value.slice a X.length aq).ownBlock≠some q→f.heap[q]? =((j.alloc (.cells #[.int .i64 (s.at_:Int),.int .i64 s.kind,.string s.name,(.iface C u3),(.iface l u4)] 122)).alloc (.cells #[.int .i64 (s.at_:Int),.int .i64 s.kind,.string s.name,(.iface C u3),(.iface l u4)] 122)).heap[q]? :=fun q h1 h2=>A.block q (by simp;omega) (fun e=>h2 e.symm);have ag:An f j.heap.size #[.int .i64 (s.at_:Int),.int .i64 s.kind,.string s.name,(.iface C u3),(.iface l u4)] 122:=⟨(V _ (by omega) (fun e=>by have:=(B.lt _ e).2;omega)).trans af.out⟩
    have M:∀ q,q < j.heap.size→(Value.slice a X.length aq).ownBlock≠some q→f.heap[q]? =j.heap[q]? :=fun q h1 h2=>(V q (by omega) h2).trans (R.block q h1);have o:Pp f pb g c T tl q E:=⟨⟨(M pb (Aa p).row.lt (Ad (Aa p).row B (by decide))).trans (Aa p).row.out⟩,Ac (Aa p).toks (fun q hq=>M q ((Aa p).toks.lt q hq).2 (fun e=>Al B (Aa p).toks (by decide) q e hq)),(Aa p).drop,(Aa p).len,(Aa p).small⟩
    have N:∀ (v:Value) (n:Nat) (ad:List Value),j.ownsRow (pb+1) 9 1 v n ad→∀ q,v.ownBlock=some q→f.heap[q]? =j.heap[q]? :=fun v n ad ab q hq=>M q (ab.lt q hq).2 (fun e=>Al B ab (by decide) q e hq);have ah:=Ab (CG.of N X L (Aa aw));have ai:=Ab (show XU (pb+1) f ⟨(s.at_:Int),s.kind,s.name,I,J⟩ s from ⟨rfl,rfl,rfl,(Aa K).2.2.2.1,(Aa K).2.2.2.2.1,DO N _ (Aa K).2.2.2.2.2.1,DO N _ (Aa K).2.2.2.2.2.2⟩);have aj:=Ab (CG.snoc (Aa ai) X L (Aa ah));have F:Ai pb (pb+1) w f:=by
     have l:=aO.allP R;exact ⟨A.os.trans l.os,A.tape.trans l.tape,A.output.trans l.output,Nat.le_trans l.size A.size,fun q h1 h2=>(A.block q (Nat.lt_of_lt_of_le h1 l.size) (fun e=>by have:=(B.lt q e.symm).1;omega)).trans (l.block q h1 h2)⟩
    obtain ⟨O,P,W⟩:=Ah U;have ak:Hid (f.ownsRow w.heap.size 122 5 (.slice O (X.length+1) P) (X.length+1) (Mc (X ++ [⟨(s.at_:Int),s.kind,s.name,I,J⟩]))):=Ab (by rw[Ij,Aa aK,← W.1];exact U);have az:=W.1;subst az;have a1:f.cell? ⟨j.heap.size,1,none⟩=some (.int .i64 s.kind):=ag.cell 1;clear A V M N U W ae Q R S af ag B aw K ah ai;rcases aW with ⟨hk,ac,al,z,aA⟩ | ⟨hk,rfl,z⟩ | ⟨hk,hq,z⟩
    ·have ek:(s.kind== 3)=false:=beq_eq_false_iff_ne.2 hk;have ao:=Ab (show Uv pb g c T tl x w q.length (.slice O (X.length+1) P) f from ⟨X ++ [⟨(s.at_:Int),s.kind,s.name,I,J⟩],L ++ [s],O,P,q,E,ac,by simp,by rw[List.length_append];exact Aa ak,Aa aj,o,al,z,rfl,by have:=(Aa ar).2;simp;omega,F⟩);have aB:=Ab (show q.length < m by have:=(Aa ar).1;omega);clear hk al z aA o F;go_wp2_with fail
     go_roundw
     case rel=>exact ⟨_,Aa ao⟩
     case measure=>rw[Aa aT];exact Aa aM _ _ _ (Aa aB) (Aa ao)
    ·have ek:(s.kind== 3)=true:=beq_iff_eq.2 hk;have Y:=Ab z;have H:=o.len;have Z:=o.row.cell 0;have aa:=o.row.cell 1;simp only[List.getElem?_toArray,List.getElem?_cons_zero,List.getElem?_cons_succ] at Z aa;clear hk z;have aC:=Aa ap;have aD:wrap64 (((T.length+1 :Nat):Int) - 1)=(T.length:Int):=by simp[wrap64];omega
     have aE:decide (E < T.length)=false:=by rw[decide_eq_false_iff_not];simp at H;omega
     have au: ¬ E < T.length:=by simp at H;omega
     clear H;go_wp2_with fail
     go_region
     all_goals
      go_wp2_with fail
      go_ret2
      rw[Aa Y];have aF:=(Below.refl f.heap.size f).drew;exact ⟨⟨X ++ [(⟨(s.at_:Int),s.kind,s.name,I,J⟩:Sx)],O,P,by rw[List.length_append];rfl,by rw[List.length_append];exact Ac (Aa ak) (fun q hq=>rfl),CG.of (w:=f) (w':=f.drew) (fun _ _ _ _ _ _=>rfl) _ _ (Aa aj),by simp;omega⟩,F.allP aF⟩
    ·have ek:(s.kind== 3)=true:=beq_iff_eq.2 hk;have Y:=Ab z;have H:=o.len;have Z:=o.row.cell 0;have aa:=o.row.cell 1;simp only[List.getElem?_toArray,List.getElem?_cons_zero,List.getElem?_cons_succ] at Z aa;have aG:=Ab (CM (o.drew) (((Aa aL).touch F aJ).below (Below.refl f.heap.size f).drew));clear hk z;have aC:=Aa ap;have aH: 0 < q.length:=List.length_pos_iff.2 hq;have aD:wrap64 (((T.length+1 :Nat):Int) - 1)=(T.length:Int):=by simp[wrap64];omega
     have aE:decide (E < T.length)=true:=by rw[decide_eq_true_eq];omega
     have au:E < T.length:=by omega
     clear H hq aH;go_wp2_with fail
     go_region
     all_goals
      go_wp2_with fail
      refine (Aa aG).mono ?_;rintro e a2 ⟨b,rfl,av,aI⟩;dsimp only[BS];go_wp2_with fail
      go_ret2
      rw[Aa Y];exact ⟨⟨b,rfl,av⟩,(F.allP (Below.refl f.heap.size f).drew).allP aI⟩
end Go.Proofs.YtdldimphcpojoaaGreatDoor
