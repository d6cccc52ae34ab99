/-
  VPM, QM0, QM, QN, VPX, TY, TZ. Own work.
-/
import Derived.Test.YtcpdodmoheebaaaGreatDoorMXAR
import Derived.Test.YtcpdodmoheebaaaGreatDoorMXAS
import Derived.WalkMore
namespace Go.Proofs.YtcpdodmoheebaaaGreatDoor
open Go.RowKit
set_option linter.unusedVariables false
def De (N:List Nd) (L:List St):Bool:=decide (N.length≤4000) && (decide (1≤L.length∧L.length≤600) && Dn L) && N.all AI && GB N L
theorem H5 {K:List (List Int)}{a b:Nat}{f:List (Nat × Nat)}(h:Ay K a f b):∀ t,a≤t→t < b→∃ c:List (Nat × Nat),K[t]? =some (AH c)∧∀ p∈c,p.1 < t:=by
 induction h with
 | nil a=>intro t h1 h2;omega
 | @cons a t b c f g i m j k=>
  intro d h1 h2
  by_cases h3:d < t
  ·exact j d h1 h3
  by_cases h4:d=t
  ·subst h4
   exact ⟨c,i,fun p l=>(g.lt p l).2⟩
  ·exact k d (by omega) h2
theorem Kz {e:Ex} :∀ {Es:List Ex},e∈Es→e.cnt≤DL Es
 | x ::Es,h=>by
  have e5:DL (x ::Es)=x.cnt+DL Es:=by simp [DL]
  rw [e5]
  rcases List.mem_cons.1 h with rfl | h
  ·omega
  ·have:=Kz h;omega
def LZ (w:World) (Es:List Ex) (k:Int):Prop:=∃ (m:Nat) (e:Ex),k=m∧Es[m]? =some e∧e.fit w∧e.cnt≤4000
def Ma (w:World) (Es:List Ex) (s:St):Prop:=
 (s.kind=1∧s.name.size≤32∧LZ w Es s.cond∧s.grant= -1)∨(s.kind=2∧LZ w Es s.cond∧(s.grant= -1∨LZ w Es s.grant))∨(s.kind=3∧s.cond= -1∧(s.grant= -1∨LZ w Es s.grant))
structure LY (N:List Nd) (L:List St):Prop where
 n:N.length≤4000
 m0: 1≤L.length
 m:L.length≤600
 fields:∀ x∈N,AI x=true
 kids:∀ (i:Nat) (x:Nd),N[i]? =some x→∀ k∈x.kids,0≤k∧k < (i:Int)
 roots:∀ s∈L,(s.cond= -1∨(0≤s.cond∧s.cond < N.length))∧(s.grant= -1∨(0≤s.grant∧s.grant < N.length))
 stm:∀ s∈L,(s.kind=1∧s.name.size≤32∧0≤s.cond∧s.grant= -1)∨(s.kind=2∧0≤s.cond)∨(s.kind=3∧s.cond= -1)
 cnt:∀ (Es:List Ex),Es.length=N.length→(∀ j,(h:j < Es.length)→BZ N j Es[j])→∀ s∈L,∀ k,(k=s.cond∨k=s.grant)→0≤k→∀ e,Es[k.toNat]? =some e→e.cnt≤4000
theorem Fg:∀ {L:List St},Dn L=true→∀ s∈L,H6 s=true
 | x ::L,h,s,hs=>by
  simp only [Dn,Bool.and_eq_true] at h
  rcases List.mem_cons.1 hs with rfl | hs
  ·exact h.1.1
  ·exact Fg h.2 s hs
theorem GZ {N:List Nd}{L:List St}(h:De N L=true):LY N L:=by
 simp only [De,Bool.and_eq_true,decide_eq_true_eq] at h
 obtain ⟨⟨⟨h1,⟨h2,h3⟩,h4⟩,h5⟩,h6⟩:=h
 obtain ⟨a,w,y⟩:∃ a,Cv (N.map Nd.kids) N.length [] 0=some a∧AH a=L.flatMap AG:=by
  rw [GB] at h6
  cases l:Cv (N.map Nd.kids) N.length [] 0 with
  | none=>rw [l] at h6;cases h6
  | some a=>rw [l] at h6;exact ⟨a,rfl,of_decide_eq_true h6⟩
 obtain ⟨i,_⟩:=CQ N.length (.nil 0) (fun p c=>(by cases c)) w
 rw [Nat.zero_add] at i
 have r:∀ s∈L,∀ k∈AG s,∃ p∈a,k=(p.1:Int):=fun s hs k d=>by
  have:k∈AH a:=by rw [y];exact List.mem_flatMap.2 ⟨s,hs,d⟩
  rw [AH] at this
  obtain ⟨p,c,rfl⟩:=List.mem_map.1 this
  exact ⟨p,c,rfl⟩
 have m:∀ s∈L,∀ k∈AG s,0≤k∧k < N.length:=fun s hs k d=>by
  obtain ⟨p,c,rfl⟩:=r s hs k d
  have:=(i.lt p c).2
  omega
 have n:∀ s∈L,s.kind≠3→s.cond∈AG s:=fun s _ h=>by rw [AG,if_pos h];simp
 have t:∀ s∈L,s.grant≠-1→s.grant∈AG s:=fun s _ h=>by rw [AG,if_pos h];simp
 have z:=Fg h4
 have stm:∀ s∈L,(s.kind=1∧s.name.size≤32∧0≤s.cond∧s.grant= -1)∨(s.kind=2∧0≤s.cond)∨(s.kind=3∧s.cond= -1):=fun s hs=>by
  have h:=z s hs
  rw [H6] at h
  by_cases o:s.kind=1
  ·rw [if_pos o] at h
   simp only [Bool.and_eq_true,decide_eq_true_eq] at h
   exact .inl ⟨o,ED h.1,(m s hs _ (n s hs (by omega))).1,h.2⟩
  rw [if_neg o] at h
  by_cases u:s.kind=2
  ·exact .inr (.inl ⟨u,(m s hs _ (n s hs (by omega))).1⟩)
  rw [if_neg u] at h
  by_cases f:s.kind=3
  ·rw [if_pos f] at h
   simp only [Bool.and_eq_true,decide_eq_true_eq] at h
   exact .inr (.inr ⟨f,h.2⟩)
  ·rw [if_neg f] at h
   cases h
 refine ⟨h1,h2,h3,fun x hx=>List.all_eq_true.1 h5 x hx,fun v x hx k d=>?_,fun s hs=>⟨?_,?_⟩,stm,fun Es hl A s hs k d h0 e he=>?_⟩
 ·have B:v < N.length:=(List.getElem?_eq_some_iff.1 hx).1
  obtain ⟨C,e1,e2⟩:=H5 i v (Nat.zero_le _) B
  rw [List.getElem?_map,hx] at e1
  have e3:x.kids=AH C:=Option.some.inj e1
  rw [e3,AH] at d
  obtain ⟨p,c,rfl⟩:=List.mem_map.1 d
  have:=e2 p c
  omega
 ·by_cases f:s.kind=3
  ·rcases stm s hs with h | h | h
   ·omega
   ·omega
   ·exact .inl h.2
  ·exact .inr (m s hs _ (n s hs f))
 ·by_cases g:s.grant= -1
  ·exact .inl g
  ·exact .inr (m s hs _ (t s hs g))
 ·have D:k∈AG s:=by
   rcases d with rfl | rfl
   ·apply n s hs
    intro f
    rcases stm s hs with h | h | h <;> omega
   ·exact t s hs (by omega)
  obtain ⟨p,c,rfl⟩:=r s hs k D
  have q:∀ b∈a,b.1 < Es.length:=fun b l=>by rw [hl];exact (i.lt b l).2
  have E:=IR i (a.attach.map (fun b=>Es[b.1.1]'(q b.1 b.2))) (by simp) (fun j h1 h2=>by
   have:=A (a[j]).1 (q _ (List.getElem_mem h1))
   simpa using this)
  rw [Int.toNat_natCast] at he
  have hm:e∈a.attach.map (fun b=>Es[b.1.1]'(q b.1 b.2)):=by
   refine List.mem_map.2 ⟨⟨p,c⟩,List.mem_attach _ _,?_⟩
   exact (List.getElem?_eq_some_iff.1 he).2
  have:=Kz hm
  omega
theorem Jo {N:List Nd}{L:List St}{w:World}{Es:List Ex}(h:LY N L)(hl:Es.length=N.length)(g:∀ j,(h:j < Es.length)→BZ N j Es[j])(i:∀ e∈Es,e.fit w):∀ s∈L,Ma w Es s:=fun s hs=>by
 obtain ⟨d,l⟩:=h.roots s hs
 have get:∀ k,(k=s.cond∨k=s.grant)→0≤k∧k < N.length→LZ w Es k:=fun k m c=>
  ⟨k.toNat,Es[k.toNat]'(by omega),by omega,List.getElem?_eq_getElem _,i _ (List.getElem_mem _),h.cnt Es hl g s hs k m c.1 _ (List.getElem?_eq_getElem (by omega))⟩
 have f:s.grant= -1∨LZ w Es s.grant:=l.imp id (fun c=>get _ (.inr rfl) c)
 rcases h.stm s hs with ⟨a,b,o,n⟩ | ⟨a,b⟩ | ⟨a,b⟩
 ·exact .inl ⟨a,b,get _ (.inl rfl) (d.resolve_left (by omega)),n⟩
 ·exact .inr (.inl ⟨a,get _ (.inl rfl) (d.resolve_left (by omega)),f⟩)
 ·exact .inr (.inr ⟨a,b,f⟩)
theorem Dm {Es:List Ex}{m:Nat}{e:Ex}(h:Es[m]? =some e):Lf Es (m:Int)=e.pr:=by
 rw [Lf,Int.toNat_natCast,h]
theorem H0 {w:World}{Es:List Ex}{g:Int}(h:g= -1∨LZ w Es g):(Lp Es g).size≤16000100:=by
 have e1:(⟨#[103,114,97,110,116,32]⟩:ByteArray).size=6:=rfl
 rcases h with rfl | ⟨m,e,rfl,h1,h2,h3⟩
 ·exact (by decide:(⟨#[100,101,110,121]⟩:ByteArray).size≤16000100)
 ·rw [Lp,if_neg (by omega),Dm h1,ByteArray.size_append,e1]
  have:=e.pr_size h2
  omega
theorem H4 {w:World}{Es:List Ex}{g:Int}(h:LZ w Es g):(Lf Es g).size≤16000000:=by
 obtain ⟨m,e,rfl,h1,h2,h3⟩:=h
 rw [Dm h1]
 have:=e.pr_size h2
 omega
theorem Kx {w:World}{Es:List Ex}{s:St}(h:Ma w Es s):(IS Es s).size≤40000000∧0 < (IS Es s).size:=by
 have f:(⟨#[108,101,116,32]⟩:ByteArray).size=4:=rfl
 have g:(⟨#[32,61,32]⟩:ByteArray).size=3:=rfl
 have i:(⟨#[119,104,101,110,32]⟩:ByteArray).size=5:=rfl
 have j:(⟨#[32,61,62,32]⟩:ByteArray).size=4:=rfl
 have k:(⟨#[101,108,115,101,32]⟩:ByteArray).size=5:=rfl
 have c:(⟨#[59,10]⟩:ByteArray).size=2:=rfl
 rcases h with ⟨b,d,a,l⟩ | ⟨b,d,a⟩ | ⟨b,d,a⟩
 ·have:=H4 a
  rw [IS,if_pos b]
  simp only [ByteArray.size_append,f,g,c]
  omega
 ·have:=H4 d
  have:=H0 a
  rw [IS,if_neg (by omega),if_pos b]
  simp only [ByteArray.size_append,i,j,c]
  omega
 ·have:=H0 a
  rw [IS,if_neg (by omega),if_neg (by omega)]
  simp only [ByteArray.size_append,k,c]
  omega
def EQ (Es:List Ex) (L:List St):ByteArray:=Gz (L.map (IS Es))
theorem Ky (Es:List Ex)(L:List St)(k:Nat)(h:k < L.length):EQ Es (L.take (k+1))=EQ Es (L.take k) ++IS Es L[k]:=by
 rw [EQ,EQ,List.take_succ_eq_append_getElem h,List.map_append,List.map_cons,List.map_nil,F5]
theorem Fa {w:World}{Es:List Ex} :∀ {L:List St},(∀ s∈L,Ma w Es s)→(EQ Es L).size≤40000000 * L.length
 | [],_=>by simp [EQ,Gz,ByteArray.size]
 | s ::L,h=>by
  have h1:=(Kx (h s (List.mem_cons_self ..))).1
  have h2:=Fa (L:=L) (fun x hx=>h x (List.mem_cons_of_mem _ hx))
  rw [EQ] at h2
  rw [EQ,List.map_cons,Gz,ByteArray.size_append,List.length_cons]
  omega
def FZ (N:List Nd) (L:List St) (s:ByteArray):Prop:=
 (De N L=false∧s=⟨#[]⟩)∨(De N L=true∧∃ Es:List Ex,Es.length=N.length∧(∀ j,(h:j < Es.length)→BZ N j Es[j])∧s=EQ Es L)
end Go.Proofs.YtcpdodmoheebaaaGreatDoor
namespace Go.Proofs.YtcpdodmoheebaaaGreatDoor
set_option maxRecDepth 100000
set_option maxHeartbeats 6400000
open Go.RowKit
set_option linter.unusedVariables false
variable {aS aB aT : Addr}
def Mx (aS aB aT:Addr) (w:World) (R:Mz) (e:Ending) (w':World):Prop:=
 (R.code=0∧R.at_=0∧∃ x c,e= .returned (.tuple #[.slice x R.toks.length c,.nilIface])∧w'.ownsRow w.heap.size 30 4 (.slice x R.toks.length c) R.toks.length (Cw R.toks)∧KL R.toks∧Below w.heap.size w w')∨
 (R.toks= []∧1≤R.code∧R.code≤3∧∃ b,e= .returned (.tuple #[.slice none 0 0,.iface 60 (.pointer (some ⟨b,0,none⟩))])∧Ao w' b #[.int .i64 (R.at_:Int),Eh aS aB aT R.code] 65∧Below w.heap.size w w')
theorem KW (t:ByteArray)(w:World)(T:Fc w aS aB aT):
  Calls Tryz.prog 12 #[.string t] w fun e w'=>Mx aS aB aT w (Ax t) e w':=by
 by_cases h4: 4000 < t.size
 ·have ac:(4000 :Int) < (t.size:Int):=by omega
  have F:=Ab (show Ax t=⟨[],1,0⟩ by rw [Ax,if_pos h4])
  have aD:=T.gS
  go_enter Tryz.func12,Tryz.ntmps12
  go_wp2_with fail
  go_step3
  go_wp2_with fail
  refine (EH _ _ _ _).mono ?_
  rintro e aE ⟨rfl,ad,h⟩
  go_wp2_with fail
  rw [Exit.noGoto_ret]
  go_ret2
  rw [Aa F]
  exact .inr ⟨rfl,by show (1 :Int)≤1;omega,by show (1 :Int)≤3;omega,w.heap.size,rfl,ad,h⟩
 ·have ac: ¬ ((4000 :Int) < (t.size:Int)):=by omega
  have aF:t.size≤1048576:=by omega
  have F:=Ab (show AE t.size (t.size+1) (Ad t) []=Ax t by rw [Ax,if_neg h4])
  obtain ⟨ae,C,af,ag,ah⟩:=info_parts L2
  go_enter Tryz.func12,Tryz.ntmps12
  go_wp2_with fail
  go_step3
  go_wp2_with fail
  go_step3
  go_wp2_with fail
  go_loopw [4,5] (fun ai a wr=>∃ (k f:Nat) (d:List Cq),a= .int .i64 k∧k≤t.size∧t.size - k < f∧d.length≤k∧KL d∧AE t.size f ((Ad t).drop k) d=Ax t∧wr.ownsRow w.heap.size 30 4 ai d.length (Cw d)∧Below w.heap.size w wr) (fun _ a _=>t.size - (intOf a).toNat)
  case atStart=>exact ⟨0,t.size+1, [],rfl,Nat.zero_le _,by omega,by simp,C4,by rw [List.drop_zero];exact Aa F,World.ownsRow_nil _ _ _ _,Below.refl _ _⟩
  case round=>
   obtain ⟨k,f,d,rfl,aG,aH,aI,U,V,j,h⟩:=hrel
   have o:=Ab V
   have p:=Ab U
   clear V U
   by_cases s:k < t.size
   case neg=>
    have e:(Ad t).drop k= []:=List.drop_of_length_le (by rw [Ag];omega)
    have W:Ax t=⟨d,0,0⟩:=by rw [← Aa o,e,CX]
    have G:=Ab W
    have aj: ¬ ((k:Int) < (t.size:Int)):=by omega
    clear W e
    obtain ⟨x,H,I⟩:=Do j
    subst I
    go_wp2_with fail
    go_ret2
    rw [Aa G]
    exact .inl ⟨rfl,rfl,x,H,rfl,j,Aa p,h⟩
   have aj:(k:Int) < (t.size:Int):=by omega
   by_cases h1:(t[k].toNat:Int)=32
   ·have q:=Ab (Ct t k s (.inl h1))
    go_wp2_with fail
    go_roundw
    case rel=>exact ⟨k+1,f,d,by go_num,by omega,by omega,by omega,Aa p,by rw [← Aa o];exact Bi _ _ (Aa q).symm _,j,h⟩
    case measure=>simp [intOf];omega
   have e1:=beq_eq_false_iff_ne.2 h1
   by_cases h3:(t[k].toNat:Int)=9
   ·have q:=Ab (Ct t k s (.inr (.inr h3)))
    go_wp2_with fail
    go_roundw
    case rel=>exact ⟨k+1,f,d,by go_num,by omega,by omega,by omega,Aa p,by rw [← Aa o];exact Bi _ _ (Aa q).symm _,j,h⟩
    case measure=>simp [intOf];omega
   have e3:=beq_eq_false_iff_ne.2 h3
   by_cases h2:(t[k].toNat:Int)=10
   ·have q:=Ab (Ct t k s (.inr (.inl h2)))
    go_wp2_with fail
    go_roundw
    case rel=>exact ⟨k+1,f,d,by go_num,by omega,by omega,by omega,Aa p,by rw [← Aa o];exact Bi _ _ (Aa q).symm _,j,h⟩
    case measure=>simp [intOf];omega
   have e2:=beq_eq_false_iff_ne.2 h2
   by_cases h5:(t[k].toNat:Int)=35
   ·have q:=Ab (Fb t k s h5)
    go_wp2_with fail
    go_loop [5] (fun a=>∃ b:Nat,k≤b∧b < t.size∧a= .int .i64 b∧Be true ((Ad t).drop k)=Be true ((Ad t).drop b)) (fun a=>t.size - (intOf a).toNat)
    case atStart=>exact ⟨k,Nat.le_refl _,s,rfl,rfl⟩
    case round=>
     obtain ⟨b,aJ,D,rfl,C⟩:=hrel
     have J:=Ab C
     clear C
     have aK:(b:Int) < (t.size:Int):=by omega
     by_cases h10:(t[b].toNat:Int)=10
     ·have E:=Ab (g0 t b D h10)
      have aL:b≠k:=fun e=>by subst e;omega
      have ak:((t[b].toNat:Int) != 10)=false:=by rw [h10];rfl
      go_wp2_with fail
      go_roundw
      case rel=>exact ⟨b,f,d,rfl,by omega,by omega,by omega,Aa p,by rw [← Aa o];exact Bi _ _ (by rw [Aa q,Aa J,Aa E]) _,j,h⟩
      case measure=>simp [intOf];omega
     ·have E:=Ab (Gx t b D h10)
      have ak:((t[b].toNat:Int) != 10)=true:=bne_iff_ne.2 h10
      by_cases hl:b+1=t.size
      ·have al:((b:Int)+1==(t.size:Int))=true:=beq_iff_eq.2 (by omega)
       have G:=Ab (show Ax t=⟨d,0,0⟩ by
        rw [← Aa o,← CX (n:=t.size) (f:=f)]
        exact Bi _ _ (by rw [Aa q,Aa J,Aa E,DG true t (b+1) (by omega)];rfl) _)
       obtain ⟨x,H,I⟩:=Do j
       subst I
       go_wp2_with fail
       go_ret2
       rw [Aa G]
       exact .inl ⟨rfl,rfl,x,H,rfl,j,Aa p,h⟩
      ·have al:((b:Int)+1==(t.size:Int))=false:=beq_eq_false_iff_ne.2 (by omega)
       go_wp2_with fail
       go_round
       case rel=>exact ⟨b+1,by omega,by omega,by go_num,by rw [Aa J,Aa E]⟩
       case measure=>simp [intOf];omega
   have e5:=beq_eq_false_iff_ne.2 h5
   have K:=Ab (Ed t k s h1 h2 h3 h5)
   go_wp2_with fail
   have X:=Ab (Fd t k)
   have ao:(t.extract k t.size).size=t.size - k:=by rw [ByteArray.size_extract];omega
   have L:=T.below h (Nat.le_refl _)
   generalize t.extract k t.size=r at X ao ⊢
   refine (FV r _ (by omega) (by omega) L).mono ?_
   rintro e M ⟨rfl,B⟩
   rw [Aa X]
   have l:=AD t k s
   have N:((Ad t).drop (k+1)).length+1=t.size - k:=by rw [List.length_drop,Ag];omega
   cases y:AT ((Ad t).drop k) with
   | bad c=>
    obtain ⟨u,rfl⟩:∃ u,f=u+1:=⟨f - 1,by omega⟩
    have Y:Ax t=⟨[],c,k⟩:=by
     rw [← Aa o,l,Ec (by rw [← l];exact Aa K) (by rw [← l];exact y)]
     congr 1
     rw [N];omega
    have hc:c=2∨c=3:=Ga (by rw [← l];exact y)
    have ap:=Ab Y
    obtain ⟨aq,O⟩:=DN aS aB aT c
    have ar:=Ab O
    have z:=h.trans (B.mono h.size)
    have P:=z.size
    rw [show GL aS aB aT (.bad c)= .tuple #[.agg #[.int .i64 0,.int .i64 0,.string ⟨#[]⟩,.int .i64 0],.int .i64 0,.iface 150 (.pointer (some aq))] by rw [← O];rfl]
    have A:=z.alloc P (.cells #[.int .i64 0,.int .i64 0,.string ⟨#[]⟩,.int .i64 0] 30)
    clear Y l N y j O B L
    go_wp2_with fail
    generalize M.alloc (.cells #[.int .i64 0,.int .i64 0,.string ⟨#[]⟩,.int .i64 0] 30)=au at A ⊢
    refine (EH _ _ _ _).mono ?_
    rintro e aM ⟨rfl,av,Q⟩
    have aw:=A.trans (Q.mono A.size)
    go_wp2_with fail
    go_ret2
    rw [Aa ap]
    exact .inr ⟨rfl,by show 1≤c;omega,by show c≤3;omega,au.heap.size,rfl,by rw [Aa ar];exact av,aw⟩
   | tok i m g v=>
    obtain ⟨aN,ax,aO⟩: 1≤v∧v≤((Ad t).drop k).length∧g.length≤v:=by have:=Cm ((Ad t).drop k);rw [y] at this;exact this
    rw [List.length_drop,Ag] at ax
    obtain ⟨u,rfl⟩:∃ u,f=u+1:=⟨f - 1,by omega⟩
    have ay:=Ab (show AE t.size u ((Ad t).drop (k+v)) (d ++ [⟨i,m,Bo g,k⟩])=Ax t by
     rw [← Aa o,l,CW (by rw [← l];exact Aa K) (by rw [← l];exact y),← l,List.drop_drop,show t.size - (((Ad t).drop (k+1)).length+1)=k by omega])
    have Z:KL (d ++ [⟨i,m,Bo g,k⟩]):=Il (Aa p) (by show (Bo g).size≤_;rw [Ik];unfold maxLen;omega)
    have az:=Ab Z
    have z:=h.trans (B.mono h.size)
    have aa:=Cn j B
    have P:=z.size
    rw [show GL aS aB aT (.tok i m g v)= .tuple #[.agg #[.int .i64 i,.int .i64 m,.string (Bo g),.int .i64 0],.int .i64 (v:Int),.nilIface] from rfl]
    clear l N y Z o K p j B L h
    have A:=(z.alloc P (.cells #[.int .i64 i,.int .i64 m,.string (Bo g),.int .i64 k] 30)).alloc (by simp;omega) (.cells #[.int .i64 i,.int .i64 m,.string (Bo g),.int .i64 k] 30)
    have R:=(aa.alloc (.cells #[.int .i64 i,.int .i64 m,.string (Bo g),.int .i64 k] 30)).alloc (.cells #[.int .i64 i,.int .i64 m,.string (Bo g),.int .i64 k] 30)
    have S:=Ao.new (M.alloc (.cells #[.int .i64 i,.int .i64 m,.string (Bo g),.int .i64 k] 30)) #[.int .i64 i,.int .i64 m,.string (Bo g),.int .i64 k] 30
    simp only [World.size_alloc] at S
    go_wp2_with (at_builtin;refine wpList_append_own _ rfl _ _ 24 rfl w.heap.size 30 ae (.agg #[.int .i64 0,.int .i64 0,.string ByteArray.empty,.int .i64 0]) 4 40 Tryz.underlying24 C af ag ah rfl (by decide) _ _ _ rfl R ⟨M.heap.size+1,0,none⟩ 1 1 (El ⟨i,m,Bo g,k⟩) rfl rfl ?c1 ?c2 ?c3 ?c4 ?c5 ?_)
    case c1=>exact Gb (x:=⟨i,m,Bo g,k⟩) S
    case c2=>exact Jv _
    case c3=>unfold maxLen;omega
    case c4=>omega
    case c5=>simp;omega
    intro aP aA aC ab _
    have Q:Below w.heap.size w aA:=A.grown ab (by simp;omega) (fun b D=>(R.lt b D).1)
    clear ab aa R S z A
    go_wp2_with fail
    go_roundw
    case rel=>exact ⟨k+v,u,d ++ [⟨i,m,Bo g,k⟩],by go_num,by omega,by omega,by simp;omega,Aa az,Aa ay,by rw [Gc,List.length_append];exact aC,Q⟩
    case measure=>simp [intOf];omega
end Go.Proofs.YtcpdodmoheebaaaGreatDoor
namespace Go.Proofs.YtcpdodmoheebaaaGreatDoor
set_option maxHeartbeats 1600000
open Go.RowKit
set_option linter.unusedVariables false
variable {aS aB aT : Addr}
theorem JT (t:ByteArray)(w:World)(P:Fc w aS aB aT):
  Calls Tryz.prog 6 #[.string t] w fun e w'=>Jw w (Ax t) e w':=by
 have i:=Ao.new w #[.int .i64 0,.int .i64 0] 26
 have f:=(Below.refl w.heap.size w).alloc (Nat.le_refl _) (.cells #[.int .i64 0,.int .i64 0] 26)
 have k:=P.below f (Nat.le_refl _)
 have Q:(w.alloc (.cells #[.int .i64 0,.int .i64 0] 26)).heap.size=w.heap.size+1:=by simp
 go_enter Tryz.func6,Tryz.ntmps6
 go_wp2_with fail
 generalize w.alloc (.cells #[.int .i64 0,.int .i64 0] 26)=B at i f k Q ⊢
 refine (KW t B k).mono ?_
 rintro e D (⟨hc,E,x,c,rfl,F,G,a⟩ | ⟨H,h1,h3,b,rfl,I,a⟩)
 ·have l:=i.after a (Nat.le_refl _)
  have h:=f.trans (a.mono f.size)
  have o:=Ab hc
  have q:=Ab E
  have R:=Ab G
  have X:=a.size
  clear hc E G a i f k
  generalize J:(Ax t).toks=r at *
  have S:=Ab J
  clear J
  go_wp2_with fail
  refine (Ig D).mono ?_
  rintro e K ⟨rfl,g⟩
  have d:=l.after g (Nat.le_refl _)
  have s:=h.trans (g.mono h.size)
  have L:=Cn F g
  clear g l h F
  have u:=d.cell 0
  have v:=d.cell 1
  have T:=fun j=>d.frozen j
  simp only [List.getElem?_toArray,List.getElem?_cons_zero,List.getElem?_cons_succ] at u v
  go_wp2_with fail
  have m:=(d.set 0 (.int .i64 0)).set 1 (.int .i64 0)
  have y:=(s.setCell (p:=⟨w.heap.size,0,none⟩) (Nat.le_refl _) (.int .i64 0)).setCell (p:=⟨w.heap.size,1,none⟩) (Nat.le_refl _) (.int .i64 0)
  have z:_=some (Value.int .i64 0):=m.cell 0
  have A:_=some (Value.int .i64 0):=m.cell 1
  have U:((K.setCell ⟨w.heap.size,0,none⟩ (.int .i64 0)).setCell ⟨w.heap.size,1,none⟩ (.int .i64 0)).ownsRow w.heap.size 30 4 (.slice x r.length c) r.length (Cw r):=
   (AZ L (fun p V=>by
    have h1:B.heap.size≤p.block:=by subst V;exact (L.lt _ rfl).1
    rw [heap_setCell_other _ _ _ _ (by show p.block≠w.heap.size;omega),heap_setCell_other _ _ _ _ (by show p.block≠w.heap.size;omega)])).mono (by omega)
  refine bodyPost_ret (Em Tryz.results6 rfl z A) rfl ?_
  unfold Jw
  rw [Aa S,Aa o,Aa q]
  exact ⟨x,c,rfl,U,Aa R,y⟩
 ·have l:=i.after a (Nat.le_refl _)
  have h:=f.trans (a.mono f.size)
  have M:=k.below a (Nat.le_refl _)
  have W:=Ab H
  clear H a i f k
  generalize N:(Ax t).code=C at *
  generalize O:(Ax t).at_=n at *
  have o:=Ab N
  have q:=Ab O
  clear N O
  go_wp2_with fail
  refine (Ih b n C D M I ⟨h1,h3⟩).mono ?_
  rintro e K ⟨rfl,g⟩
  have d:=l.after g (Nat.le_refl _)
  have s:=h.trans (g.mono h.size)
  clear g l h I M
  have u:=d.cell 0
  have v:=d.cell 1
  have T:=fun j=>d.frozen j
  simp only [List.getElem?_toArray,List.getElem?_cons_zero,List.getElem?_cons_succ] at u v
  go_wp2_with fail
  have m:=(d.set 0 (.int .i64 C)).set 1 (.int .i64 n)
  have y:=(s.setCell (p:=⟨w.heap.size,0,none⟩) (Nat.le_refl _) (.int .i64 C)).setCell (p:=⟨w.heap.size,1,none⟩) (Nat.le_refl _) (.int .i64 n)
  have z:_=some (Value.int .i64 C):=m.cell 0
  have A:_=some (Value.int .i64 n):=m.cell 1
  refine bodyPost_ret (Em Tryz.results6 rfl z A) rfl ?_
  unfold Jw
  rw [Aa W,Aa o,Aa q]
  exact ⟨none,0,rfl,World.ownsRow_nil _ _ _ _,C4,y⟩
end Go.Proofs.YtcpdodmoheebaaaGreatDoor
