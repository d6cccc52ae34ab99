/-
  Hid, Plain, TL, TK, Sets, TN, DgI, CMem, Laws0. Own work.
-/
import Derived.Test.YtdldimphcpojoaaGreatDoorRows
import Derived.Below
import Derived.WalkKit
import Derived.WalkSpells
import Derived.WalkLawsBesides
import Derived.RegionTactic
import Derived.ChangeAlike
import Derived.Deep.QuietTactic
import Derived.BigQuiet
namespace Go.Proofs.YtdldimphcpojoaaGreatDoor
open Go.RowKit
theorem Ab {p:Prop}(h:p):Hid p:=h
theorem Aa {p:Prop}(h:Hid p):p:=h
theorem NLN {n:Nat}:n≤n:=Nat.le_refl n
theorem BRN {B:Nat}{w:World}:Below B w w:=Below.refl B w
theorem Ay {a b:Bool}(h:a=b):Ending.returned (.bool a)= .returned (.bool b):=by rw[h]
def Ra (c:Int):Bool:=decide (97≤c∧c≤122∨48≤c∧c≤57∨c=46∨c=95∨c=45∨c=58)
def dgI (c:Int):Bool:=decide (48≤c∧c≤57)
def JL (l:List UInt8):Bool:=l.all fun c=>Ra (c.toNat:Int)
def vnB (s:ByteArray):Bool:=decide (1≤s.size∧s.size≤32) && JL s.data.toList
theorem Dm (s:ByteArray)(k:Nat)(h:k < s.size):s.data.toList.take (k+1)=s.data.toList.take k ++ [s[k]]:=by
 rw[List.take_succ_eq_append_getElem (by simpa using h)];rfl
theorem Rb (l:List UInt8)(c:UInt8):JL (l ++ [c])=(JL l && Ra (c.toNat:Int)):=by
 simp[JL,List.all_append]
theorem Pg (s:ByteArray)(k:Nat)(h:k < s.size)(a:Ra ((s[k]).toNat:Int)=false):JL s.data.toList=false:=by
 rw[← List.take_append_drop (k+1) s.data.toList,JL,List.all_append,Dm s k h,List.all_append];simp[a]
def Ax (l:List UInt8):ByteArray:=⟨l.toArray⟩
def Ak (s:ByteArray):List UInt8:=s.data.toList
theorem BE (s:ByteArray):Ax (Ak s)=s:=by cases s;simp[Ax,Ak]
theorem Do (l:List UInt8):Ak (Ax l)=l:=by simp[Ax,Ak]
theorem As (s:ByteArray):(Ak s).length=s.size:=by simp[Ak]
def Ci (c:UInt8):Bool:=dgI (c.toNat:Int)
def CC (d:List UInt8):Int:=d.foldl (fun n x=>n * 10+((x.toNat:Int) - 48)) 0
theorem EM (d:List UInt8)(x:UInt8):CC (d ++ [x])=CC d * 10+((x.toNat:Int) - 48):=by simp[CC,List.foldl_append]
theorem Ez:∀ (k:Nat) (d:List UInt8),d.length=k→d.all Ci=true→0≤CC d∧CC d < 10 ^ k
 | 0,d,h,_=>by
  have:d= []:=List.eq_nil_of_length_eq_zero h;subst this;simp[CC]
 | k+1,d,h,hd=>by
  have a:d≠ []:=fun e=>by subst e;simp at h
  have e:=List.dropLast_concat_getLast a;rw[← e] at hd ⊢;rw[List.all_append,Bool.and_eq_true] at hd;obtain ⟨b,c⟩:=Ez k d.dropLast (by simp;omega) hd.1;have hx:=hd.2;simp only[List.all_cons,List.all_nil,Bool.and_true,Ci,dgI,decide_eq_true_eq] at hx;rw[EM,Int.pow_succ];omega
theorem GK {s:ByteArray}(h:s.size=0):s=ByteArray.empty:=by
 cases s with | mk d=>cases d with | mk l=>simp[ByteArray.size] at h;subst h;rfl
theorem Ft {s:ByteArray}(h:s.size≠0):s.toList.isEmpty=false:=by
 rw[ByteArray.toList_eq];cases s with | mk d=>cases d with | mk l=>simp[ByteArray.size] at h ⊢;exact h
theorem E8 (c:UInt8):Ci c=true↔48≤(c.toNat:Int)∧(c.toNat:Int)≤57:=by simp[Ci,dgI]
def IG (c:Int):Bool:=decide (97≤c∧c≤122)
def NI (c:UInt8):Bool:=IG (c.toNat:Int)
def Wh (c:Int):Bool:=IG c || dgI c || decide (c=95)
def Ed (c:UInt8):Bool:=Wh (c.toNat:Int)
def GE (c:UInt8):Bool:=Ra (c.toNat:Int)
def Dj (p:UInt8→Bool) (s:ByteArray) (j:Nat):Nat:=j+(((Ak s).drop j).takeWhile p).length
theorem BJ (s:ByteArray)(j:Nat)(h:j < s.size):(Ak s).drop j=s[j] ::(Ak s).drop (j+1):=by
 have a:j < (Ak s).length:=by rw[As];exact h
 rw[List.drop_eq_getElem_cons a];rfl
theorem Ey {p:UInt8→Bool}{s:ByteArray}{j:Nat}(h:j < s.size)(a:p s[j]=true):Dj p s j=Dj p s (j+1):=by
 rw[Dj,Dj,BJ s j h,List.takeWhile_cons,if_pos a];simp;omega
theorem Ew {p:UInt8→Bool}{s:ByteArray}{j:Nat}(h:j < s.size)(a:p s[j]=false):Dj p s j=j:=by
 rw[Dj,BJ s j h,List.takeWhile_cons,if_neg (by simp[a])];rfl
theorem Fw {p:UInt8→Bool}{s:ByteArray}{j:Nat}(h:s.size≤j):Dj p s j=j:=by
 rw[Dj,List.drop_of_length_le (by rw[As];exact h)];rfl
theorem SE {p:UInt8→Bool}{s:ByteArray}{j:Nat}(h:j≤s.size):j≤Dj p s j∧Dj p s j≤s.size:=by
 rw[Dj];have h1:=(List.takeWhile_prefix p (l:=(Ak s).drop j)).length_le;have h2:((Ak s).drop j).length=s.size - j:=by rw[List.length_drop,As]
 omega
def AK (p:UInt8→Bool) (r:List UInt8):Nat:=(r.takeWhile p).length
theorem FJ (p:UInt8→Bool)(r:List UInt8):AK p r≤r.length:=(List.takeWhile_prefix p).length_le
theorem DM (p:UInt8→Bool)(s:ByteArray)(j:Nat):Dj p s j=j+AK p ((Ak s).drop j):=rfl
theorem Bk (s:ByteArray)(i j:Nat):Ak (s.extract i j)=((Ak s).drop i).take (j - i):=by
 simp[Ak,ByteArray.data_extract]
theorem PG (s:ByteArray)(i:Nat):Ak (s.extract i s.size)=(Ak s).drop i:=by
 rw[Bk,List.take_of_length_le (by rw[List.length_drop,As];exact NLN)]
theorem Gz (p:UInt8→Bool)(s:ByteArray):Dj p s 0=AK p (Ak s):=by simp[DM]
def ED:List (List UInt8):= [[108,101,116], [119,104,101,110], [101,108,115,101], [100,101,110,121], [103,114,97,110,116], [105,102], [116,104,101,110], [110,111,116], [97,110,100], [111,114], [105,110], [119,105,116,104,105,110], [115,105,122,101], [116,114,117,101], [102,97,108,115,101]]
def Gb (l:List UInt8):Bool:=ED.contains l
def Cj:List (List UInt8):= [[61,62], [61,61], [33,61], [60,61]]
def Dq:List UInt8:= [60,43,45,42,47,37,124,38,92,40,41,123,125,44,59,61]
inductive L3 where
 | bad (code:Int)
 | tok (kind num:Int) (text:List UInt8) (w:Nat)
def BG (r:List UInt8) (w:Nat):Bool:=match r[w]? with
 | some x=>NI x || decide (x=95)
 | none=>false
def Bn (r:List UInt8):L3:=
 if 32 < AK Ed r then .bad 3 else .tok (if Gb (r.take (AK Ed r)) then 4 else 3) 0 (r.take (AK Ed r)) (AK Ed r)
def Bm (r:List UInt8):L3:=
 if 19 < AK Ci r∨BG r (AK Ci r)=true∨9223372036854775807 < CC (r.take (AK Ci r)) then .bad 3 else .tok 1 (CC (r.take (AK Ci r))) [] (AK Ci r)
def BH (r:List UInt8):L3:=
 if 32 < AK GE r∨r[AK GE r]? ≠some 34 then .bad 3 else .tok 2 0 (r.take (AK GE r)) (AK GE r+2)
def A8 (c:UInt8) (r:List UInt8):L3:=
 if Cj.contains (r.take 2) then .tok 5 0 (r.take 2) 2 else if Dq.contains c then .tok 5 0 [c] 1 else .bad 2
def Cc:List UInt8→L3
 | []=> .bad 0
 | c ::r=>if NI c then Bn (c ::r) else if Ci c then Bm (c ::r) else if c=34 then BH r else A8 c (c ::r)
structure Af where
 kind:Int
 num:Int
 text:ByteArray
 at_:Nat
def Ce:Bool→List UInt8→List UInt8
 | _, []=> []
 | false,c ::r=>if c=32∨c=10∨c=9 then Ce false r else if c=35 then Ce true r else c ::r
 | true,c ::r=>if c=10 then Ce false r else Ce true r
theorem FA:∀ (a:Bool) (l:List UInt8),(Ce a l).length≤l.length
 | _, []=>by simp[Ce]
 | false,c ::r=>by
  rw[Ce];split
  ·have:=FA false r;simp;omega
  ·split
   ·have:=FA true r;simp;omega
   ·exact NLN
 | true,c ::r=>by
  rw[Ce];split
  ·have:=FA false r;simp;omega
  ·have:=FA true r;simp;omega
theorem DV:∀ (a:Bool) (l:List UInt8),Ce false (Ce a l)=Ce a l
 | _, []=>by simp[Ce]
 | false,c ::r=>by
  rw[Ce];split
  ·exact DV false r
  ·split
   ·exact DV true r
   ·rw[Ce,if_neg (by assumption),if_neg (by assumption)]
 | true,c ::r=>by
  rw[Ce];split
  ·exact DV false r
  ·exact DV true r
structure YH where
 toks:List Af
 code:Int
 at_:Nat
def AH (n:Nat):Nat→List UInt8→List Af→YH
 | 0,_,out=>⟨out,0,0⟩
 | f+1,l,out=>match Ce false l with
  | []=>⟨out,0,0⟩
  | c ::r=>match Cc (c ::r) with
   | .bad code=>⟨[],code,n - (r.length+1)⟩
   | .tok k m s w=>AH n f ((c ::r).drop w) (out ++ [⟨k,m,Ax s,n - (r.length+1)⟩])
theorem Fg (n f:Nat)(l:List UInt8)(out:List Af):AH n f (Ce false l) out=AH n f l out:=by
 cases f with
 | zero=>rfl
 | succ f=>rw[AH,AH,DV]
theorem CH (n f:Nat){l a:List UInt8}(h:Ce false l=Ce false a)(out:List Af):AH n f l out=AH n f a out:=by
 rw[← Fg,h,Fg]
def Ar (t:ByteArray):YH:=if 4000 < t.size then ⟨[],1,0⟩ else AH t.size (t.size+1) (Ak t) []
def L3.okW:L3→List UInt8→Prop
 | .bad _,_=>True
 | .tok _ _ s w,r=>1≤w∧w≤r.length∧s.length≤w
theorem Ll {p:UInt8→Bool}{c:UInt8}{r:List UInt8}(h:p c=true): 1≤AK p (c ::r):=by
 rw[AK,List.takeWhile_cons,if_pos h];simp
theorem ES (r:List UInt8):(Cc r).okW r:=by
 cases r with
 | nil=>simp[Cc,L3.okW]
 | cons c r=>
  rw[Cc];split
  case isTrue h=>
   rw[Bn];split
   ·exact trivial
   ·have h1:=Ll (p:=Ed) (c:=c) (r:=r) (by rw[Ed,Wh];rw[NI] at h;simp[h]);have h2:=FJ Ed (c ::r);exact ⟨h1,h2,by rw[List.length_take];omega⟩
  case isFalse h=>
   split
   case isTrue h=>
    rw[Bm];split
    ·exact trivial
    ·exact ⟨Ll h,FJ _ _,Nat.zero_le _⟩
   case isFalse h=>
    split
    case isTrue h=>
     rw[BH];split
     ·exact trivial
     ·rename_i h1;rw[not_or,Decidable.not_not] at h1;have h2:=(List.getElem?_eq_some_iff.1 h1.2).1;exact ⟨by omega,by simp;omega,by rw[List.length_take];omega⟩
    case isFalse h=>
     rw[A8];split
     case isTrue h=>
      have h2: 2≤(c ::r).length:=by
       cases r with
       | nil=>exfalso;revert h;simp[Cj]
       | cons d r=>simp
      exact ⟨by omega,h2,by rw[List.length_take];omega⟩
     case isFalse h=>
      split
      ·exact ⟨by omega,by simp,by simp⟩
      ·exact trivial
theorem Eo {n f:Nat}{c:UInt8}{r:List UInt8}{out:List Af}{k m:Int}{s:List UInt8}{w:Nat}(a:Ce false (c ::r)=c ::r)(h:Cc (c ::r)= .tok k m s w):
  AH n (f+1) (c ::r) out=AH n f ((c ::r).drop w) (out ++ [⟨k,m,Ax s,n - (r.length+1)⟩]):=by
 rw[AH,a];simp only[h]
theorem Fh {n f:Nat}{c:UInt8}{r:List UInt8}{out:List Af}{code:Int}(a:Ce false (c ::r)=c ::r)(h:Cc (c ::r)= .bad code):
  AH n (f+1) (c ::r) out=⟨[],code,n - (r.length+1)⟩:=by
 rw[AH,a];simp only[h]
theorem Jr {n f:Nat}{out:List Af} :AH n f [] out=⟨out,0,0⟩:=by
 cases f <;> simp[AH,Ce]
def EP (ss:List ByteArray) (k:Nat):ByteArray:=ss.getD k ByteArray.empty
theorem Cf (a:List ByteArray)(k:Nat)(h:k < a.length):EP a k=a[k]:=by
 simp[EP,List.getD,h]
structure Bg (w:World) (a:Option Addr) (n c:Nat) (ss:List ByteArray):Prop where
 len:n=ss.length
 cap:n≤c
 small:c≤maxLen
 sizes:∀ j,j < n→(EP ss j).size≤maxLen
 cells:∀ j,j < n→∃ b off,a=some ⟨b,off,none⟩∧b < w.heap.size∧w.cell? ⟨b,off+j,none⟩=some (.string (EP ss j))
theorem Bg.below {w w':World}{B:Nat}{a:Option Addr}{n c:Nat}{d:List ByteArray}(h:Bg w a n c d)(f:Below B w w')(k:w.heap.size≤B):Bg w' a n c d:=
 ⟨h.len,h.cap,h.small,h.sizes,fun j l=>by
  obtain ⟨b,g,m,i,hc⟩:=h.cells j l;exact ⟨b,g,m,Nat.lt_of_lt_of_le i f.size,by rw[← hc];exact f.cell (p:=⟨b,g+j,none⟩) (Nat.lt_of_lt_of_le i k)⟩⟩
theorem Bg.at {w:World}{a:Option Addr}{n c:Nat}{g:List ByteArray}(h:Bg w a n c g)(k: 0 < n):
  ∃ b d,a=some ⟨b,d,none⟩∧b < w.heap.size∧∀ j,j < n→w.cell? ⟨b,d+j,none⟩=some (.string (EP g j)):=by
 obtain ⟨b,d,i,l,_⟩:=h.cells 0 k;refine ⟨b,d,i,l,fun j m=>?_⟩;obtain ⟨p,q,f,_,o⟩:=h.cells j m;rw[i] at f;simp only[Option.some.injEq,Addr.mk.injEq,and_true] at f;obtain ⟨rfl,rfl⟩:=f;exact o
def sl (a b:ByteArray):Bool:=Op.bytesLess a.toList b.toList
theorem IE:∀ (x y:List UInt8),Op.bytesLess x y=decide (x < y)
 | [], []=>by simp[Op.bytesLess]
 | _ ::_, []=>by simp[Op.bytesLess]
 | [],_ ::_=>by simp[Op.bytesLess]
 | a ::x,b ::y=>by
  rw[Op.bytesLess,IE x y];simp only[List.cons_lt_cons_iff];by_cases h1:a < b <;> by_cases h2:a=b <;> by_cases h3:x < y <;> simp[h1,h2,h3]
theorem Kd (a b:ByteArray):sl a b=true↔a.data.toList < b.data.toList:=by
 rw[sl,IE,ByteArray.toList_eq,ByteArray.toList_eq];simp
theorem H4 {a b c:ByteArray}(h:sl a b=true)(k:sl b c=true):sl a c=true:=by
 rw[Kd] at *;exact List.lt_trans h k
theorem Dk (a:ByteArray):sl a a=false:=by
 rw[Bool.eq_false_iff];intro h;rw[Kd] at h;exact List.lt_irrefl _ h
theorem Gg {a b:ByteArray}(h:a.data.toList=b.data.toList):a=b:=by
 cases a with | mk x=>cases b with | mk y=>cases x;cases y;simp at h;subst h;rfl
theorem Qa (a b:ByteArray)(h1:sl a b=false)(h2:sl b a=false):a=b:=by
 apply Gg;rw[Bool.eq_false_iff] at h1 h2;rw[Ne,Kd] at h1 h2;exact List.le_antisymm (List.not_lt.1 h2) (List.not_lt.1 h1)
theorem Ke {a b:ByteArray}(h:sl a b=true):sl b a=false:=by
 rw[Bool.eq_false_iff];intro k;have:=H4 h k;rw[Dk] at this;cases this
def Ff (ss:List ByteArray):Bool:=decide (ss.Pairwise fun a b=>sl a b=true)
def Rj (ss:List ByteArray):Bool:=ss.all vnB
def Le (ss:List ByteArray):Bool:=decide (ss.length≤64) && (Rj ss && Ff ss)
theorem Pr (a:List ByteArray):Rj a=true↔∀ j,j < a.length→vnB (EP a j)=true:=by
 rw[Rj,List.all_eq_true];constructor
 ·intro h j b;rw[Cf a j b];exact h _ (List.getElem_mem b)
 ·intro h x hx;obtain ⟨j,b,rfl⟩:=List.getElem_of_mem hx;rw[← Cf a j b];exact h j b
theorem Xk (a:List ByteArray)(h:∀ j,j < a.length→vnB (EP a j)=true):Rj a=true:=(Pr a).2 h
theorem VP (a:List ByteArray)(j:Nat)(b:j < a.length)(h:vnB (EP a j)=false):Rj a=false:=by
 rw[Bool.eq_false_iff];intro k;rw[(Pr a).1 k j b] at h;cases h
theorem Pu (a:List ByteArray):Ff a=true↔∀ i j,i < j→j < a.length→sl (EP a i) (EP a j)=true:=by
 rw[Ff,decide_eq_true_eq,List.pairwise_iff_getElem];constructor
 ·intro h i j c b;rw[Cf a i (by omega),Cf a j b];exact h i j (by omega) b c
 ·intro h i j hi b c;rw[← Cf a i hi,← Cf a j b];exact h i j c b
theorem VQ (a:List ByteArray)(i j:Nat)(b:i < j)(c:j < a.length)(h:sl (EP a i) (EP a j)=false):Ff a=false:=by
 rw[Bool.eq_false_iff];intro k;rw[(Pu a).1 k i j b c] at h;cases h
theorem Ug (a:List ByteArray)(h: 64 < a.length):Le a=false:=by
 have: ¬ a.length≤64:=by omega
 simp[Le,this]
theorem Rk (a:List ByteArray)(h:a.length≤64):Le a=(Rj a && Ff a):=by
 simp[Le,h]
theorem IK:∀ (l:List UInt8) (n:Int),l.foldl (fun n x=>n * 10+((x.toNat:Int) - 48)) n=n * 10 ^ l.length+CC l
 | [],n=>by simp[CC]
 | x ::xs,n=>by
  have e:CC (x ::xs)=(0 * 10+((x.toNat:Int) - 48)) * 10 ^ xs.length+CC xs:=IK xs _;rw[List.foldl_cons,IK xs,e,List.length_cons,Int.pow_succ];rw[Int.add_mul,Int.add_mul];have:n * 10 * 10 ^ xs.length=n * (10 ^ xs.length * 10):=by rw[Int.mul_assoc,Int.mul_comm 10]
  omega
theorem Lm (x:UInt8)(l:List UInt8):CC (x ::l)=((x.toNat:Int) - 48) * 10 ^ l.length+CC l:=by
 rw[CC,List.foldl_cons,IK];simp
theorem Rp:∀ (a b:List UInt8),a.length=b.length→a.all Ci=true→b.all Ci=true→(a < b↔CC a < CC b)
 | [], [],_,_,_=>by simp
 | [],_ ::_,h,_,_=>by simp at h
 | _ ::_, [],h,_,_=>by simp at h
 | x ::xs,y ::ys,h,ha,hb=>by
  have c:xs.length=ys.length:=by simpa using h
  rw[List.all_cons,Bool.and_eq_true] at ha hb;have d:=Rp xs ys c ha.2 hb.2;obtain ⟨a1,a2⟩:=Ez _ xs rfl ha.2;obtain ⟨b1,b2⟩:=Ez _ ys rfl hb.2;rw[Lm,Lm,List.cons_lt_cons_iff,d,c];rw[c] at a2;have f:(0 :Int) < 10 ^ ys.length:=by omega
  generalize (10 :Int) ^ ys.length=p at *;rcases Nat.lt_trichotomy x.toNat y.toNat with e | e | e
  ·have h1:x < y:=UInt8.lt_iff_toNat_lt.2 e;have:((x.toNat:Int) - 48+1) * p≤((y.toNat:Int) - 48) * p:=Int.mul_le_mul_of_nonneg_right (by omega) (by omega);rw[Int.add_mul] at this;constructor
   ·intro _;omega
   ·intro _;exact .inl h1
  ·have h1:x=y:=UInt8.toNat_inj.1 e;subst h1;constructor
   ·rintro (h | ⟨_,h⟩)
    ·exact absurd h (by simp[UInt8.lt_irrefl])
    ·omega
   ·intro h;exact .inr ⟨rfl,by omega⟩
  ·have h1:y < x:=UInt8.lt_iff_toNat_lt.2 e;have:((y.toNat:Int) - 48+1) * p≤((x.toNat:Int) - 48) * p:=Int.mul_le_mul_of_nonneg_right (by omega) (by omega);rw[Int.add_mul] at this;constructor
   ·rintro (h | ⟨h,_⟩)
    ·exfalso;have h2:=UInt8.lt_iff_toNat_lt.1 h;omega
    ·subst h;omega
   ·intro h;omega
def Ln:List UInt8:= [57,50,50,51,51,55,50,48,51,54,56,53,52,55,55,53,56,48,55]
theorem VW:CC Ln=9223372036854775807:=by decide
theorem Dg (p:UInt8→Bool)(r:List UInt8):(r.take (AK p r)).all p=true:=by
 have:r.take (AK p r)=r.takeWhile p:=by
  obtain ⟨t,ht⟩:=List.takeWhile_prefix p (l:=r);rw[AK];have e:(r.takeWhile p ++t).take (r.takeWhile p).length=r.takeWhile p:=by simp
  rw[ht] at e;exact e
 rw[this,List.all_takeWhile]
theorem Bl (k:Nat)(d:List UInt8)(h:d.all Ci=true): 0≤CC (d.take k)∧CC (d.take k)≤CC d:=by
 have h1:(d.take k).all Ci=true:=by rw[List.all_eq_true] at h ⊢;exact fun x hx=>h x (List.mem_of_mem_take hx)
 have h2:(d.drop k).all Ci=true:=by rw[List.all_eq_true] at h ⊢;exact fun x hx=>h x (List.mem_of_mem_drop hx)
 obtain ⟨a1,_⟩:=Ez _ _ rfl h1;obtain ⟨b1,b2⟩:=Ez _ _ rfl h2;refine ⟨a1, ?_⟩
 conv=>rhs;rw[← List.take_append_drop k d,CC,List.foldl_append,IK]
 have a:(1 :Int)≤10 ^ (d.drop k).length:=by omega
 have:=Int.mul_le_mul_of_nonneg_left a a1;have e:CC (d.take k)=List.foldl (fun n x=>n * 10+((x.toNat:Int) - 48)) 0 (d.take k):=rfl;rw[← e];omega
set_option maxHeartbeats 400000
theorem BZ (c:Int)(w:World):
  Calls Tryz.prog 70 #[.int .u8 c] w fun e w'=>e= .returned (.bool (dgI c))∧w'=w:=by
 go_enter Tryz.func70,Tryz.ntmps70
 go_wp2
 all_goals
  go_ret
  refine ⟨Ay ?_,rfl⟩;rw[Bool.eq_iff_iff]
  simp_all[dgI]
  try omega
structure An (w:World) (b:Nat) (cs:Array Value) (t:TypeId):Prop where
 out:w.heap[b]? =some (.cells cs t (0,0))
theorem An.lt {w:World}{b:Nat}{cs:Array Value}{t:TypeId}(h:An w b cs t):b < w.heap.size:=(Array.getElem?_eq_some_iff.1 h.out).1
theorem An.below {w w':World}{B b:Nat}{cs:Array Value}{t:TypeId}(h:An w b cs t)(a:Below B w w')(c:b < B):An w' b cs t:=⟨(a.block b c).trans h.out⟩
theorem An.after {w w':World}{B b:Nat}{cs:Array Value}{t:TypeId}(h:An w b cs t)(a:Below B w w')(c:w.heap.size≤B):An w' b cs t:=h.below a (Nat.lt_of_lt_of_le h.lt c)
theorem An.alloc {w:World}{b:Nat}{cs:Array Value}{t:TypeId}(h:An w b cs t)(a:Obj):An (w.alloc a) b cs t:=⟨(Below.heap_alloc w a b h.lt).trans h.out⟩
theorem An.new (w:World)(cs:Array Value)(t:TypeId):An (w.alloc (.cells cs t)) w.heap.size cs t:=⟨heap_alloc_new w _⟩
theorem An.set {w:World}{b:Nat}{cs:Array Value}{t:TypeId}(h:An w b cs t)(j:Nat)(u:Value):An (w.setCell ⟨b,j,none⟩ u) b (cs.setIfInBounds j u) t:=⟨heap_setCell_same w b j cs t u h.out⟩
theorem An.setFar {w:World}{b:Nat}{cs:Array Value}{t:TypeId}(h:An w b cs t){p:Addr}(a:b≠p.block)(u:Value):An (w.setCell p u) b cs t:=⟨(heap_setCell_other w p b u a).trans h.out⟩
theorem An.cell {w:World}{b:Nat}{cs:Array Value}{t:TypeId}(h:An w b cs t)(j:Nat):w.cell? ⟨b,j,none⟩=cs[j]? :=by
 have:=cell_of_row w b j cs t (0,0) h.out;simpa using this
theorem An.frozen {w:World}{b:Nat}{cs:Array Value}{t:TypeId}(h:An w b cs t)(j:Nat):w.frozen? ⟨b,j,none⟩=false:=frozen_of_row w b j cs t h.out
def BN (W:World) (b:Nat) (v0 v1 v2 v3:Value):World:=(((W.setCell ⟨b,0,none⟩ v0).setCell ⟨b,1,none⟩ v1).setCell ⟨b,2,none⟩ v2).setCell ⟨b,3,none⟩ v3
theorem GN (a:World)(b k:Nat)(c d f g:Value)(h:k≠b):(BN a b c d f g).heap[k]? =a.heap[k]? :=by
 unfold BN;rw[heap_setCell_other _ _ _ _ h,heap_setCell_other _ _ _ _ h,heap_setCell_other _ _ _ _ h,heap_setCell_other _ _ _ _ h]
theorem Aw {g:World}{b:Nat}{i j k l:Value}{t:TypeId}(h:An g b #[i,j,k,l] t)(a c d f:Value):An (BN g b a c d f) b #[a,c,d,f] t:=by
 have e:((((#[i,j,k,l].setIfInBounds 0 a).setIfInBounds 1 c).setIfInBounds 2 d).setIfInBounds 3 f)= #[a,c,d,f]:=rfl;have:=(((h.set 0 a).set 1 c).set 2 d).set 3 f;rw[e] at this;exact this
theorem Aj {B:Nat}{w c:World}{b:Nat}(h:Below B w c)(a:B≤b)(d f g i:Value):Below B w (BN c b d f g i):=
 (((h.setCell (p:=⟨b,0,none⟩) a d).setCell (p:=⟨b,1,none⟩) a f).setCell (p:=⟨b,2,none⟩) a g).setCell (p:=⟨b,3,none⟩) a i
def Zl (ss:List ByteArray):Nat:=(ss.map ByteArray.size).sum
theorem Ek {k:IntKind}{a b:Int}(h:a=b):Ending.returned (.int k a)= .returned (.int k b):=by rw[h]
theorem Bg.of_owns {w:World}{k e:Nat}{a:Option Addr}{n c:Nat}{b:List ByteArray}(h:w.ownsRow k e 1 (.slice a n c) n (b.map Value.string))(hs:∀ j,j < n→(EP b j).size≤maxLen):
  Bg w a n c b:=by
 have f:b.length=n:=by simpa using h.1
 have l:=h;rcases h.2 with ⟨d,h0⟩ | ⟨g,cap,q,d,r,m,o,p,s,t⟩
 ·simp only[Value.slice.injEq] at d;obtain ⟨rfl,rfl,rfl⟩:=d;exact ⟨f.symm,NLN,Nat.zero_le _,hs,fun j i=>by omega⟩
 ·simp only[Value.slice.injEq,true_and] at d;obtain ⟨rfl,rfl⟩:=d;refine ⟨f.symm,o,p,hs,fun j i=>⟨g,0,rfl, ?_, ?_⟩⟩
  ·exact (Array.getElem?_eq_some_iff.1 m).1
  ·have:=l.cellAt j (by omega);rw[Nat.zero_add,this,Cf b j (by omega)];simp[f,i]
theorem Kc:(Tryz.prog.info? 9).map (fun i=>(i.zero,i.size,i.bytes))=some (some (.string ByteArray.empty),1,16):=by kernel_rfl
end Go.Proofs.YtdldimphcpojoaaGreatDoor
