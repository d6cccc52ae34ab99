/-
  TK, Sets, Laws0, TN. Own work.
-/
import Derived.Test.YtchakjeegneeoaaGreatDoorMXAA
import Derived.WalkKit
import Derived.RegionTactic
import Derived.ChangeAlike
import Derived.Deep.QuietTactic
import Derived.BigQuiet
import Derived.WalkSpells
import Derived.WalkLawsBesides
namespace Go.Proofs.YtchakjeegneeoaaGreatDoor
open Go.RowKit
def JG (c:Int):Bool:=decide (97≤c∧c≤122)
def Sn (c:UInt8):Bool:=JG (c.toNat:Int)
def ZJ (c:Int):Bool:=JG c || dgI c || decide (c=95)
def Ew (c:UInt8):Bool:=ZJ (c.toNat:Int)
def KO (c:UInt8):Bool:=US (c.toNat:Int)
def Eb (p:UInt8→Bool) (s:ByteArray) (j:Nat):Nat:=j+(((Ap s).drop j).takeWhile p).length
theorem BC (s:ByteArray)(j:Nat)(h:j < s.size):(Ap s).drop j=s[j] ::(Ap s).drop (j+1):=by
 have a:j < (Ap s).length:=by rw[Av];exact h
 rw[zg a];rfl
theorem Fu {p:UInt8→Bool}{s:ByteArray}{j:Nat}(h:j < s.size)(hp:p s[j]=true):Eb p s j=Eb p s (j+1):=by
 rw[Eb,Eb,BC s j h,List.takeWhile_cons,if_pos hp];simp;omega
theorem Ft {p:UInt8→Bool}{s:ByteArray}{j:Nat}(h:j < s.size)(hp:p s[j]=false):Eb p s j=j:=by
 rw[Eb,BC s j h,List.takeWhile_cons,if_neg (by simp[hp])];rfl
theorem GJ {p:UInt8→Bool}{s:ByteArray}{j:Nat}(h:s.size≤j):Eb p s j=j:=by
 rw[Eb,Z5 (by rw[Av];exact h)];rfl
theorem Xj {p:UInt8→Bool}{s:ByteArray}{j:Nat}(h:j≤s.size):j≤Eb p s j∧Eb p s j≤s.size:=by
 rw[Eb];have h1:=(List.takeWhile_prefix p (l:=(Ap s).drop j)).length_le;have h2:((Ap s).drop j).length=s.size - j:=by rw[zp,Av]
 omega
def AR (p:UInt8→Bool) (r:List UInt8):Nat:=(r.takeWhile p).length
theorem GY (p:UInt8→Bool)(r:List UInt8):AR p r≤r.length:=(List.takeWhile_prefix p).length_le
theorem EH (p:UInt8→Bool)(s:ByteArray)(j:Nat):Eb p s j=j+AR p ((Ap s).drop j):=rfl
theorem BR (s:ByteArray)(i j:Nat):Ap (s.extract i j)=((Ap s).drop i).take (j - i):=by
 simp[Ap,ByteArray.data_extract]
theorem Uw (s:ByteArray)(i:Nat):Ap (s.extract i s.size)=(Ap s).drop i:=by
 rw[BR,zq (by rw[zp,Av];exact NLN)]
theorem Ja (p:UInt8→Bool)(s:ByteArray):Eb p s 0=AR p (Ap s):=by simp[EH]
def FJ:List (List UInt8):= [[108,101,116], [119,104,101,110], [101,108,115,101], [100,101,110,121], [103,114,97,110,116], [105,102], [116,104,101,110], [110,111,116], [97,110,100], [111,114], [105,110], [119,105,116,104,105,110], [115,105,122,101], [116,114,117,101], [102,97,108,115,101]]
def Gz (l:List UInt8):Bool:=FJ.contains l
def Dp:List (List UInt8):= [[61,62], [61,61], [33,61], [60,61]]
def El:List UInt8:= [60,43,45,42,47,37,124,38,92,40,41,123,125,44,59,61]
inductive Pm where
 |bad (code:Int)
 |tok (kind num:Int) (text:List UInt8) (w:Nat)
def Cc (r:List UInt8) (w:Nat):Bool:=match r[w]? with
 |some x=>Sn x || decide (x=95)
 |none=>false
def BN (r:List UInt8):Pm:=
 if 32 < AR Ew r then .bad 3 else .tok (if Gz (r.take (AR Ew r)) then 4 else 3) 0 (r.take (AR Ew r)) (AR Ew r)
def DZ (r:List UInt8):Pm:=
 if 19 < AR DJ r∨Cc r (AR DJ r)=true∨9223372036854775807 < E6 (r.take (AR DJ r)) then .bad 3 else .tok 1 (E6 (r.take (AR DJ r))) [] (AR DJ r)
def Co (r:List UInt8):Pm:=
 if 32 < AR KO r∨r[AR KO r]? ≠some 34 then .bad 3 else .tok 2 0 (r.take (AR KO r)) (AR KO r+2)
def Bl (c:UInt8) (r:List UInt8):Pm:=
 if Dp.contains (r.take 2) then .tok 5 0 (r.take 2) 2 else if El.contains c then .tok 5 0 [c] 1 else .bad 2
def Ek:List UInt8→Pm
 | []=> .bad 0
 |c ::r=>if Sn c then BN (c ::r) else if DJ c then DZ (c ::r) else if c=34 then Co r else Bl c (c ::r)
structure Af where
 kind:Int
 num:Int
 text:ByteArray
 at_:Nat
def FT:Bool→List UInt8→List UInt8
 |_, []=> []
 |false,c ::r=>if c=32∨c=10∨c=9 then FT false r else if c=35 then FT true r else c ::r
 |true,c ::r=>if c=10 then FT false r else FT true r
theorem JA:∀ (o:Bool) (l:List UInt8),(FT o l).length≤l.length
 |_, []=>by simp[FT]
 |false,c ::r=>by
  rw[FT];split
  ·have:=JA false r;simp;omega
  ·split
   ·have:=JA true r;simp;omega
   ·exact NLN
 |true,c ::r=>by
  rw[FT];split
  ·have:=JA false r;simp;omega
  ·have:=JA true r;simp;omega
theorem IG:∀ (o:Bool) (l:List UInt8),FT false (FT o l)=FT o l
 |_, []=>by simp[FT]
 |false,c ::r=>by
  rw[FT];split
  ·exact IG false r
  ·split
   ·exact IG true r
   ·rw[FT,if_neg (by assumption),if_neg (by assumption)]
 |true,c ::r=>by
  rw[FT];split
  ·exact IG false r
  ·exact IG true r
structure Res where
 toks:List Af
 code:Int
 at_:Nat
def BY (n:Nat):Nat→List UInt8→List Af→Res
 | 0,_,out=>⟨out,0,0⟩
 |f+1,l,out=>match FT false l with
  | []=>⟨out,0,0⟩
  |c ::r=>match Ek (c ::r) with
   | .bad code=>⟨[],code,n - (r.length+1)⟩
   | .tok k m s w=>BY n f ((c ::r).drop w) (out ++ [⟨k,m,AB s,n - (r.length+1)⟩])
theorem Qz (n f:Nat)(l:List UInt8)(out:List Af):BY n f (FT false l) out=BY n f l out:=by
 cases f with
 |zero=>rfl
 |succ f=>rw[BY,BY,IG]
theorem Ea (n f:Nat){l a:List UInt8}(h:FT false l=FT false a)(out:List Af):BY n f l out=BY n f a out:=by
 rw[← Qz,h,Qz]
def AI (t:ByteArray):Res:=if 4000 < t.size then ⟨[],1,0⟩ else BY t.size (t.size+1) (Ap t) []
def Pm.okW:Pm→List UInt8→Prop
 | .bad _,_=>True
 | .tok _ _ s w,r=>1≤w∧w≤r.length∧s.length≤w
theorem J2 {p:UInt8→Bool}{c:UInt8}{r:List UInt8}(h:p c=true): 1≤AR p (c ::r):=by
 rw[AR,List.takeWhile_cons,if_pos h];simp
theorem J0 (r:List UInt8):(Ek r).okW r:=by
 cases r with
 |nil=>simp[Ek,Pm.okW]
 |cons c r=>
  rw[Ek];split
  case isTrue h=>
   rw[BN];split
   ·exact trivial
   ·have h1:=J2 (p:=Ew) (c:=c) (r:=r) (by rw[Ew,ZJ];rw[Sn] at h;simp[h]);have h2:=GY Ew (c ::r);exact ⟨h1,h2,by rw[zb];omega⟩
  case isFalse h=>
   split
   case isTrue h=>
    rw[DZ];split
    ·exact trivial
    ·exact ⟨J2 h,GY _ _,zF _⟩
   case isFalse h=>
    split
    case isTrue h=>
     rw[Co];split
     ·exact trivial
     ·rename_i h1;rw[not_or,Decidable.not_not] at h1;have h2:=(ze.1 h1.2).1;exact ⟨by omega,by simp;omega,by rw[zb];omega⟩
    case isFalse h=>
     rw[Bl];split
     case isTrue h=>
      have h2: 2≤(c ::r).length:=by
       cases r with
       |nil=>exfalso;revert h;simp[Dp]
       |cons d r=>simp
      exact ⟨by omega,h2,by rw[zb];omega⟩
     case isFalse h=>
      split
      ·exact ⟨by omega,by simp,by simp⟩
      ·exact trivial
theorem Qy {n f:Nat}{c:UInt8}{r:List UInt8}{out:List Af}{k m:Int}{s:List UInt8}{w:Nat}(a:FT false (c ::r)=c ::r)(h:Ek (c ::r)= .tok k m s w):
  BY n (f+1) (c ::r) out=BY n f ((c ::r).drop w) (out ++ [⟨k,m,AB s,n - (r.length+1)⟩]):=by
 rw[BY,a];simp only[h]
theorem Qx {n f:Nat}{c:UInt8}{r:List UInt8}{out:List Af}{code:Int}(a:FT false (c ::r)=c ::r)(h:Ek (c ::r)= .bad code):
  BY n (f+1) (c ::r) out=⟨[],code,n - (r.length+1)⟩:=by
 rw[BY,a];simp only[h]
theorem LI {n f:Nat}{out:List Af} :BY n f [] out=⟨out,0,0⟩:=by
 cases f <;> simp[BY,FT]
def EU (ss:List ByteArray) (k:Nat):ByteArray:=ss.getD k ByteArray.empty
theorem Cv (a:List ByteArray)(k:Nat)(h:k < a.length):EU a k=a[k]:=by
 simp[EU,List.getD,h]
structure Bg (w:World) (a:Option Addr) (n c:Nat) (ss:List ByteArray):Prop where
 len:n=ss.length
 cap:n≤c
 small:c≤maxLen
 sizes:∀ j,j < n→(EU ss j).size≤maxLen
 cells:∀ j,j < n→∃ b off,a=some ⟨b,off,none⟩∧b < w.heap.size∧w.cell? ⟨b,off+j,none⟩=some (.string (EU ss j))
theorem Bg.below {w w':World}{B:Nat}{a:Option Addr}{n c:Nat}{d:List ByteArray}(h:Bg w a n c d)(f:Below B w w')(hB:w.heap.size≤B):Bg w' a n c d:=
 ⟨h.len,h.cap,h.small,h.sizes,fun j k=>by
  obtain ⟨b,g,l,i,hc⟩:=h.cells j k;exact ⟨b,g,l,zM i f.size,by rw[← hc];exact f.cell (p:=⟨b,g+j,none⟩) (zM i hB)⟩⟩
theorem Bg.at {w:World}{a:Option Addr}{n c:Nat}{g:List ByteArray}(h:Bg w a n c g)(k: 0 < n):
  ∃ b d,a=some ⟨b,d,none⟩∧b < w.heap.size∧∀ j,j < n→w.cell? ⟨b,d+j,none⟩=some (.string (EU g j)):=by
 obtain ⟨b,d,i,l,_⟩:=h.cells 0 k;refine ⟨b,d,i,l,fun j m=>?_⟩;obtain ⟨p,q,f,_,o⟩:=h.cells j m;rw[i] at f;simp only[Option.some.injEq,Addr.mk.injEq,and_true] at f;obtain ⟨rfl,rfl⟩:=f;exact o
def sl (a b:ByteArray):Bool:=Op.bytesLess a.toList b.toList
theorem Ks:∀ (x y:List UInt8),Op.bytesLess x y=decide (x < y)
 | [], []=>by simp[Op.bytesLess]
 |_ ::_, []=>by simp[Op.bytesLess]
 | [],_ ::_=>by simp[Op.bytesLess]
 |a ::x,b ::y=>by
  rw[Op.bytesLess,Ks x y];simp only[List.cons_lt_cons_iff];by_cases h1:a < b <;> by_cases h2:a=b <;> by_cases h3:x < y <;> simp[h1,h2,h3]
theorem Na (a b:ByteArray):sl a b=true↔a.data.toList < b.data.toList:=by
 rw[sl,Ks,za,za];simp
theorem H7 {a b c:ByteArray}(h:sl a b=true)(k:sl b c=true):sl a c=true:=by
 rw[Na] at *;exact List.lt_trans h k
theorem Ec (a:ByteArray):sl a a=false:=by
 rw[z2];intro h;rw[Na] at h;exact List.lt_irrefl _ h
theorem Qq {a b:ByteArray}(h:a.data.toList=b.data.toList):a=b:=by
 cases a with | mk x=>cases b with | mk y=>cases x;cases y;simp at h;subst h;rfl
theorem UW (a b:ByteArray)(h1:sl a b=false)(h2:sl b a=false):a=b:=by
 apply Qq;rw[z2] at h1 h2;rw[Ne,Na] at h1 h2;exact List.le_antisymm (List.not_lt.1 h2) (List.not_lt.1 h1)
theorem Nb {a b:ByteArray}(h:sl a b=true):sl b a=false:=by
 rw[z2];intro k;have:=H7 h k;rw[Ec] at this;cases this
def FU (ss:List ByteArray):Bool:=decide (ss.Pairwise fun a b=>sl a b=true)
def NI (ss:List ByteArray):Bool:=ss.all vnB
def JC (ss:List ByteArray):Bool:=decide (ss.length≤64) && (NI ss && FU ss)
theorem Uo (a:List ByteArray):NI a=true↔∀ j,j < a.length→vnB (EU a j)=true:=by
 rw[NI,z6];constructor
 ·intro h j b;rw[Cv a j b];exact h _ (zO b)
 ·intro h x hx;obtain ⟨j,b,rfl⟩:=Z1 hx;rw[← Cv a j b];exact h j b
theorem Xi (a:List ByteArray)(h:∀ j,j < a.length→vnB (EU a j)=true):NI a=true:=(Uo a).2 h
theorem Up (a:List ByteArray)(j:Nat)(b:j < a.length)(h:vnB (EU a j)=false):NI a=false:=by
 rw[z2];intro k;rw[(Uo a).1 k j b] at h;cases h
theorem On (a:List ByteArray):FU a=true↔∀ i j,i < j→j < a.length→sl (EU a i) (EU a j)=true:=by
 rw[FU,zG,List.pairwise_iff_getElem];constructor
 ·intro h i j c b;rw[Cv a i (by omega),Cv a j b];exact h i j (by omega) b c
 ·intro h i j hi b c;rw[← Cv a i hi,← Cv a j b];exact h i j c b
theorem Uq (a:List ByteArray)(i j:Nat)(b:i < j)(c:j < a.length)(h:sl (EU a i) (EU a j)=false):FU a=false:=by
 rw[z2];intro k;rw[(On a).1 k i j b c] at h;cases h
theorem Aa4 (a:List ByteArray)(n:Nat)(h:∀ i,0 < i→i < n→sl (EU a (i - 1)) (EU a i)=true):∀ d i,i+d+1 < n→sl (EU a i) (EU a (i+d+1))=true:=by
 intro d
 induction d with
 |zero=>intro i hi;have:=h (i+1) (by omega) hi;simpa using this
 |succ d b=>
  intro i hi;have h1:=b i (by omega);have h2:=h (i+(d+1)+1) (by omega) hi;rw[show i+(d+1)+1 - 1=i+d+1 from by omega] at h2;exact H7 h1 h2
theorem RU (a:List ByteArray)(h:∀ i,0 < i→i < a.length→sl (EU a (i - 1)) (EU a i)=true):FU a=true:=by
 rw[On];intro i j b c;have:=Aa4 a a.length h (j - i - 1) i (by omega);rw[show i+(j - i - 1)+1=j from by omega] at this;exact this
theorem Qr (a:List ByteArray)(h: 64 < a.length):JC a=false:=by
 have: ¬ a.length≤64:=by omega
 simp[JC,this]
theorem JD (a:List ByteArray)(h:a.length≤64):JC a=(NI a && FU a):=by
 simp[JC,h]
theorem Fg {k:IntKind}{a b:Int}(h:a=b):Ending.returned (.int k a)= .returned (.int k b):=by rw[h]
theorem Bg.of_owns {w:World}{k e:Nat}{a:Option Addr}{n c:Nat}{b:List ByteArray}(h:w.ownsRow k e 1 (.slice a n c) n (b.map Value.string))(hs:∀ j,j < n→(EU b j).size≤maxLen):
  Bg w a n c b:=by
 have f:b.length=n:=by simpa using h.1
 have l:=h;rcases h.2 with ⟨d,h0⟩ | ⟨g,cap,q,d,r,m,o,p,s,t⟩
 ·simp only[Value.slice.injEq] at d;obtain ⟨rfl,rfl,rfl⟩:=d;exact ⟨f.symm,NLN,zF _,hs,fun j i=>by omega⟩
 ·simp only[Value.slice.injEq,true_and] at d;obtain ⟨rfl,rfl⟩:=d;refine ⟨f.symm,o,p,hs,fun j i=>⟨g,0,rfl, ?_, ?_⟩⟩
  ·exact (yC.1 m).1
  ·have:=l.cellAt j (by omega);rw[zX,this,Cv b j (by omega)];simp[f,i]
theorem M8:(Tryz.prog.info? 9).map (fun i=>(i.zero,i.size,i.bytes))=some (some (.string ByteArray.empty),1,16):=by kernel_rfl
theorem KA:∀ (l:List UInt8) (n:Int),l.foldl (fun n x=>n * 10+((x.toNat:Int) - 48)) n=n * 10 ^ l.length+E6 l
 | [],n=>by simp[E6]
 |x ::xs,n=>by
  have e:E6 (x ::xs)=(0 * 10+((x.toNat:Int) - 48)) * 10 ^ xs.length+E6 xs:=KA xs _;rw[List.foldl_cons,KA xs,e,List.length_cons,Int.pow_succ];rw[Int.add_mul,Int.add_mul];have:n * 10 * 10 ^ xs.length=n * (10 ^ xs.length * 10):=by rw[Int.mul_assoc,Int.mul_comm 10]
  omega
theorem Oy (x:UInt8)(l:List UInt8):E6 (x ::l)=((x.toNat:Int) - 48) * 10 ^ l.length+E6 l:=by
 rw[E6,List.foldl_cons,KA];simp
theorem V9:∀ (a b:List UInt8),a.length=b.length→a.all DJ=true→b.all DJ=true→(a < b↔E6 a < E6 b)
 | [], [],_,_,_=>by simp
 | [],_ ::_,h,_,_=>by simp at h
 |_ ::_, [],h,_,_=>by simp at h
 |x ::xs,y ::ys,h,ha,hb=>by
  have c:xs.length=ys.length:=by simpa using h
  rw[List.all_cons,zI] at ha hb;have d:=V9 xs ys c ha.2 hb.2;obtain ⟨a1,a2⟩:=EB _ xs rfl ha.2;obtain ⟨b1,b2⟩:=EB _ ys rfl hb.2;rw[Oy,Oy,List.cons_lt_cons_iff,d,c];rw[c] at a2;have hp:(0 :Int) < 10 ^ ys.length:=by omega
  generalize (10 :Int) ^ ys.length=p at *;rcases Nat.lt_trichotomy x.toNat y.toNat with e | e | e
  ·have h1:x < y:=UInt8.lt_iff_toNat_lt.2 e;have:((x.toNat:Int) - 48+1) * p≤((y.toNat:Int) - 48) * p:=Int.mul_le_mul_of_nonneg_right (by omega) (by omega);rw[Int.add_mul] at this;constructor
   ·intro _;omega
   ·intro _;exact .inl h1
  ·have h1:x=y:=UInt8.toNat_inj.1 e;subst h1;constructor
   ·rintro (h | ⟨_,h⟩)
    ·exact absurd h (by simp[UInt8.lt_irrefl])
    ·omega
   ·intro h;exact .inr ⟨rfl,by omega⟩
  ·have h1:y < x:=UInt8.lt_iff_toNat_lt.2 e;have:((y.toNat:Int) - 48+1) * p≤((x.toNat:Int) - 48) * p:=Int.mul_le_mul_of_nonneg_right (by omega) (by omega);rw[Int.add_mul] at this;constructor
   ·rintro (h | ⟨h,_⟩)
    ·exfalso;have h2:=UInt8.lt_iff_toNat_lt.1 h;omega
    ·subst h;omega
   ·intro h;omega
def OA:List UInt8:= [57,50,50,51,51,55,50,48,51,54,56,53,52,55,55,53,56,48,55]
theorem Aa8:E6 OA=9223372036854775807:=by decide
theorem EP (p:UInt8→Bool)(r:List UInt8):(r.take (AR p r)).all p=true:=by
 have:r.take (AR p r)=r.takeWhile p:=by
  obtain ⟨t,ht⟩:=List.takeWhile_prefix p (l:=r);rw[AR];have e:(r.takeWhile p ++t).take (r.takeWhile p).length=r.takeWhile p:=by simp
  rw[ht] at e;exact e
 rw[this,List.all_takeWhile]
theorem Mk (k:Nat)(d:List UInt8)(h:d.all DJ=true): 0≤E6 (d.take k)∧E6 (d.take k)≤E6 d:=by
 have h1:(d.take k).all DJ=true:=by rw[z6] at h ⊢;exact fun x hx=>h x (List.mem_of_mem_take hx)
 have h2:(d.drop k).all DJ=true:=by rw[z6] at h ⊢;exact fun x hx=>h x (List.mem_of_mem_drop hx)
 obtain ⟨a1,_⟩:=EB _ _ rfl h1;obtain ⟨b1,b2⟩:=EB _ _ rfl h2;refine ⟨a1, ?_⟩
 conv=>rhs;rw[← z1 k d,E6,zt,KA]
 have hp:(1 :Int)≤10 ^ (d.drop k).length:=by omega
 have:=Int.mul_le_mul_of_nonneg_left hp a1;have e:E6 (d.take k)=List.foldl (fun n x=>n * 10+((x.toNat:Int) - 48)) 0 (d.take k):=rfl;rw[← e];omega
end Go.Proofs.YtchakjeegneeoaaGreatDoor
