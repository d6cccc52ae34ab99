/-
  TK, TN. Own work.
-/
import Derived.Test.YtffkofkjpckmpaaGreatDoorMXAC
namespace Go.Proofs.YtffkofkjpckmpaaGreatDoor
open Go.RowKit
def I2 (c:Int):Bool:=decide (97≤c∧c≤122)
def Jt (c:UInt8):Bool:=I2 (c.toNat:Int)
def Vr (c:Int):Bool:=I2 c || dgI c || decide (c=95)
def Dk (c:UInt8):Bool:=Vr (c.toNat:Int)
def Jo (c:UInt8):Bool:=TG (c.toNat:Int)
def DF (p:UInt8→Bool) (s:ByteArray) (j:Nat):Nat:=j+(((Aj s).drop j).takeWhile p).length
theorem BI (s:ByteArray)(j:Nat)(h:j < s.size):(Aj s).drop j=s[j] ::(Aj s).drop (j+1):=by
 have a:j < (Aj s).length:=by rw[At];exact h
 rw[zq a];rfl
theorem Fa {p:UInt8→Bool}{s:ByteArray}{j:Nat}(h:j < s.size)(hp:p s[j]=true):DF p s j=DF p s (j+1):=by
 rw[DF,DF,BI s j h,List.takeWhile_cons,if_pos hp];simp;omega
theorem E9 {p:UInt8→Bool}{s:ByteArray}{j:Nat}(h:j < s.size)(hp:p s[j]=false):DF p s j=j:=by
 rw[DF,BI s j h,List.takeWhile_cons,if_neg (by simp[hp])];rfl
theorem Gp {p:UInt8→Bool}{s:ByteArray}{j:Nat}(h:s.size≤j):DF p s j=j:=by
 rw[DF,List.drop_of_length_le (by rw[At];exact h)];rfl
theorem Wf {p:UInt8→Bool}{s:ByteArray}{j:Nat}(h:j≤s.size):j≤DF p s j∧DF p s j≤s.size:=by
 rw[DF];have h1:=(List.takeWhile_prefix p (l:=(Aj s).drop j)).length_le;have h2:((Aj s).drop j).length=s.size - j:=by rw[zj,At]
 omega
def AR (p:UInt8→Bool) (r:List UInt8):Nat:=(r.takeWhile p).length
theorem GI (p:UInt8→Bool)(r:List UInt8):AR p r≤r.length:=(List.takeWhile_prefix p).length_le
theorem En (p:UInt8→Bool)(s:ByteArray)(j:Nat):DF p s j=j+AR p ((Aj s).drop j):=rfl
theorem BV (s:ByteArray)(i j:Nat):Aj (s.extract i j)=((Aj s).drop i).take (j - i):=by
 simp[Aj,ByteArray.data_extract]
theorem Tl (s:ByteArray)(i:Nat):Aj (s.extract i s.size)=(Aj s).drop i:=by
 rw[BV,zk (by rw[zj,At];exact NLN)]
theorem IJ (p:UInt8→Bool)(s:ByteArray):DF p s 0=AR p (Aj s):=by simp[En]
def Ff:List (List UInt8):= [[108,101,116], [119,104,101,110], [101,108,115,101], [100,101,110,121], [103,114,97,110,116], [105,102], [116,104,101,110], [110,111,116], [97,110,100], [111,114], [105,110], [119,105,116,104,105,110], [115,105,122,101], [116,114,117,101], [102,97,108,115,101]]
def Fc (l:List UInt8):Bool:=Ff.contains l
def BQ:List (List UInt8):= [[61,62], [61,61], [33,61], [60,61]]
def CZ:List UInt8:= [60,43,45,42,47,37,124,38,92,40,41,123,125,44,59,61]
inductive N5 where
 |bad (code:Int)
 |tok (kind num:Int) (text:List UInt8) (w:Nat)
def BH (r:List UInt8) (w:Nat):Bool:=match r[w]? with
 |some x=>Jt x || decide (x=95)
 |none=>false
def Bz (r:List UInt8):N5:=
 if 32 < AR Dk r then .bad 3 else .tok (if Fc (r.take (AR Dk r)) then 4 else 3) 0 (r.take (AR Dk r)) (AR Dk r)
def CX (r:List UInt8):N5:=
 if 19 < AR CK r∨BH r (AR CK r)=true∨9223372036854775807 < DZ (r.take (AR CK r)) then .bad 3 else .tok 1 (DZ (r.take (AR CK r))) [] (AR CK r)
def BP (r:List UInt8):N5:=
 if 32 < AR Jo r∨r[AR Jo r]? ≠some 34 then .bad 3 else .tok 2 0 (r.take (AR Jo r)) (AR Jo r+2)
def Be (c:UInt8) (r:List UInt8):N5:=
 if BQ.contains (r.take 2) then .tok 5 0 (r.take 2) 2 else if CZ.contains c then .tok 5 0 [c] 1 else .bad 2
def BY:List UInt8→N5
 | []=> .bad 0
 |c ::r=>if Jt c then Bz (c ::r) else if CK c then CX (c ::r) else if c=34 then BP r else Be c (c ::r)
structure Ae where
 kind:Int
 num:Int
 text:ByteArray
 at_:Nat
def Dj:Bool→List UInt8→List UInt8
 |_, []=> []
 |false,c ::r=>if c=32∨c=10∨c=9 then Dj false r else if c=35 then Dj true r else c ::r
 |true,c ::r=>if c=10 then Dj false r else Dj true r
theorem Gv:∀ (a:Bool) (l:List UInt8),(Dj a l).length≤l.length
 |_, []=>by simp[Dj]
 |false,c ::r=>by
  rw[Dj];split
  ·have:=Gv false r;simp;omega
  ·split
   ·have:=Gv true r;simp;omega
   ·exact NLN
 |true,c ::r=>by
  rw[Dj];split
  ·have:=Gv false r;simp;omega
  ·have:=Gv true r;simp;omega
theorem Gj:∀ (a:Bool) (l:List UInt8),Dj false (Dj a l)=Dj a l
 |_, []=>by simp[Dj]
 |false,c ::r=>by
  rw[Dj];split
  ·exact Gj false r
  ·split
   ·exact Gj true r
   ·rw[Dj,if_neg (by assumption),if_neg (by assumption)]
 |true,c ::r=>by
  rw[Dj];split
  ·exact Gj false r
  ·exact Gj true r
structure Res where
 toks:List Ae
 code:Int
 at_:Nat
def AE (n:Nat):Nat→List UInt8→List Ae→Res
 | 0,_,out=>⟨out,0,0⟩
 |f+1,l,out=>match Dj false l with
  | []=>⟨out,0,0⟩
  |c ::r=>match BY (c ::r) with
   | .bad code=>⟨[],code,n - (r.length+1)⟩
   | .tok k m s w=>AE n f ((c ::r).drop w) (out ++ [⟨k,m,AB s,n - (r.length+1)⟩])
theorem KM (n f:Nat)(l:List UInt8)(out:List Ae):AE n f (Dj false l) out=AE n f l out:=by
 cases f with
 |zero=>rfl
 |succ f=>rw[AE,AE,Gj]
theorem CI (n f:Nat){l a:List UInt8}(h:Dj false l=Dj false a)(out:List Ae):AE n f l out=AE n f a out:=by
 rw[← KM,h,KM]
def Ay (t:ByteArray):Res:=if 4000 < t.size then ⟨[],1,0⟩ else AE t.size (t.size+1) (Aj t) []
def N5.okW:N5→List UInt8→Prop
 | .bad _,_=>True
 | .tok _ _ s w,r=>1≤w∧w≤r.length∧s.length≤w
theorem Ju {p:UInt8→Bool}{c:UInt8}{r:List UInt8}(h:p c=true): 1≤AR p (c ::r):=by
 rw[AR,List.takeWhile_cons,if_pos h];simp
theorem EJ (r:List UInt8):(BY r).okW r:=by
 cases r with
 |nil=>simp[BY,N5.okW]
 |cons c r=>
  rw[BY];split
  case isTrue h=>
   rw[Bz];split
   ·exact trivial
   ·have h1:=Ju (p:=Dk) (c:=c) (r:=r) (by rw[Dk,Vr];rw[Jt] at h;simp[h]);have h2:=GI Dk (c ::r);exact ⟨h1,h2,by rw[zg];omega⟩
  case isFalse h=>
   split
   case isTrue h=>
    rw[CX];split
    ·exact trivial
    ·exact ⟨Ju h,GI _ _,zN _⟩
   case isFalse h=>
    split
    case isTrue h=>
     rw[BP];split
     ·exact trivial
     ·rename_i h1;rw[not_or,Decidable.not_not] at h1;have h2:=(zX.1 h1.2).1;exact ⟨by omega,by simp;omega,by rw[zg];omega⟩
    case isFalse h=>
     rw[Be];split
     case isTrue h=>
      have h2: 2≤(c ::r).length:=by
       cases r with
       |nil=>exfalso;revert h;simp[BQ]
       |cons d r=>simp
      exact ⟨by omega,h2,by rw[zg];omega⟩
     case isFalse h=>
      split
      ·exact ⟨by omega,by simp,by simp⟩
      ·exact trivial
theorem DJ {n f:Nat}{c:UInt8}{r:List UInt8}{out:List Ae}{k m:Int}{s:List UInt8}{w:Nat}(a:Dj false (c ::r)=c ::r)(h:BY (c ::r)= .tok k m s w):
  AE n (f+1) (c ::r) out=AE n f ((c ::r).drop w) (out ++ [⟨k,m,AB s,n - (r.length+1)⟩]):=by
 rw[AE,a];simp only[h]
theorem KN {n f:Nat}{c:UInt8}{r:List UInt8}{out:List Ae}{code:Int}(a:Dj false (c ::r)=c ::r)(h:BY (c ::r)= .bad code):
  AE n (f+1) (c ::r) out=⟨[],code,n - (r.length+1)⟩:=by
 rw[AE,a];simp only[h]
theorem ID {n f:Nat}{out:List Ae} :AE n f [] out=⟨out,0,0⟩:=by
 cases f <;> simp[AE,Dj]
theorem J9:∀ (l:List UInt8) (n:Int),l.foldl (fun n x=>n * 10+((x.toNat:Int) - 48)) n=n * 10 ^ l.length+DZ l
 | [],n=>by simp[DZ]
 |x ::xs,n=>by
  have e:DZ (x ::xs)=(0 * 10+((x.toNat:Int) - 48)) * 10 ^ xs.length+DZ xs:=J9 xs _;rw[List.foldl_cons,J9 xs,e,List.length_cons,Int.pow_succ];rw[Int.add_mul,Int.add_mul];have:n * 10 * 10 ^ xs.length=n * (10 ^ xs.length * 10):=by rw[Int.mul_assoc,Int.mul_comm 10]
  omega
theorem Nw (x:UInt8)(l:List UInt8):DZ (x ::l)=((x.toNat:Int) - 48) * 10 ^ l.length+DZ l:=by
 rw[DZ,List.foldl_cons,J9];simp
theorem U7:∀ (a b:List UInt8),a.length=b.length→a.all CK=true→b.all CK=true→(a < b↔DZ a < DZ b)
 | [], [],_,_,_=>by simp
 | [],_ ::_,h,_,_=>by simp at h
 |_ ::_, [],h,_,_=>by simp at h
 |x ::xs,y ::ys,h,ha,hb=>by
  have c:xs.length=ys.length:=by simpa using h
  rw[z8,zE] at ha hb;have d:=U7 xs ys c ha.2 hb.2;obtain ⟨a1,a2⟩:=Ef _ xs rfl ha.2;obtain ⟨b1,b2⟩:=Ef _ ys rfl hb.2;rw[Nw,Nw,List.cons_lt_cons_iff,d,c];rw[c] at a2;have hp:(0 :Int) < 10 ^ ys.length:=by omega
  generalize (10 :Int) ^ ys.length=p at *;rcases Nat.lt_trichotomy x.toNat y.toNat with e | e | e
  ·have h1:x < y:=UInt8.lt_iff_toNat_lt.2 e;have:((x.toNat:Int) - 48+1) * p≤((y.toNat:Int) - 48) * p:=Int.mul_le_mul_of_nonneg_right (by omega) (by omega);rw[Int.add_mul] at this;constructor
   ·intro _;omega
   ·intro _;exact .inl h1
  ·have h1:x=y:=UInt8.toNat_inj.1 e;subst h1;constructor
   ·rintro (h | ⟨_,h⟩)
    ·exact absurd h (by simp[UInt8.lt_irrefl])
    ·omega
   ·intro h;exact .inr ⟨rfl,by omega⟩
  ·have h1:y < x:=UInt8.lt_iff_toNat_lt.2 e;have:((y.toNat:Int) - 48+1) * p≤((x.toNat:Int) - 48) * p:=Int.mul_le_mul_of_nonneg_right (by omega) (by omega);rw[Int.add_mul] at this;constructor
   ·rintro (h | ⟨h,_⟩)
    ·exfalso;have h2:=UInt8.lt_iff_toNat_lt.1 h;omega
    ·subst h;omega
   ·intro h;omega
def Nx:List UInt8:= [57,50,50,51,51,55,50,48,51,54,56,53,52,55,55,53,56,48,55]
theorem ZQ:DZ Nx=9223372036854775807:=by decide
theorem Ep (p:UInt8→Bool)(r:List UInt8):(r.take (AR p r)).all p=true:=by
 have:r.take (AR p r)=r.takeWhile p:=by
  obtain ⟨t,ht⟩:=List.takeWhile_prefix p (l:=r);rw[AR];have e:(r.takeWhile p ++t).take (r.takeWhile p).length=r.takeWhile p:=by simp
  rw[ht] at e;exact e
 rw[this,List.all_takeWhile]
theorem LI (k:Nat)(d:List UInt8)(h:d.all CK=true): 0≤DZ (d.take k)∧DZ (d.take k)≤DZ d:=by
 have h1:(d.take k).all CK=true:=by rw[z1] at h ⊢;exact fun x hx=>h x (yF hx)
 have h2:(d.drop k).all CK=true:=by rw[z1] at h ⊢;exact fun x hx=>h x (List.mem_of_mem_drop hx)
 obtain ⟨a1,_⟩:=Ef _ _ rfl h1;obtain ⟨b1,b2⟩:=Ef _ _ rfl h2;refine ⟨a1, ?_⟩
 conv=>rhs;rw[← yG k d,DZ,zo,J9]
 have hp:(1 :Int)≤10 ^ (d.drop k).length:=by omega
 have:=Int.mul_le_mul_of_nonneg_left hp a1;have e:DZ (d.take k)=List.foldl (fun n x=>n * 10+((x.toNat:Int) - 48)) 0 (d.take k):=rfl;rw[← e];omega
end Go.Proofs.YtffkofkjpckmpaaGreatDoor
