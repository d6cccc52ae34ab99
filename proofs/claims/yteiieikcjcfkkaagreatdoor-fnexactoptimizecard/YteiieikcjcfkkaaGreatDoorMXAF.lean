import Derived.Test.YteiieikcjcfkkaaGreatDoorMXAE
import Derived.Test.YteiieikcjcfkkaaGreatDoorMXAB
open Go.Proofs.Tryz
open Option renaming none->T,some->X
open Go.Value renaming int->U,string->Q
open Go renaming World->Z,Value->R,Calls->jE,maxLen->jM
open Bool renaming true->jA,false->jC
open Go.Ending renaming returned->jH
open Go.Proofs.Tryz renaming prog->j4
namespace Go.Proofs.YteiieikcjcfkkaaGreatDoor
set_option maxHeartbeats 6400000
open Go.RowKit
set_option linter.unusedVariables false
variable {s:ByteArray}{L:List (List UInt8)}{x:List UInt8}{k:Nat}{w:Z}
theorem XS {l:List UInt8} :NM l=jA↔l∈GL:=by rw[NM,List.contains_iff_mem]
theorem Ca (h:(s.toList==x)=jA)(hx:x∈GL):NM (GK s)=jA:=by
 rw[zM,zw]at h;rw[XS,GK,h];exact hx
theorem AcI (h:∀x∈GL,(s.toList==x)=jC):NM (GK s)=jC:=by
 cases a:NM (GK s)
 ·rfl
 ·have:=h _ (XS.1 a);rw[zw,GK]at this;simp at this
theorem ZK (s:ByteArray)(w:Z):
  jE j4 164 #[Q s] w fun e w'=>e=jH (.bool (NM (GK s)))/\w'=w:=by
 rcases z2 (s.toList==[108,101,116])with h0|h0
 ·rw[Ca h0 (by decide)];go_enter func164,ntmps164
  go_wp2
  go_ret
  exact⟨rfl,rfl⟩
 rcases z2 (s.toList==[119,104,101,110])with h1|h1
 ·rw[Ca h1 (by decide)];go_enter func164,ntmps164
  go_wp2
  go_ret
  exact⟨rfl,rfl⟩
 rcases z2 (s.toList==[101,108,115,101])with h2|h2
 ·rw[Ca h2 (by decide)];go_enter func164,ntmps164
  go_wp2
  go_ret
  exact⟨rfl,rfl⟩
 rcases z2 (s.toList==[100,101,110,121])with h3|h3
 ·rw[Ca h3 (by decide)];go_enter func164,ntmps164
  go_wp2
  go_ret
  exact⟨rfl,rfl⟩
 rcases z2 (s.toList==[103,114,97,110,116])with h4|h4
 ·rw[Ca h4 (by decide)];go_enter func164,ntmps164
  go_wp2
  go_ret
  exact⟨rfl,rfl⟩
 rcases z2 (s.toList==[105,102])with h5|h5
 ·rw[Ca h5 (by decide)];go_enter func164,ntmps164
  go_wp2
  go_ret
  exact⟨rfl,rfl⟩
 rcases z2 (s.toList==[116,104,101,110])with h6|h6
 ·rw[Ca h6 (by decide)];go_enter func164,ntmps164
  go_wp2
  go_ret
  exact⟨rfl,rfl⟩
 rcases z2 (s.toList==[110,111,116])with h7|h7
 ·rw[Ca h7 (by decide)];go_enter func164,ntmps164
  go_wp2
  go_ret
  exact⟨rfl,rfl⟩
 rcases z2 (s.toList==[97,110,100])with h8|h8
 ·rw[Ca h8 (by decide)];go_enter func164,ntmps164
  go_wp2
  go_ret
  exact⟨rfl,rfl⟩
 rcases z2 (s.toList==[111,114])with h9|h9
 ·rw[Ca h9 (by decide)];go_enter func164,ntmps164
  go_wp2
  go_ret
  exact⟨rfl,rfl⟩
 rcases z2 (s.toList==[105,110])with h10|h10
 ·rw[Ca h10 (by decide)];go_enter func164,ntmps164
  go_wp2
  go_ret
  exact⟨rfl,rfl⟩
 rcases z2 (s.toList==[119,105,116,104,105,110])with h11|h11
 ·rw[Ca h11 (by decide)];go_enter func164,ntmps164
  go_wp2
  go_ret
  exact⟨rfl,rfl⟩
 rcases z2 (s.toList==[115,105,122,101])with h12|h12
 ·rw[Ca h12 (by decide)];go_enter func164,ntmps164
  go_wp2
  go_ret
  exact⟨rfl,rfl⟩
 rcases z2 (s.toList==[116,114,117,101])with h13|h13
 ·rw[Ca h13 (by decide)];go_enter func164,ntmps164
  go_wp2
  go_ret
  exact⟨rfl,rfl⟩
 rcases z2 (s.toList==[102,97,108,115,101])with h14|h14
 ·rw[Ca h14 (by decide)];go_enter func164,ntmps164
  go_wp2
  go_ret
  exact⟨rfl,rfl⟩
 rw[AcI (s:=s) (by
  intro x hx;simp only[GL,zP,List.not_mem_nil,or_false]at hx;rcases hx with rfl|rfl|rfl|rfl|rfl|rfl|rfl|rfl|rfl|rfl|rfl|rfl|rfl|rfl|rfl<;>assumption)]
 go_enter func164,ntmps164
 go_wp2
 go_ret
 exact⟨rfl,rfl⟩
set_option maxHeartbeats 1600000
def U4 (L:List (List UInt8)):Array R:=(L.map fun l=>Q (ofL l)).toArray
theorem AcG (h:L[k]? =X x):(U4 L)[k]? =X (Q (ofL x)):=by
 simp[U4,h]
theorem U7 (h:(s.toList==(ofL x).toList)=jA):GK s=x:=by
 rw[zM,zw,zw]at h;exact h
theorem SK (h:(s.toList==(ofL x).toList)=jC):GK s≠x:=by
 rw[zA,zw,zw]at h;exact h
def Lt (L:List (List UInt8)) (k:Nat) (l:List UInt8):Prop:=∀i,i<k->L[i]? ≠X l
theorem Lt.next {l x:List UInt8}(h:Lt L k l)(hx:L[k]? =X x)(a:l≠x):Lt L (k+1) l:=fun i hi e=>by
 by_cases b:i=k
 ·subst b;rw[hx]at e;exact a (Option.some.inj e).symm
 ·exact h i (by omega) e
theorem Lt.all {l:List UInt8}(h:Lt L L.length l):L.contains l=jC:=by
 rw[<-Bool.not_eq_true,List.contains_iff_mem];intro hm;obtain⟨i,hi,e⟩:=zy hm;exact h i hi (by rw[zG hi,e])
theorem AcH (h:L[k]? =X x):L.contains x=jA:=by
 rw[List.contains_iff_mem];exact zp h
theorem ZJ (s:ByteArray)(w:Z):
  jE j4 121 #[Q s] w fun e w'=>e=jH (.bool (NM (GK s)))/\Ah w w':=by
 have R:Ag (w.alloc (.cells #[Q ⟨#[108,101,116]⟩,Q ⟨#[119,104,101,110]⟩,Q ⟨#[101,108,115,101]⟩,Q ⟨#[100,101,110,121]⟩,Q ⟨#[103,114,97,110,116]⟩,Q ⟨#[105,102]⟩,Q ⟨#[116,104,101,110]⟩,Q ⟨#[110,111,116]⟩,Q ⟨#[97,110,100]⟩,Q ⟨#[111,114]⟩,Q ⟨#[105,110]⟩,Q ⟨#[119,105,116,104,105,110]⟩,Q ⟨#[115,105,122,101]⟩,Q ⟨#[116,114,117,101]⟩,Q ⟨#[102,97,108,115,101]⟩] 9)) w.heap.size (U4 GL) 9:=Ag.new w (U4 GL) 9;have c:=Av w (.cells #[Q ⟨#[108,101,116]⟩,Q ⟨#[119,104,101,110]⟩,Q ⟨#[101,108,115,101]⟩,Q ⟨#[100,101,110,121]⟩,Q ⟨#[103,114,97,110,116]⟩,Q ⟨#[105,102]⟩,Q ⟨#[116,104,101,110]⟩,Q ⟨#[110,111,116]⟩,Q ⟨#[97,110,100]⟩,Q ⟨#[111,114]⟩,Q ⟨#[105,110]⟩,Q ⟨#[119,105,116,104,105,110]⟩,Q ⟨#[115,105,122,101]⟩,Q ⟨#[116,114,117,101]⟩,Q ⟨#[102,97,108,115,101]⟩] 9);go_enter func121,ntmps121
 go_wp2
 generalize w.alloc (.cells #[Q ⟨#[108,101,116]⟩,Q ⟨#[119,104,101,110]⟩,Q ⟨#[101,108,115,101]⟩,Q ⟨#[100,101,110,121]⟩,Q ⟨#[103,114,97,110,116]⟩,Q ⟨#[105,102]⟩,Q ⟨#[116,104,101,110]⟩,Q ⟨#[110,111,116]⟩,Q ⟨#[97,110,100]⟩,Q ⟨#[111,114]⟩,Q ⟨#[105,110]⟩,Q ⟨#[119,105,116,104,105,110]⟩,Q ⟨#[115,105,122,101]⟩,Q ⟨#[116,114,117,101]⟩,Q ⟨#[102,97,108,115,101]⟩] 9)=f at R c|-;go_loop [7] (fun i=>∃k:Nat,k<=15/\i=U .i64 k/\Lt GL k (GK s)) (fun i=>15-(intOf i).toNat)
 case atStart=>exact⟨0,by omega,rfl,fun i hi=>by omega⟩
 case round=>
  obtain⟨k,g,rfl,a⟩:=hrel;by_cases d:k<15
  ·have j:(k:Int)<15:=by omega
   obtain⟨x,hx⟩:∃x,GL[k]? =X x:=⟨GL[k]'d,zG d⟩
   have hc:=(R.cell k).trans (AcG hx);rcases z2 (s.toList==(ofL x).toList)with h|h
   ·have b:=Ab (show NM (GK s)=jA by rw[U7 h];exact AcH hx);clear a hx;go_wp2
    go_ret
    exact⟨Ad (Aa b).symm,c⟩
   ·have b:=Ab (a.next hx (SK h));clear a hx;go_wp2
    go_round
    case rel=>exact⟨k+1,by omega,by go_num,Aa b⟩
    case measure=>simp[intOf];omega
  ·have e:k=15:=by omega
   subst e;have b:=Ab (show NM (GK s)=jC from Lt.all a);clear a;go_wp2
   go_ret
   exact⟨Ad (Aa b).symm,c⟩
theorem AcJ (p:UInt8->Bool)(a:List UInt8):JM p a=a.length↔a.all p=jA:=by
 constructor
 ·intro h;have:=Aft p a
  rwa[h,Z2]at this
 ·intro h;have e:a.takeWhile p=a:=by
   induction a with
   |nil=>rfl
   |cons c a b=>
    rw[List.all_cons,zF]at h;rw[List.takeWhile_cons,if_pos h.1,b h.2]
  rw[JM,e]
theorem T8 (h0: 0<s.size):Dm s=(decide (s.size<=32)&&Yq (s[0].toNat:Int)&&decide (JM OA (GK s)=s.size)&& !NM (GK s)):=by
 have h:=NK s 0 h0;rw[List.drop_zero]at h;have a:(GK s).length=s.size:=ME s;have b:decide (JM OA (GK s)=s.size)=(GK s).all OA:=by rw[<-a,zO,decide_eq_true_iff];exact AcJ OA (GK s)
 rw[b,<-a];generalize (GK s).drop (0+1)=q at h;rw[Dm,h];rfl
theorem OB (h0:s.size=0):Dm s=jC:=by
 have:GK s=[]:=z9 (by rw[ME];exact h0);rw[Dm,this]
theorem Gr (s:ByteArray)(w:Z)(hs:s.size<=1048576):
  jE j4 76 #[Q s] w fun e w'=>e=jH (.bool (Dm s))/\Ah w w':=by
 by_cases h0:s.size=0
 ·have m: ¬ ((0 :Int)<(s.size:Int)):=by omega
  rw[OB h0];go_enter func76,ntmps76
  go_wp2
  go_ret
  exact⟨rfl,BRN⟩
 have hp: 0<s.size:=by omega
 have c:=Ab (T8 hp);by_cases g:s.size<=32
 case neg=>
  have k: ¬ ((s.size:Int)<=32):=by omega
  go_enter func76,ntmps76
  go_wp2
  go_ret
  exact⟨Ad (by rw[Aa c];simp[g]),BRN⟩
 have k:(s.size:Int)<=32:=by omega
 cases d:Yq (s[0].toNat:Int)
 ·have b:=Ab d;clear d;go_enter func76,ntmps76
  go_wp2_with (go_at_call 119;refine(CP _ _).mono ?_;rintro e w' ⟨rfl,a⟩;rw[Aa b,a];clear a)
  go_ret
  exact⟨Ad (by rw[Aa c,Aa b];simp),BRN⟩
 have b:=Ab d;clear d;have h:=Ab (NH OA s);by_cases i:JM OA (GK s)=s.size
 ·have l:(((JM OA (GK s):Nat):Int)==(s.size:Int))=jA:=zM.2 (by omega);go_enter func76,ntmps76
  go_wp2_with (first|(go_at_call 119;refine(CP _ _).mono ?_;rintro e w' ⟨rfl,a⟩;rw[Aa b,a];clear a)|(go_at_call 120;refine(TZ s 0 _ (by unfold jM;omega) (by omega)).mono ?_;rintro e w' ⟨rfl,a⟩;rw[Aa h,a];clear a))
  refine(ZJ s _).mono ?_;rintro e n ⟨rfl,j⟩;cases a:NM (GK s)
  ·have f:=Ab a;clear a;go_wp2
   go_ret
   exact⟨Ad (by rw[Aa c,Aa b,Aa f];simp[g,i]),j⟩
  ·have f:=Ab a;clear a;go_wp2
   go_ret
   exact⟨Ad (by rw[Aa c,Aa f];simp),j⟩
 ·have l:(((JM OA (GK s):Nat):Int)==(s.size:Int))=jC:=zA.2 (by omega);go_enter func76,ntmps76
  go_wp2_with (first|(go_at_call 119;refine(CP _ _).mono ?_;rintro e w' ⟨rfl,a⟩;rw[Aa b,a];clear a)|(go_at_call 120;refine(TZ s 0 _ (by unfold jM;omega) (by omega)).mono ?_;rintro e w' ⟨rfl,a⟩;rw[Aa h,a];clear a))
  go_ret
  exact⟨Ad (by rw[Aa c];simp[i]),BRN⟩
theorem DT (s:ByteArray)(w:Z)(hs:s.size<=1048576):
  jE j4 132 #[Q s] w fun e w'=>e=jH (.bool (Dm s))/\w'=w:=by
 by_cases h0:s.size=0
 ·rw[OB h0];have he:=GM h0;subst he;go_enter func132,ntmps132
  go_wp2
  go_ret
  exact⟨rfl,rfl⟩
 have hp: 0<s.size:=by omega
 have l:=Ik h0;have c:=Ab (T8 hp);by_cases g:s.size<=32
 case neg=>
  have j: ¬ ((s.size:Int)<=32):=by omega
  go_enter func132,ntmps132
  go_wp2
  go_ret
  exact⟨Ad (by rw[Aa c];simp[g]),rfl⟩
 have j:(s.size:Int)<=32:=by omega
 cases d:Yq (s[0].toNat:Int)
 ·have b:=Ab d;clear d;go_enter func132,ntmps132
  go_wp2_with (go_at_call 161;refine(DB _ _).mono ?_;rintro e w' ⟨rfl,a⟩;rw[Aa b,a];clear a)
  go_ret
  exact⟨Ad (by rw[Aa c,Aa b];simp),rfl⟩
 have b:=Ab d;clear d;by_cases h:JM OA (GK s)=s.size
 ·have k:(((JM OA (GK s):Nat):Int)==(s.size:Int))=jA:=zM.2 (by omega);go_enter func132,ntmps132
  go_wp2_with (first|(go_at_call 161;refine(DB _ _).mono ?_;rintro e w' ⟨rfl,a⟩;rw[Aa b,a];clear a)|(go_at_call 162;refine(XR s _ (by unfold jM;omega)).mono ?_;rintro e w' ⟨rfl,a⟩;rw[a];clear a))
  refine(ZK s _).mono ?_;rintro e m ⟨rfl,i⟩;rw[i];clear i;cases a:NM (GK s)
  ·have f:=Ab a;clear a;go_wp2
   go_ret
   exact⟨Ad (by rw[Aa c,Aa b,Aa f];simp[g,h]),rfl⟩
  ·have f:=Ab a;clear a;go_wp2
   go_ret
   exact⟨Ad (by rw[Aa c,Aa f];simp),rfl⟩
 ·have k:(((JM OA (GK s):Nat):Int)==(s.size:Int))=jC:=zA.2 (by omega);go_enter func132,ntmps132
  go_wp2_with (first|(go_at_call 161;refine(DB _ _).mono ?_;rintro e w' ⟨rfl,a⟩;rw[Aa b,a];clear a)|(go_at_call 162;refine(XR s _ (by unfold jM;omega)).mono ?_;rintro e w' ⟨rfl,a⟩;rw[a];clear a))
  go_ret
  exact⟨Ad (by rw[Aa c];simp[h]),rfl⟩
theorem Lu (s:ByteArray):CJ s=(decide (s.size<=32)&&Ku s.data.toList):=rfl
theorem ZM (s:ByteArray):CJ s=(decide (s.size=0)||vnB s):=by
 rw[Lu,vnB];by_cases h:s.size=0
 ·have e:=GM h;subst e;rfl
 ·rw[show decide (s.size=0)=jC from zJ h,Bool.false_or,show decide (1<=s.size/\s.size<=32)=decide (s.size<=32) by rw[decide_eq_decide];omega]
theorem LJ (s:ByteArray)(w:Z)(hs:s.size<=1048576):
  jE j4 117 #[Q s] w fun e w'=>e=jH (.bool (CJ s))/\w'=w:=by
 by_cases h0:s.size=0
 ·have e:=GM h0;subst e;go_enter func117,ntmps117
  go_wp2
  go_ret
  exact⟨rfl,rfl⟩
 ·have c:=Ik h0;have b:=Ab (show CJ s=vnB s by rw[ZM,zJ h0,Bool.false_or]);go_enter func117,ntmps117
  go_wp2_with (go_at_call 149;refine(Gb _ _ (by unfold jM;omega)).mono ?_;rintro e w' ⟨rfl,a⟩;rw[a];clear a)
  go_ret
  exact⟨Ad (Aa b).symm,rfl⟩
theorem PQ (op:Int)(w:Z):
  jE j4 116 #[U .i64 op] w fun e w'=>e=jH (U .i64 (CI op))/\w'=w:=by
 go_enter func116,ntmps116
 go_wp2
 all_goals
  go_ret
  refine⟨Iz ?_,rfl⟩;unfold CI
  simp_all
  try omega
theorem AP {b:Nat}{a c d f g:Value}{t:TypeId}(R:Ag w b #[a,c,d,f,g] t):w.cell? ⟨b,0,T⟩=X a/\w.cell? ⟨b,1,T⟩=X c/\w.cell? ⟨b,2,T⟩=X d/\w.cell? ⟨b,3,T⟩=X f/\w.cell? ⟨b,4,T⟩=X g/\∀j,w.frozen? ⟨b,j,T⟩=jC:=
 ⟨by simpa using R.cell 0,by simpa using R.cell 1,by simpa using R.cell 2,by simpa using R.cell 3,by simpa using R.cell 4,fun j=>R.frozen j⟩
theorem Ap.drew' {a:Option Addr}{n c:Nat}{ss:List ByteArray}(h:Ap w a n c ss):Ap w.drew a n c ss:=⟨h.len,h.cap,h.small,h.sizes,h.cells⟩
theorem Cs (s:ByteArray):s.toList=[]↔s.size=0:=by
 rw[zw,<-List.length_eq_zero_iff];have:s.data.toList.length=s.size:=by simp
 rw[this]
def ndV (op num:Int) (text:ByteArray) (an:Option Addr) (nn cn:Nat) (ak:Option Addr) (nk ck:Nat):R:= .agg #[U .i64 op,U .i64 num,Q text,.slice an nn cn,.slice ak nk ck]
end Go.Proofs.YteiieikcjcfkkaaGreatDoor
