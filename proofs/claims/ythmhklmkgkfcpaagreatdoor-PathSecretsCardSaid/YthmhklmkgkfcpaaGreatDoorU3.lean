import Derived.Test.YthmhklmkgkfcpaaGreatDoorU2
import Derived.Lib.TrailingZeros
import Derived.Laws.Bits64b
import Derived.WalkKit
import Derived.Test.YthmhklmkgkfcpaaGreatDoorRows
import Derived.WalkSpells
import Derived.Lib.Hide
import Derived.Outline
import Derived.Lib.SmallJoins
import Derived.RangeFuncNested
import Derived.RangeFuncBound
import Derived.RangeFuncCalls
import Derived.RangeFuncLeaves
import Derived.RangeFuncFrom
import Derived.Shelf.Abstract
import Derived.Shelf.RegionOpen
import Derived.OwnWalkIn
import Derived.TacticsInMore
import Derived.LoopNIn
import Derived.LoopIn
set_option linter.unusedVariables false
set_option linter.unusedSimpArgs false
set_option maxHeartbeats 8000000
set_option maxRecDepth 100000
namespace Go.Proofs.YthmhklmkgkfcpaaGreatDoor
open Go.RowKit
def nd (j q:Nat):Nat:=2 ^ (j+1)*q+2 ^ j - 1
theorem aaC (k:Nat):1≤2 ^ k:=Nat.one_le_two_pow
theorem aaj (k:Nat):2 ^ (k+1)=2*2 ^ k:=by rw[Nat.pow_succ];omega
theorem abK (q:Nat):nd 0 q=2*q:=by unfold nd;simp
theorem agf (j q:Nat):nd (j+1) q=2*nd j q+1:=by
 unfold nd;rw[aaj (j+1),aaj j,Nat.mul_assoc];have:=aaC j;omega
theorem amU (j q:Nat):nd (j+1) q / 2=nd j q:=by rw[agf];omega
theorem afx (j q:Nat):nd (j+1) q % 2=1:=by rw[agf];omega
theorem agh (q:Nat):nd 0 q % 2=0:=by rw[abK];omega
theorem ae7 (j q:Nat):nd (j+1) q - 2 ^ j=nd j (2*q)∧2 ^ j≤nd (j+1) q:=by
 unfold nd;rw[aaj (j+1),aaj j];have:=aaC j;have e:2*(2*2 ^ j)*q=2*2 ^ j*(2*q):=by rw[Nat.mul_comm 2 (2*2 ^ j),Nat.mul_assoc]
 rw[e];omega
theorem aea (j q:Nat):nd (j+1) q+2 ^ j=nd j (2*q+1):=by
 unfold nd;rw[aaj (j+1),aaj j,Nat.mul_add];have:=aaC j;have e:2*(2*2 ^ j)*q=2*2 ^ j*(2*q):=by rw[Nat.mul_comm 2 (2*2 ^ j),Nat.mul_assoc]
 rw[e];omega
theorem afy {j q i r:Nat}(h:nd j q=nd i r):j=i∧q=r:=by
 induction j generalizing i with
 | zero=>
  cases i with
  | zero=>rw[abK,abK] at h;exact ⟨rfl,by omega⟩
  | succ i=>have h1:=agh q;have h2:=afx i r;omega
 | succ j ih=>
  cases i with
  | zero=>have h1:=agh r;have h2:=afx j q;omega
  | succ i=>
   rw[agf,agf] at h
   obtain ⟨h1,h2⟩:=ih (i:=i) (by omega)
   exact ⟨by omega,h2⟩
theorem ahh:∀ (K x:Nat),x<2 ^ (K+1) - 1→∃ j q,x=nd j q∧j≤K∧q<2 ^ (K - j)
 | 0,x,h=>⟨0,0,by simp at h;rw[abK];omega,Nat.le_refl _,by simp⟩
 | K+1,x,h=>by
  by_cases hx:x % 2=0
  ·refine ⟨0,x / 2,by rw[abK];omega,by omega,?_⟩
   rw[aaj] at h
   rw[Nat.sub_zero]
   omega
  ·obtain ⟨j,q,e,hj,hq⟩:=ahh K (x / 2) (by rw[aaj] at h;omega)
   refine ⟨j+1,q,by rw[agf,← e];omega,by omega,?_⟩
   rw[Nat.add_sub_add_right]
   exact hq
theorem ae8 {j q K:Nat}(hj:j≤K)(hq:q<2 ^ (K - j)):nd j q<2 ^ (K+1) - 1:=by
 have e:2 ^ (K+1)=2 ^ (j+1)*2 ^ (K - j):=by rw[← Nat.pow_add];congr 1;omega
 have h1:2 ^ (j+1)*(q+1)≤2 ^ (K+1):=by rw[e];exact Nat.mul_le_mul_left _ hq
 rw[Nat.mul_add,Nat.mul_one] at h1;unfold nd;have:=aaC j;have:=aaj j;omega
theorem nd_in {j q K:Nat}(h:nd j q<2 ^ (K+1) - 1):j≤K∧q<2 ^ (K - j):=by
 obtain ⟨i,r,e,hi,hr⟩:=ahh K _ h;obtain ⟨rfl,rfl⟩:=afy e;exact ⟨hi,hr⟩
theorem ake (K:Nat):nd K 0=2 ^ K - 1:=by unfold nd;simp
theorem ahF {j q K:Nat}(hq:q<2 ^ (K - j))(hj:j≤K):nd j q=2 ^ K - 1↔j=K:=by
 constructor
 ·intro h
  rw[← ake] at h;exact (afy h).1
 ·rintro rfl
  simp at hq;subst hq;exact ake j
def levF:Nat→Nat→Nat
 | 0,_=>0
 | f+1,x=>if x % 2=1 then levF f (x / 2)+1 else 0
def lev (x:Nat):Nat:=levF 12 x
theorem amV:∀ (f j q:Nat),j<f→levF f (nd j q)=j
 | 0,j,q,h=>by omega
 | f+1,0,q,h=>by unfold levF;rw[if_neg (by have:=agh q;omega)]
 | f+1,j+1,q,h=>by unfold levF;rw[if_pos (afx j q),amU,amV f j q (by omega)]
theorem adJ (j q:Nat)(h:j≤11):lev (nd j q)=j:=amV 12 j q (by omega)
theorem amW (j q:Nat):(nd j q - (2 ^ j - 1)) / 2=2 ^ j*q∧(nd j q+(2 ^ j - 1)) / 2=2 ^ j*q+2 ^ j - 1:=by
 unfold nd;rw[aaj j,Nat.mul_assoc];have:=aaC j;constructor <;> omega
theorem ai7 (j q b:Nat):2 ^ j*q≤b∧b≤2 ^ j*q+2 ^ j - 1↔b / 2 ^ j=q:=by
 have hp:=aaC j;constructor
 ·rintro ⟨h1,h2⟩
  refine Nat.le_antisymm ?_ ?_
  ·exact Nat.lt_succ_iff.1 ((Nat.div_lt_iff_lt_mul (by omega)).2 (by rw[Nat.succ_mul,Nat.mul_comm];omega))
  ·exact (Nat.le_div_iff_mul_le (by omega)).2 (by rw[Nat.mul_comm];exact h1)
 ·rintro rfl
  have h1:=Nat.div_add_mod b (2 ^ j);have h2:=Nat.mod_lt b (show 0<2 ^ j by omega);omega
def sq (q:Nat):Nat:=if q % 2=0 then q+1 else q - 1
theorem apV (r:Nat):sq (2*r)=2*r+1:=by unfold sq;rw[if_pos (by omega)]
theorem aq3 (r:Nat):sq (2*r+1)=2*r:=by unfold sq;rw[if_neg (by omega)];omega
def aah (K j q:Nat):List Nat:=(List.range (K - j)).map fun i=>nd (j+1+i) (q / 2 ^ (i+1))
def aa2 (K j q:Nat):List Nat:=(List.range (K - j)).map fun i=>nd (j+i) (sq (q / 2 ^ i))
theorem acb (K j q:Nat):(aah K j q).length=K - j:=by simp[aah]
theorem acU (K j q:Nat):(aa2 K j q).length=K - j:=by simp[aa2]
theorem amX (K j q i:Nat)(h:i<K - j):(aah K j q)[i]?=some (nd (j+1+i) (q / 2 ^ (i+1))):=by
 unfold aah;rw[List.getElem?_map,List.getElem?_range h];rfl
theorem akf (K j q i:Nat)(h:i<K - j):(aa2 K j q)[i]?=some (nd (j+i) (sq (q / 2 ^ i))):=by
 unfold aa2;rw[List.getElem?_map,List.getElem?_range h];rfl
theorem ahG (K j q i:Nat)(h:i<K - j):(aah K j q).take (i+1)=(aah K j q).take i++[nd (j+1+i) (q / 2 ^ (i+1))]:=by
 have hi:i<(aah K j q).length:=by rw[acb];exact h
 have e:=amX K j q i h;rw[List.getElem?_eq_getElem hi] at e;rw[List.take_succ_eq_append_getElem hi,Option.some.inj e]
theorem ai8 (K j q i:Nat)(h:i<K - j):(aa2 K j q).take (i+1)=(aa2 K j q).take i++[nd (j+i) (sq (q / 2 ^ i))]:=by
 have hi:i<(aa2 K j q).length:=by rw[acU];exact h
 have e:=akf K j q i h;rw[List.getElem?_eq_getElem hi] at e;rw[List.take_succ_eq_append_getElem hi,Option.some.inj e]
theorem ae9 {K j q i:Nat}(hq:q<2 ^ (K - j))(hi:i≤K - j):q / 2 ^ i<2 ^ (K - (j+i)):=by
 rw[Nat.div_lt_iff_lt_mul (by have:=aaC i;omega),← Nat.pow_add];have e:K - (j+i)+i=K - j:=by omega
 rw[e];exact hq
theorem agi (q i:Nat):q / 2 ^ (i+1)=q / 2 ^ i / 2:=by rw[Nat.pow_succ,Nat.div_div_eq_div_mul]
def ai9:Nat→Nat→Nat→Nat→Nat
 | 0,j,_,_=>j
 | f+1,j,a,b=>if a / 2 ^ j=b / 2 ^ j then j else ai9 f (j+1) a b
def meet (a b:Nat):Nat:=ai9 10 0 a b
theorem ahH:∀ (f j a b:Nat),a / 2 ^ (j+f)=b / 2 ^ (j+f)→(∀ i,i<j→a / 2 ^ i≠b / 2 ^ i) →
  j≤ai9 f j a b∧ai9 f j a b≤j+f∧a / 2 ^ (ai9 f j a b)=b / 2 ^ (ai9 f j a b)∧∀ i,i<ai9 f j a b→a / 2 ^ i≠b / 2 ^ i
 | 0,j,a,b,h,hi=>⟨Nat.le_refl _,Nat.le_refl _,h,hi⟩
 | f+1,j,a,b,h,hi=>by
  unfold ai9
  by_cases e:a / 2 ^ j=b / 2 ^ j
  ·rw[if_pos e]
   exact ⟨Nat.le_refl _,by omega,e,hi⟩
  ·rw[if_neg e]
   have h2:=ahH f (j+1) a b (by rw[show j+1+f=j+(f+1) by omega];exact h) (fun i hij=>by
    rcases Nat.lt_or_eq_of_le (Nat.lt_succ_iff.1 hij) with h3 | h3
    ·exact hi i h3
    ·rw[h3];exact e)
   exact ⟨by omega,by omega,h2.2.2.1,h2.2.2.2⟩
theorem aja {a b K:Nat}(hK:K≤10)(ha:a<2 ^ K)(hb:b<2 ^ K):meet a b≤K∧a / 2 ^ (meet a b)=b / 2 ^ (meet a b)∧∀ i,i<meet a b→a / 2 ^ i≠b / 2 ^ i:=by
 have hp:(2:Nat) ^ K≤2 ^ 10:=Nat.pow_le_pow_right (by omega) hK;obtain ⟨_,_,h3,h4⟩:=ahH 10 0 a b (by rw[Nat.zero_add,Nat.div_eq_of_lt (by omega),Nat.div_eq_of_lt (by omega)]) (fun i h=>by omega);refine ⟨?_,h3,h4⟩;refine Nat.le_of_not_lt fun h=>h4 K h ?_
 rw[Nat.div_eq_of_lt ha,Nat.div_eq_of_lt hb]
def isTB (n:Int):Bool:=(List.range 11).any fun k=>decide (n=((2 ^ k:Nat):Int))
theorem aeD (K:Nat)(h:K≤10):isTB ((2 ^ K:Nat):Int)=true:=by
 unfold isTB;rw[List.any_eq_true];exact ⟨K,by simp;omega,by simp⟩
theorem aeE (n:Int):isTB n=true↔∃ K,K≤10∧n=((2 ^ K:Nat):Int):=by
 constructor
 ·intro h
  unfold isTB at h;rw[List.any_eq_true] at h;obtain ⟨K,h1,h2⟩:=h;exact ⟨K,by simp at h1;omega,of_decide_eq_true h2⟩
 ·rintro ⟨K,h,rfl⟩
  exact aeD K h
theorem acu {n:Int}(h:isTB n=true):1≤n∧n≤1024:=by
 obtain ⟨K,hK,rfl⟩:=(aeE n).1 h;have h1:(2:Nat) ^ K≤2 ^ 10:=Nat.pow_le_pow_right (by omega) hK;have h2:=aaC K;generalize 2 ^ K=M at *;omega
def inB (x n:Int):Bool:=isTB n && (decide (0≤x) && decide (x<2*n - 1))
theorem adK (x n:Int):inB x n=true↔∃ K j q,K≤10∧n=((2 ^ K:Nat):Int)∧x=((nd j q:Nat):Int)∧j≤K∧q<2 ^ (K - j):=by
 unfold inB;simp only[Bool.and_eq_true,decide_eq_true_eq];constructor
 ·rintro ⟨h1,h2,h3⟩
  obtain ⟨K,hK,rfl⟩:=(aeE n).1 h1;obtain ⟨y,rfl⟩:=Int.eq_ofNat_of_zero_le h2;obtain ⟨j,q,e,hj,hq⟩:=ahh K y (by rw[aaj];omega);exact ⟨K,j,q,hK,rfl,by rw[e],hj,hq⟩
 ·rintro ⟨K,j,q,hK,rfl,rfl,hj,hq⟩
  have h:=ae8 hj hq;rw[aaj] at h;exact ⟨aeD K hK,by omega,by omega⟩
theorem aaH (x:Int):(0≤x∧x≤2046)↔∃ j q,x=((nd j q:Nat):Int)∧j≤10∧q<2 ^ (10 - j):=by
 constructor
 ·rintro ⟨h1,h2⟩
  obtain ⟨y,rfl⟩:=Int.eq_ofNat_of_zero_le h1;obtain ⟨j,q,e,hj,hq⟩:=ahh 10 y (by omega);exact ⟨j,q,by rw[e],hj,hq⟩
 ·rintro ⟨j,q,rfl,hj,hq⟩
  have h:=ae8 hj hq;omega
theorem acc {K:Nat}(h:K≤10):2 ^ K≤1024:=by
 have:(2:Nat) ^ K≤2 ^ 10:=Nat.pow_le_pow_right (by omega) h;omega
theorem aa4 {K j q:Nat}(hK:K≤10)(hj:j≤K)(hq:q<2 ^ (K - j)):nd j q≤2046∧j≤10∧q<2 ^ (10 - j):=by
 have h:=ae8 hj hq;have h2:=acc hK;rw[aaj] at h;refine ⟨by omega,by omega,Nat.lt_of_lt_of_le hq (Nat.pow_le_pow_right (by omega) (by omega))⟩
def qOf (x:Nat):Nat:=x / 2 ^ (lev x+1)
theorem ahI (j q:Nat)(h:j≤11):qOf (nd j q)=q:=by
 unfold qOf;rw[adJ j q h];unfold nd;have h1:=aaC j;have h2:=aaj j;have e:2 ^ (j+1)*q+2 ^ j - 1=(2 ^ j - 1)+2 ^ (j+1)*q:=by omega
 rw[e,Nat.add_mul_div_left _ _ (by omega),Nat.div_eq_of_lt (by omega),Nat.zero_add]
def lgN (n:Int):Nat:=n.toNat.log2
theorem amY:∀ K,K≤10→lgN ((2 ^ K:Nat):Int)=K:=by
 intro K h;unfold lgN;rw[Int.toNat_natCast];have:∀ K:Fin 11,(2 ^ K.1).log2=K.1:=by decide
 exact this ⟨K,by omega⟩
def widE (n:Int):Int:=if isTB n then 0 else 1
def widV (n:Int):Int:=if isTB n then 2*n - 1 else 0
def okN (x:Int):Prop:=0≤x∧x≤2046
instance (x:Int):Decidable (okN x):=by unfold okN;infer_instance
def levV (x:Int):Int:=if okN x then (lev x.toNat:Int) else 0
def chE (x:Int):Int:=if levV x=0 then 1 else 0
def lefV (x:Int):Int:=if levV x=0 then 0 else x - ((2 ^ ((levV x).toNat - 1):Nat):Int)
def rigV (x:Int):Int:=if levV x=0 then 0 else x+((2 ^ ((levV x).toNat - 1):Nat):Int)
theorem abF {j q:Nat}(hj:j≤10)(hq:q<2 ^ (10 - j)):levV ((nd j q:Nat):Int)=(j:Int):=by
 unfold levV;rw[if_pos (show okN ((nd j q:Nat):Int) from (aaH _).2 ⟨j,q,rfl,hj,hq⟩),Int.toNat_natCast,adJ j q (by omega)]
theorem agj {x:Int}(h:¬okN x):levV x=0:=if_neg h
theorem apW {q:Nat}(hq:q<2 ^ 10):chE ((nd 0 q:Nat):Int)=1∧lefV ((nd 0 q:Nat):Int)=0∧rigV ((nd 0 q:Nat):Int)=0:=by
 have e:levV ((nd 0 q:Nat):Int)=0:=abF (by omega) hq;unfold chE lefV rigV;rw[e];exact ⟨rfl,rfl,rfl⟩
theorem adC {j q:Nat}(hj:j+1≤10)(hq:q<2 ^ (10 - (j+1))):chE ((nd (j+1) q:Nat):Int)=0∧lefV ((nd (j+1) q:Nat):Int)=((nd j (2*q):Nat):Int)∧rigV ((nd (j+1) q:Nat):Int)=((nd j (2*q+1):Nat):Int):=by
 have e:=abF hj hq;have e0:¬(((j+1:Nat):Int)=0):=by omega
 unfold chE lefV rigV;rw[e,if_neg e0,if_neg e0,if_neg e0,Int.toNat_natCast,Nat.add_sub_cancel];obtain ⟨h1,h2⟩:=ae7 j q;have h3:=aea j q;exact ⟨rfl,by omega,by omega⟩
def parN (x:Nat):Nat:=nd (lev x+1) (qOf x / 2)
def sibN (x:Nat):Nat:=nd (lev x) (sq (qOf x))
def paE (x n:Int):Int:=if inB x n then (if x=n - 1 then 11 else 0) else 1
def paV (x n:Int):Int:=if paE x n=0 then (parN x.toNat:Int) else 0
def siV (x n:Int):Int:=if paE x n=0 then (sibN x.toNat:Int) else 0
def arE (x n:Int):Int:=if inB x n then 0 else 1
def amZ (x n:Int):List Nat:=if inB x n then aah (lgN n) (lev x.toNat) (qOf x.toNat) else []
def apX (x n:Int):List Nat:=if inB x n then aa2 (lgN n) (lev x.toNat) (qOf x.toNat) else []
theorem pa_no {x n:Int}(h:¬inB x n=true):paE x n=1∧paV x n=0∧siV x n=0:=by
 have e:paE x n=1:=if_neg h;unfold paV siV;rw[e];exact ⟨rfl,rfl,rfl⟩
theorem apY {K:Nat}(hK:K≤10):paE ((nd K 0:Nat):Int) ((2 ^ K:Nat):Int)=11∧paV ((nd K 0:Nat):Int) ((2 ^ K:Nat):Int)=0∧siV ((nd K 0:Nat):Int) ((2 ^ K:Nat):Int)=0:=by
 have h1:=ake K;have h2:=aaC K;have e:paE ((nd K 0:Nat):Int) ((2 ^ K:Nat):Int)=11:=by
  unfold paE;rw[if_pos ((adK _ _).2 ⟨K,K,0,hK,rfl,rfl,Nat.le_refl _,by simp⟩),if_pos (by omega)]
 unfold paV siV;rw[e];exact ⟨rfl,rfl,rfl⟩
theorem apL {K j q:Nat}(hK:K≤10)(hj:j<K)(hq:q<2 ^ (K - j)):
  paE ((nd j q:Nat):Int) ((2 ^ K:Nat):Int)=0∧paV ((nd j q:Nat):Int) ((2 ^ K:Nat):Int)=((nd (j+1) (q / 2):Nat):Int)∧siV ((nd j q:Nat):Int) ((2 ^ K:Nat):Int)=((nd j (sq q):Nat):Int):=by
 have h2:=aaC K;have h3:=ahF hq (by omega);have e:paE ((nd j q:Nat):Int) ((2 ^ K:Nat):Int)=0:=by
  unfold paE;rw[if_pos ((adK _ _).2 ⟨K,j,q,hK,rfl,rfl,by omega,hq⟩),if_neg];intro h;have:=h3.1 (by omega);omega
 unfold paV siV parN sibN;rw[e,if_pos rfl,if_pos rfl,Int.toNat_natCast,adJ j q (by omega),ahI j q (by omega)];exact ⟨rfl,rfl,rfl⟩
theorem ar_no {x n:Int}(h:¬inB x n=true):arE x n=1∧amZ x n=[]∧apX x n=[]:=⟨if_neg h,if_neg h,if_neg h⟩
theorem apM {K j q:Nat}(hK:K≤10)(hj:j≤K)(hq:q<2 ^ (K - j)):
  arE ((nd j q:Nat):Int) ((2 ^ K:Nat):Int)=0∧amZ ((nd j q:Nat):Int) ((2 ^ K:Nat):Int)=aah K j q∧apX ((nd j q:Nat):Int) ((2 ^ K:Nat):Int)=aa2 K j q:=by
 have h:=(adK _ _).2 ⟨K,j,q,hK,rfl,rfl,hj,hq⟩;unfold arE amZ apX;rw[if_pos h,if_pos h,if_pos h,Int.toNat_natCast,adJ j q (by omega),ahI j q (by omega),amY K hK];exact ⟨rfl,rfl,rfl⟩
def okC (a b n:Int):Prop:=isTB n=true∧0≤a∧0≤b∧a<n∧b<n
instance (a b n:Int):Decidable (okC a b n):=by unfold okC;infer_instance
def coN (a b:Nat):Nat:=nd (meet a b) (a / 2 ^ meet a b)
def loV (x:Int):Int:=if okN x then ((2 ^ lev x.toNat*qOf x.toNat:Nat):Int) else 0
def hiV (x:Int):Int:=if okN x then ((2 ^ lev x.toNat*qOf x.toNat+2 ^ lev x.toNat - 1:Nat):Int) else -1
theorem aq4 {x:Int}(h:¬okN x):loV x=0∧hiV x = -1:=⟨if_neg h,if_neg h⟩
theorem am0 {j q:Nat}(hj:j≤10)(hq:q<2 ^ (10 - j)):loV ((nd j q:Nat):Int)=((2 ^ j*q:Nat):Int)∧hiV ((nd j q:Nat):Int)=((2 ^ j*q+2 ^ j - 1:Nat):Int):=by
 have h:okN ((nd j q:Nat):Int):=(aaH _).2 ⟨j,q,rfl,hj,hq⟩;unfold loV hiV;rw[if_pos h,if_pos h,Int.toNat_natCast,adJ j q (by omega),ahI j q (by omega)];exact ⟨rfl,rfl⟩
theorem ac1 (a b:Nat)(ha:a<9223372036854775808)(hb:b<9223372036854775808):bits .and .i64 (a:Int) (b:Int)=((a &&& b:Nat):Int):=by
 have hx:a &&& b<2 ^ 63:=Nat.and_lt_two_pow _ (by omega);have h1:(BitVec.ofInt 64 (a:Int)).toNat=a:=by
  rw[BitVec.ofInt_natCast,BitVec.toNat_ofNat];exact Nat.mod_eq_of_lt (by omega)
 have h2:(BitVec.ofInt 64 (b:Int)).toNat=b:=by
  rw[BitVec.ofInt_natCast,BitVec.toNat_ofNat];exact Nat.mod_eq_of_lt (by omega)
 show IntKind.i64.wrap ((BitVec.ofInt 64 (a:Int) &&& BitVec.ofInt 64 (b:Int)).toNat:Int)=_
 rw[BitVec.toNat_and,h1,h2];exact IntWalk.i64_in _ (by omega)
theorem alb:∀ (k m f:Nat),k<f→Lib.ctzFrom f (2 ^ k*(2*m+1))=k
 | 0,m,f,h=>by
  obtain ⟨f,rfl⟩:∃ g,f=g+1:=⟨f - 1,by omega⟩
  unfold Lib.ctzFrom
  rw[if_pos (by simp)]
 | k+1,m,f,h=>by
  obtain ⟨f,rfl⟩:∃ g,f=g+1:=⟨f - 1,by omega⟩
  have e:2 ^ (k+1)*(2*m+1)=2*(2 ^ k*(2*m+1)):=by rw[Nat.pow_succ,Nat.mul_comm (2 ^ k) 2,Nat.mul_assoc]
  unfold Lib.ctzFrom
  rw[e,if_neg (by omega),show 2*(2 ^ k*(2*m+1)) / 2=2 ^ k*(2*m+1) by omega,alb k m f (by omega)]
  omega
theorem aoz (j q:Nat):nd j q+1=2 ^ j*(2*q+1):=by
 unfold nd;have h1:=aaC j;have e:2 ^ j*(2*q+1)=2 ^ (j+1)*q+2 ^ j:=by rw[Nat.mul_add,Nat.mul_one,aaj,← Nat.mul_assoc,Nat.mul_comm (2 ^ j) 2]
 rw[e];omega
theorem aq5 (j q:Nat)(hj:j≤10):Lib.ctz 64 (nd j q+1)=j:=by
 rw[aoz];have:2 ^ j*(2*q+1)≠0:=by have:=aaC j;exact Nat.mul_ne_zero (by omega) (by omega)
 unfold Lib.ctz;rw[if_neg this];exact alb j q 64 (by omega)
theorem aoA (j q:Nat):nd j q &&& 2 ^ (j+1)=if q % 2=0 then 0 else 2 ^ (j+1):=by
 have h1:(nd j q).testBit (j+1)=decide (q % 2=1):=by
  have e:nd j q=(2 ^ j - 1)+2 ^ (j+1)*q:=by unfold nd;have:=aaC j;omega
  rw[Nat.testBit_eq_decide_div_mod_eq,e,Nat.add_mul_div_left _ _ (by exact Nat.two_pow_pos _),Nat.div_eq_of_lt (by have:=aaC j;rw[aaj];omega),Nat.zero_add]
 apply Nat.eq_of_testBit_eq;intro i;rw[Nat.testBit_and,Nat.testBit_two_pow];by_cases hi:j+1=i
 ·subst hi
  rw[h1];by_cases hq:q % 2=0
  ·rw[if_pos hq];simp;omega
  ·rw[if_neg hq,Nat.testBit_two_pow];simp;omega
 ·have e:decide (j+1=i)=false:=decide_eq_false hi
  rw[e,Bool.and_false];split
  ·simp
  ·rw[Nat.testBit_two_pow,e]
theorem am1 (j q:Nat)(h:q % 2=0):nd j q+2 ^ j=nd (j+1) (q / 2):=by
 obtain ⟨r,rfl⟩:∃ r,q=2*r:=⟨q / 2,by omega⟩;have h1:=ae7 j r;rw[show 2*r / 2=r by omega];omega
theorem alc (j q:Nat)(h:¬q % 2=0):nd j q - 2 ^ j=nd (j+1) (q / 2)∧2 ^ j≤nd j q:=by
 obtain ⟨r,rfl⟩:∃ r,q=2*r+1:=⟨q / 2,by omega⟩;have h1:=aea j r;rw[show (2*r+1) / 2=r by omega];omega
theorem apZ (j q:Nat):nd j q+nd j (sq q)=2*nd (j+1) (q / 2):=by
 by_cases h:q % 2=0
 ·have h1:=am1 j q h
  have h2:=aea j (q / 2);have e:sq q=2*(q / 2)+1:=by unfold sq;rw[if_pos h];omega
  rw[e];omega
 ·obtain ⟨h1,h3⟩:=alc j q h
  have h2:=ae7 j (q / 2);have e:sq q=2*(q / 2):=by unfold sq;rw[if_neg h];omega
  rw[e];omega
theorem am2:∀ n:Fin 1025,(decide (1≤n.1) && decide (n.1 &&& (n.1 - 1)=0))=(List.range 11).any fun k=>decide (n.1=2 ^ k):=by decide +kernel
theorem am3 (n:Nat)(h1:1≤n)(h2:n≤1024):isTB (n:Int)=decide (n &&& (n - 1)=0):=by
 have h:=am2 ⟨n,by omega⟩;simp only[h1,decide_true,Bool.true_and] at h;rw[h];unfold isTB;congr 1
 funext k
 congr 1
 exact propext ⟨fun e=>by exact_mod_cast e,fun e=>by exact_mod_cast e⟩
theorem aoB (n:Int)(h:¬(1≤n∧n≤1024)):isTB n=false:=by
 rw[Bool.eq_false_iff];exact fun e=>h (acu e)
theorem ap0 {n:Int}(h:∀ i,i≤10→n≠((2 ^ i:Nat):Int)):isTB n=false:=by
 rw[Bool.eq_false_iff];intro h2;obtain ⟨K,hK,e⟩:=(aeE n).1 h2;exact h K hK e
theorem agk (n:Int)(w:World):Calls Tryz.prog 78 #[.int .i64 n] w fun e w'=>e=.returned (.bool (isTB n))∧w=w':=by
 have HP:Hid (∀ k,k<10→(((2 ^ k:Nat):Int))<1024∧(2*((2 ^ k:Nat):Int))=((2 ^ (k+1):Nat):Int)):=fun k hk=>by
  have:(2:Nat) ^ k<2 ^ 10:=Nat.pow_lt_pow_right (by omega) hk;have h2:=aaj k;exact ⟨by omega,by omega⟩
 have HY:Hid (∀ k,k≤10→n=((2 ^ k:Nat):Int)→isTB n=true):=fun k hk e=>by rw[e];exact aeD k hk
 have HNO:Hid ((∀ i,i≤10→n≠((2 ^ i:Nat):Int))→isTB n=false):=ap0;generalize isTB n=b at *;go_enter Tryz.func78,Tryz.ntmps78;go_wp2_with fail;go_loop [3] (fun m=>∃ k:Nat,k≤10∧m=.int .i64 ((2 ^ k:Nat):Int)∧∀ i,i<k→n≠((2 ^ i:Nat):Int)) (fun m=>(1024 - (intOf m).toNat))
 case atStart=>exact ⟨0,by omega,rfl,fun i h=>by omega⟩
 case round=>
  obtain ⟨k,hk,rfl,hno⟩:=hrel;by_cases hlt:k<10
  ·obtain ⟨h1,h2⟩:=HP.out k hlt
   have HY2:=HY.out k hk;have HN:Hid (n≠((2 ^ k:Nat):Int)→∀ i,i<k+1→n≠((2 ^ i:Nat):Int)):=fun he i hi=>by
    rcases Nat.lt_or_eq_of_le (Nat.lt_succ_iff.1 hi) with h3 | h3
    ·exact hno i h3
    ·rw[h3];exact he
   have HM1:(1:Int)≤((2 ^ k:Nat):Int):=by have:=aaC k;exact_mod_cast this
   generalize ((2 ^ k:Nat):Int)=m at *;have hm0:0≤m∨m<0:=by omega
   by_cases he:n=m
   ·have HB:=Lib.hid (HY2 he)
    subst he;clear HY2 HN HY HNO h2 hno HP;go_wp2;go_ret;exact ⟨by rw[HB.out];rfl,rfl⟩
   ·have hne:¬m=n:=fun h=>he h.symm
    have HN2:=Lib.hid (HN.out he);have H2:=Lib.hid h2;by_cases hp:0≤m
    ·have hw:IntKind.i64.wrap (2*m)=2*m:=IntWalk.i64_in _ (by omega)
     have hm1:1≤m:=HM1;clear HY2 HN HY HNO h2 hno HP he hm0;go_wp2;go_round
     case rel=>exact ⟨k+1,by omega,by rw[← H2.out],HN2.out⟩
     case measure=>simp[intOf];omega
    ·exfalso
     have:0≤((2 ^ (k+1):Nat):Int):=Int.natCast_nonneg _;omega
  ·obtain rfl:k=10:=by omega
   have h10:((2 ^ 10:Nat):Int)=1024:=rfl;rw[h10];by_cases he:n=1024
   ·have HB:=Lib.hid (HY.out 10 (by omega) (by rw[he];rfl))
    subst he;clear HY HNO hno HP h10;go_wp2;go_ret;exact ⟨by rw[HB.out];rfl,rfl⟩
   ·have HB:=Lib.hid (HNO.out (fun i hi=>by
     rcases Nat.lt_or_eq_of_le hi with h3 | h3
     ·exact hno i h3
     ·rw[h3];exact he))
    have hne:¬(1024:Int)=n:=fun h=>he h.symm
    have hne2:((1024:Int)==n)=false:=beq_eq_false_iff_ne.2 hne;clear HY HNO hno HP h10 he;go_wp2;go_ret;exact ⟨by rw[HB.out];rfl,rfl⟩
theorem ade (x n:Int)(w:World)(hn:-9223372036854775808≤n∧n≤9223372036854775807):Calls Tryz.prog 95 #[.int .i64 x,.int .i64 n] w fun e w'=>e=.returned (.bool (inB x n))∧w=w':=by
 have HT:=Lib.hid (agk n w);by_cases ht:isTB n=true
 ·have h1:=acu ht
  have h2:IntKind.i64.wrap (2*n)=2*n:=IntWalk.i64_in _ (by omega);have h3:IntKind.i64.wrap (2*n - 1)=2*n - 1:=IntWalk.i64_in _ (by omega);have HI:Hid (inB x n=(decide (0≤x) && decide (x<2*n - 1))):=by unfold inB;rw[ht];rfl
  rw[ht] at HT;rw[HI.out];clear ht h1;by_cases h4:0≤x
  ·have d1:(decide (0≤x) && decide (x<2*n - 1))=decide (x<2*n - 1):=by simp[h4]
   rw[d1];go_enter Tryz.func95,Tryz.ntmps95;go_wp2_with fail;refine HT.out.mono ?_;rintro _ _ ⟨rfl,rfl⟩;go_wp2_with fail;go_ret;exact ⟨rfl,rfl⟩
  ·have d1:(decide (0≤x) && decide (x<2*n - 1))=false:=by simp;intro h;omega
   rw[d1];go_enter Tryz.func95,Tryz.ntmps95;go_wp2_with fail;refine HT.out.mono ?_;rintro _ _ ⟨rfl,rfl⟩;go_wp2_with fail;go_ret;exact ⟨rfl,rfl⟩
 ·have ht2:isTB n=false:=by rw[Bool.eq_false_iff];exact ht
  have HI:Hid (inB x n=false):=by unfold Hid inB;rw[ht2];rfl
  rw[ht2] at HT;rw[HI.out];clear ht ht2;go_enter Tryz.func95,Tryz.ntmps95;go_wp2_with fail;refine HT.out.mono ?_;rintro _ _ ⟨rfl,rfl⟩;go_wp2_with fail;go_ret;exact ⟨rfl,rfl⟩
theorem ajb (n:Int)(w:World):Calls Tryz.prog 75 #[.int .i64 n] w fun e w'=>e=.returned (.tuple #[.int .i64 (widV n),.int .i64 (widE n)])∧w=w':=by
 have HT:=Lib.hid (agk n w);by_cases ht:isTB n=true
 ·have h1:=acu ht
  have h2:IntKind.i64.wrap (2*n)=2*n:=IntWalk.i64_in _ (by omega);have h3:IntKind.i64.wrap (2*n - 1)=2*n - 1:=IntWalk.i64_in _ (by omega);rw[show widV n=2*n - 1 from if_pos ht,show widE n=0 from if_pos ht];rw[ht] at HT;clear ht h1;go_enter Tryz.func75,Tryz.ntmps75;go_wp2_with fail;refine HT.out.mono ?_;rintro _ _ ⟨rfl,rfl⟩;go_wp2_with fail;go_ret2;exact ⟨rfl,rfl⟩
 ·have ht2:isTB n=false:=by rw[Bool.eq_false_iff];exact ht
  rw[show widV n=0 from if_neg ht,show widE n=1 from if_neg ht];rw[ht2] at HT;clear ht ht2;go_enter Tryz.func75,Tryz.ntmps75;go_wp2_with fail;refine HT.out.mono ?_;rintro _ _ ⟨rfl,rfl⟩;go_wp2_with fail;go_ret2;exact ⟨rfl,rfl⟩
theorem am4 (j q:Nat):((nd (j+1) q:Nat):Int).tmod 2=1:=by
 have:=afx j q;rw[Int.tmod_eq_emod_of_nonneg (by omega)];omega
theorem alM (q:Nat):((nd 0 q:Nat):Int).tmod 2=0:=by
 have:=agh q;rw[Int.tmod_eq_emod_of_nonneg (by omega)];omega
theorem aoC (j q:Nat):((nd (j+1) q:Nat):Int).tdiv 2=((nd j q:Nat):Int):=by
 have:=amU j q;rw[Int.tdiv_eq_ediv_of_nonneg (by omega)];omega
theorem akg (j q:Nat)(w:World)(hj:j≤10)(hq:q<2 ^ (10 - j)):Calls Tryz.prog 82 #[.int .i64 ((nd j q:Nat):Int)] w fun e w'=>e=.returned (.int .i64 (j:Int))∧w=w':=by
 obtain ⟨b0,b1⟩:=(aaH ((nd j q:Nat):Int)).2 ⟨j,q,rfl,hj,hq⟩;have HS:Hid (∀ i,i≤j→0≤((nd i q:Nat):Int)∧((nd i q:Nat):Int)≤2046):=fun i hi=>(aaH ((nd i q:Nat):Int)).2 ⟨i,q,rfl,by omega,Nat.lt_of_lt_of_le hq (Nat.pow_le_pow_right (by omega) (by omega))⟩
 have HO:=Lib.hid (fun i=>am4 i q);have HE:=Lib.hid (alM q);have HD:=Lib.hid (fun i=>aoC i q);obtain ⟨f,hf⟩:∃ f:Nat→Int,f=fun i=>((nd i q:Nat):Int):=⟨_,rfl⟩
 have hfi:∀ i,((nd i q:Nat):Int)=f i:=fun i=>by rw[hf]
 simp only[hfi] at *;clear hf hfi;go_enter Tryz.func82,Tryz.ntmps82;go_wp2_with fail;go_loop [3,4] (fun k y=>∃ i:Nat,i≤j∧k=.int .i64 ((j - i:Nat):Int)∧y=.int .i64 (f i)) (fun k _=>(j - (intOf k).toNat))
 case atStart=>exact ⟨j,Nat.le_refl _,by simp,rfl⟩
 case round=>
  obtain ⟨i,hi,rfl,rfl⟩:=hrel;cases i with
  | zero=>
   have e1:=HE.out;clear HS HO HE HD;rw[Nat.sub_zero];go_wp2;go_ret;exact ⟨rfl,rfl⟩
  | succ i=>
   have e1:=HO.out i;have e2:=HD.out i;have e3:=HS.out i (by omega);have e6:IntKind.i64.wrap (f i)=f i:=IntWalk.i64_in _ (by omega);obtain ⟨k,hk⟩:∃ k:Int,((j - (i+1):Nat):Int)=k:=⟨_,rfl⟩;have hk1:k+1=((j - i:Nat):Int):=by omega
   have hk2:0≤k∧k≤10:=by omega
   have e5:IntKind.i64.wrap (k+1)=k+1:=IntWalk.i64_in _ (by omega);have HK1:=Lib.hid hk1;rw[hk];clear HS HO HE HD e3 hk hk1;go_wp2;go_round
   case rel=>exact ⟨i,by omega,by rw[← HK1.out],rfl⟩
   case measure=>have:=HK1.out;simp[intOf];omega
theorem akh (x:Int)(w:World)(h:¬okN x):Calls Tryz.prog 82 #[.int .i64 x] w fun e w'=>e=.returned (.int .i64 0)∧w=w':=by
 unfold okN at h;by_cases h0:0≤x
 ·have h1:¬x≤2046:=fun h1=>h ⟨h0,h1⟩
  clear h;go_enter Tryz.func82,Tryz.ntmps82;go_wp2_with fail;go_loop [3,4] (fun k y=>k=.int .i64 0∧y=.int .i64 x) (fun _ _=>0)
  case atStart=>exact ⟨rfl,rfl⟩
  case round=>
   obtain ⟨rfl,rfl⟩:=hrel;go_wp2;go_ret;exact ⟨rfl,rfl⟩
 ·clear h
  go_enter Tryz.func82,Tryz.ntmps82;go_wp2_with fail;go_loop [3,4] (fun k y=>k=.int .i64 0∧y=.int .i64 x) (fun _ _=>0)
  case atStart=>exact ⟨rfl,rfl⟩
  case round=>
   obtain ⟨rfl,rfl⟩:=hrel;go_wp2;go_ret;exact ⟨rfl,rfl⟩
theorem adL (x:Int)(w:World):Calls Tryz.prog 82 #[.int .i64 x] w fun e w'=>e=.returned (.int .i64 (levV x))∧w=w':=by
 by_cases h:okN x
 ·obtain ⟨j,q,rfl,hj,hq⟩:=(aaH x).1 h
  rw[abF hj hq];exact akg j q w hj hq
 ·rw[agj h]
  exact akh x w h
theorem afz (k:Nat)(w:World)(hk:k≤20):Calls Tryz.prog 83 #[.int .i64 (k:Int)] w fun e w'=>e=.returned (.int .i64 ((2 ^ k:Nat):Int))∧w=w':=by
 have HP:Hid (∀ i,i<k→0≤((2 ^ i:Nat):Int)∧((2 ^ i:Nat):Int)≤1048576∧2*((2 ^ i:Nat):Int)=((2 ^ (i+1):Nat):Int)):=fun i hi=>by
  have h1:(2:Nat) ^ i≤2 ^ 20:=Nat.pow_le_pow_right (by omega) (by omega);have h2:=aaj i;generalize 2 ^ (i+1)=N at *;generalize 2 ^ i=M at *;omega
 obtain ⟨f,hf⟩:∃ f:Nat→Int,f=fun i=>((2 ^ i:Nat):Int):=⟨_,rfl⟩
 have hfi:∀ i,((2 ^ i:Nat):Int)=f i:=fun i=>by rw[hf]
 have hf0:f 0=1:=by rw[hf];rfl
 simp only[hfi] at *;clear hf hfi;have HF0:=Lib.hid hf0;clear hf0;go_enter Tryz.func83,Tryz.ntmps83;go_wp2_with fail;go_loop [3,4] (fun n y=>∃ i:Nat,i≤k∧n=.int .i64 (f i)∧y=.int .i64 (i:Int)) (fun _ y=>(k - (intOf y).toNat))
 case atStart=>exact ⟨0,Nat.zero_le _,by rw[HF0.out],rfl⟩
 case round=>
  obtain ⟨i,hi,rfl,rfl⟩:=hrel;by_cases hlt:i<k
  ·obtain ⟨h1,h2,h3⟩:=HP.out i hlt
   have HN:=Lib.hid h3;have hw:IntKind.i64.wrap (2*f i)=2*f i:=IntWalk.i64_in _ (by omega);clear HP h3 HF0;go_wp2;go_round
   case rel=>exact ⟨i+1,by omega,by rw[← HN.out],by go_num⟩
   case measure=>simp[intOf];omega
  ·obtain rfl:i=k:=by omega
   go_wp2;go_ret;exact ⟨rfl,rfl⟩
structure Same (X:Nat→Prop)(A B:World):Prop where
 size:A.heap.size≤B.heap.size
 block:∀ k,k<A.heap.size→¬X k→B.heap[k]?=A.heap[k]?
theorem Same.refl (X:Nat→Prop)(A:World):Same X A A:=⟨Nat.le_refl _,fun _ _ _=>rfl⟩
theorem Same.trans {X:Nat→Prop}{A B C:World}(h:Same X A B)(k:Same X B C):Same X A C:=
 ⟨Nat.le_trans h.size k.size,fun i hi hx=>(k.block i (Nat.lt_of_lt_of_le hi h.size) hx).trans (h.block i hi hx)⟩
theorem Same.of_kp {X:Nat→Prop}{A B:World}(h:Kp A B):Same X A B:=⟨h.size,fun k hk _=>h.block k hk⟩
theorem Same.setCell {X:Nat→Prop}{A B:World}(h:Same X A B)(p:Addr)(v:Value)(hx:X p.block):Same X A (B.setCell p v):=
 ⟨by simpa using h.size,fun k hk hn=>(Below.heap_setCell B p v k (fun e=>hn (e▸hx))).trans (h.block k hk hn)⟩
theorem Same.mono {X Y:Nat→Prop}{A B:World}(h:Same X A B)(hxy:∀ k,X k→Y k):Same Y A B:=⟨h.size,fun k hk hn=>h.block k hk (fun hx=>hn (hxy k hx))⟩
theorem Same.drew {X:Nat→Prop}{A B:World}(h:Same X A B):Same X A B.drew:=⟨h.size,h.block⟩
theorem Same.drewN {X:Nat→Prop}{A B:World}(h:Same X A B)(n:Nat):Same X A (B.drewN n):=h.trans (Same.of_kp ((Kp.refl B).drewN n))
theorem abL {B D:Nat}{a W:World}(h:Below B a W)(hD:B≤D)(hB:B≤W.heap.size)(o:Obj):Below B a (W.putObj D o):=
 Below.grown h (grownBy_putObj' W D o) hB (fun k e=>by cases e;exact hD)
section
variable {F : Fence} {n : Nat} {P : Program}
def aig (F:Fence)(m:Nat)(P:Program)(gf:Nat)(lb:Array Value)(encs:Nat→Array Value)(N:Nat)(X:Nat→Prop)(w:World):Prop:=
 ∀ (l:Nat) (J:Nat→World→Prop) (W:World),Below w.heap.size w W→w.heap.size≤l→l<W.heap.size→(∀ i A B,J i A→Below W.heap.size A B→J i B) →
  (∀ i A,i<N→J i A→YieldAt F (m - 1) P l (encs i) A fun e B=>e=.returned (.bool true)∧J (i+1) B∧Same (fun k=>k=l∨X k) A B) →
  J 0 W→CallsIn F m P gf (#[.func (.yield l) #[] #[]]++lb) W fun e B=>(∃ v,e=.returned v)∧J N B
theorem abr {g:Operand}{ps:Array Tmp}{assign body:Code}{Q:Exit→Act→World→Prop}{a:Act}{w:World}
  (hro:F.round=none) (h1:1≤n) {gf:Nat} {lb:Array Value} (hg:a.eval g=.func (.func gf) #[] lb) (hFg:F.fn gf) (eg:∀ args w,(callFunc gf args).run P w=.ok (.enter gf args) w)
  {encs:Nat→Array Value} {N:Nat} {X:Nat→Prop} (hX:∀ k,X k→k<w.heap.size) (hit:aig F (n - 1) P gf lb encs N X w) (hps:∀ i,(encs i).size=ps.size)
  (I:Nat→World→Prop) (hI:∀ i A B,I i A→Below w.heap.size A B→I i B) (h0:I 0 w) (a₁:Nat→Act)
  (hassign:∀ (l:Nat) (i:Nat) (W:World) (K:Act→World→Prop),K (a₁ i) W →
   assign.wpIn (F.inRound l) (n - 1 - 1) P (Exit.then K (fun _ _ _=>False)) { tmps:=(ps.zip (encs i)).foldl (fun t (p,v)=>t.setIfInBounds p v) a.tmps,defers:=[] } W)
  (hbody:∀ (l:Nat) (i:Nat) (W:World),I i W→i<N→body.wpIn (F.inRound l) (n - 1 - 1) P (fun e _ W'=>e=.normal∧Same X W W'∧I (i+1) W') (a₁ i) W)
  (hdone:∀ (D:Nat) (W:World),w.heap.size≤D→I N W→W.heap[D]?=some (.deferred (some []))→Q .normal { a with defers:={ target:=.collected D,args:=#[] } :: a.defers } W):
  (Code.rangeFunc g ps assign body).wpIn F n P Q a w:=by
 refine wpIn_rangeFunc ?_;intro fn hfn;rw[hro];let rec':LoopState→Loop:=fun st=>{ state:=st,pending:=none,fn,tmps:=a.tmps,params:=ps,assign,body,defers:=w.heap.size }
 obtain ⟨W1,hW1⟩:∃ W1,(w.alloc (.deferred (some []))).alloc (.loop (rec' .ready))=W1:=⟨_,rfl⟩;have hD1:W1.heap[w.heap.size]?=some (.deferred (some [])):=by
  rw[← hW1];exact (Below.heap_alloc _ _ _ (by simp)).trans (heap_alloc_new w _)
 have hL1:W1.heap[w.heap.size+1]?=some (.loop (rec' .ready)):=by
  rw[← hW1];have:=heap_alloc_new (w.alloc (.deferred (some []))) (.loop (rec' .ready));rwa [World.size_alloc] at this
 have hs1:W1.heap.size=w.heap.size+2:=by rw[← hW1];simp
 have hb1:Below w.heap.size w W1:=by rw[← hW1];exact ((Below.refl _ w).alloc (Nat.le_refl _) _).alloc (by simp) _
 have turn:∀ (B:World) (o:Obj),w.heap.size+1<B.heap.size→Below w.heap.size B (B.putObj (w.heap.size+1) o)∧(B.putObj (w.heap.size+1) o).heap[w.heap.size]?=B.heap[w.heap.size]?:=fun B o hlt=>
  ⟨Below.grown (Below.refl _ B) (grownBy_putObj' B (w.heap.size+1) o) (by omega) (fun k e=>by cases e;omega),World.putObj_heap_other (by omega)⟩
 refine ⟨w.heap.size+1,[{ target:=.collected w.heap.size,args:=#[] }],W1,{ target:=.fn (.func gf) lb,args:=#[.func (.yield (w.heap.size+1)) #[] #[]] },W1,gf,
  #[.func (.yield (w.heap.size+1)) #[] #[]]++lb,W1,?_,?_,?_,?_,fun _=>h1,?_⟩
 ·rw[← hW1];exact run_enterLoop_outer _ _ _ _ _
 ·simp only[resolve,hg]
  simp[go_sem]
 ·intro f' hf'
  simp[Target.leads] at hf';subst hf';exact hFg
 ·simp[invoke,go_sem,eg]
 ·refine (hit (w.heap.size+1) (fun i W=>I i W∧W.heap[w.heap.size+1]?=some (.loop (rec' .ready))∧W.heap[w.heap.size]?=some (.deferred (some []))) W1 hb1 (by omega) (by omega)
   (fun i A B h hb=>⟨hI i A B h.1 (hb.mono (by omega)),(hb.block _ (by omega)).trans h.2.1,(hb.block _ (by omega)).trans h.2.2⟩) ?_ ⟨hI 0 _ _ h0 hb1,hL1,hD1⟩).mono ?_
  ·rintro i A hi ⟨hIA,hl,hd⟩
   have hlt:w.heap.size+1<A.heap.size:=(Array.getElem?_eq_some_iff.1 hl).1;have hy:=run_yield (P:=P) (args:=encs i) hl (hps i);have hbr:(Instr.beginRound (w.heap.size+1)).run P A=.ok () (A.putObj (w.heap.size+1) (.loop (rec' .busy))):=run_beginRound hl rfl;refine ⟨fn,_,assign,body,hy,roundIn_of_wpIn hfn (hassign _ i A _ ⟨_,hbr,?_⟩)⟩;obtain ⟨hb2,hd2⟩:=turn A (.loop (rec' .busy)) hlt;have hl2:(A.putObj (w.heap.size+1) (.loop (rec' .busy))).heap[w.heap.size+1]?=some (.loop (rec' .busy)):=World.putObj_heap_same hlt;refine wpIn_mono (hbody _ i _ (hI i _ _ hIA hb2) hi) ?_;rintro e a3 W3 ⟨rfl,hs3,hI3⟩;have hlt2:w.heap.size+1<(A.putObj (w.heap.size+1) (.loop (rec' .busy))).heap.size:=(Array.getElem?_eq_some_iff.1 hl2).1;have hl3:=(hs3.block (w.heap.size+1) hlt2 (fun hx=>by have:=hX _ hx;omega)).trans hl2;have hd3:=(hs3.block w.heap.size (by omega) (fun hx=>by have:=hX _ hx;omega)).trans (hd2.trans hd);have hlt3:w.heap.size+1<W3.heap.size:=(Array.getElem?_eq_some_iff.1 hl3).1;obtain ⟨hb4,hd4⟩:=turn W3 (.loop (rec' .ready)) hlt3;have her:(Instr.endRound (w.heap.size+1) none).run P W3=.ok (.bool true) (W3.putObj (w.heap.size+1) (.loop (rec' .ready))):=run_endRound (P:=P) none hl3;refine ⟨_,_,her,rfl,⟨hI _ _ _ hI3 hb4,World.putObj_heap_same hlt3,hd4.trans hd3⟩,?_⟩;have s1:Same (fun k=>k=w.heap.size+1∨X k) A (A.putObj (w.heap.size+1) (.loop (rec' .busy))):=
    ⟨hb2.size,fun k _ hn=>World.putObj_heap_other (fun e=>hn (.inl e))⟩
   have s3:Same (fun k=>k=w.heap.size+1∨X k) W3 (W3.putObj (w.heap.size+1) (.loop (rec' .ready))):=
    ⟨hb4.size,fun k _ hn=>World.putObj_heap_other (fun e=>hn (.inl e))⟩
   exact (s1.trans (hs3.mono (fun _ h=>.inr h))).trans s3
  ·rintro e W2 ⟨⟨v,rfl⟩,hI2,hl,hd⟩
   have hlt:w.heap.size+1<W2.heap.size:=(Array.getElem?_eq_some_iff.1 hl).1;have hend:(Instr.endLoop (w.heap.size+1)).run P W2=.ok none (W2.putObj (w.heap.size+1) (.loop (rec' .exhausted))):=run_endLoop (P:=P) hl (by simp[rec']);obtain ⟨hb4,hd4⟩:=turn W2 (.loop (rec' .exhausted)) hlt;exact ⟨none,_,hend,hdone _ _ (Nat.le_refl _) (hI _ _ _ hI2 hb4) (hd4.trans hd)⟩
end
structure Nod where
 mk ::
 kind:Int
 name:Int
 pub:List UInt8
 un:List Int
 hash:List UInt8
theorem Nod.eq_iff (a b:Nod):a=b↔a.kind=b.kind∧a.name=b.name∧a.pub=b.pub∧a.un=b.un∧a.hash=b.hash:=by
 cases a;cases b;simp
instance:DecidableEq Nod:=fun a b=>decidable_of_iff _ (Nod.eq_iff a b).symm
def aan:Nod:=⟨0,0,[],[],[]⟩
def aag (name:Int)(pub:List UInt8):Nod:=⟨1,name,pub,[],[]⟩
def ats (t:List Nod)(x:Nat):Nod:=t.getD x aan
def lvs (t:List Nod):Nat:=(t.length+1) / 2
theorem aep {t:List Nod}{x:Nat}(h:x<t.length):ats t x=t[x]:=by
 unfold ats;rw[List.getD_eq_getElem?_getD,List.getElem?_eq_getElem h];rfl
theorem acJ {t:List Nod}{x:Nat}(h:t.length≤x):ats t x=aan:=by
 unfold ats;rw[List.getD_eq_getElem?_getD,List.getElem?_eq_none h];rfl
theorem abk (t:List Nod)(y:Nat)(n:Nod)(x:Nat)(h:y<t.length):ats (t.set y n) x=if x=y then n else ats t x:=by
 unfold ats;rw[List.getD_eq_getElem?_getD,List.getElem?_set,List.getD_eq_getElem?_getD];by_cases e:y=x
 ·subst e
  rw[if_pos rfl,if_pos rfl,if_pos h];rfl
 ·rw[if_neg e,if_neg (fun h=>e h.symm)]
theorem ap4 (t:List Nod)(k x:Nat):ats (t++List.replicate k aan) x=ats t x:=by
 unfold ats;rw[List.getD_eq_getElem?_getD,List.getD_eq_getElem?_getD];by_cases h:x<t.length
 ·rw[List.getElem?_append_left h]
 ·rw[List.getElem?_append_right (by omega),List.getElem?_eq_none (l:=t) (by omega),List.getElem?_replicate]
  split <;> rfl
theorem am7 {t u:List Nod}(hl:t.length=u.length)(h:∀ x,ats t x=ats u x):t=u:=by
 refine List.ext_getElem hl fun x h1 h2=>?_
 have:=h x;rwa [aep h1,aep h2] at this
def mayP (name:Int)(pub:List UInt8):Prop:=0≤name∧name≤65535∧pub.length=32
instance (name:Int) (pub:List UInt8):Decidable (mayP name pub):=by unfold mayP;infer_instance
def unP (t:List Nod)(a b:Int)(l:List Int):Prop:=l.Pairwise (·<·)∧∀ i∈l,a≤i∧i≤b∧(ats t (2*i.toNat)).kind=1
def okP (t:List Nod)(x:Nat):Prop:=
 ats t x=aan ∨
 ((ats t x).kind=1+(x:Int) % 2∧mayP (ats t x).name (ats t x).pub∧((ats t x).hash.length=0∨(ats t x).hash.length=32) ∧
  ((ats t x).kind=1→(ats t x).un=[])∧((ats t x).kind=2→(ats t x).name=0∧unP t (loV x) (hiV x) (ats t x).un))
structure aab (t:List Nod)(K:Nat):Prop where
 mk ::
 le:K≤10
 len:t.length=2 ^ (K+1) - 1
 ok:∀ x,x<t.length→okP t x
 one:∀ x y,x<y→y<t.length→(ats t x).kind=1→(ats t y).kind=1→(ats t x).name≠(ats t y).name
 used:∃ x,x<t.length∧(ats t x).kind=1
def ac2 (t:List Nod):Prop:=∃ K,aab t K
theorem aab.lv {t:List Nod}{K:Nat}(h:aab t K):lvs t=2 ^ K:=by
 unfold lvs;rw[h.len];have:=aaC K;have:=aaj K;omega
theorem aab.len2 {t:List Nod}{K:Nat}(h:aab t K):t.length=2*2 ^ K - 1:=by rw[h.len,aaj]
theorem aab.okA {t:List Nod}{K:Nat}(h:aab t K)(x:Nat):okP t x:=by
 by_cases hx:x<t.length
 ·exact h.ok x hx
 ·exact .inl (acJ (by omega))
theorem alP {t:List Nod}{x:Nat}(h:okP t x)(hk:(ats t x).kind=0):ats t x=aan:=by
 rcases h with h | ⟨h,_⟩
 ·exact h
 ·omega
theorem aab.even {t:List Nod}{K:Nat}(h:aab t K)(i:Nat):ats t (2*i)=aan∨((ats t (2*i)).kind=1∧(ats t (2*i)).un=[]∧mayP (ats t (2*i)).name (ats t (2*i)).pub∧((ats t (2*i)).hash.length=0∨(ats t (2*i)).hash.length=32)):=by
 rcases h.okA (2*i) with h1 | ⟨h1,h2,h3,h4,_⟩
 ·exact .inl h1
 ·have e:(ats t (2*i)).kind=1:=by rw[h1];omega
  exact .inr ⟨e,h4 e,h2,h3⟩
theorem aab.odd {t:List Nod}{K:Nat}(h:aab t K){x:Nat}(hx:x % 2=1):ats t x=aan∨((ats t x).kind=2∧unP t (loV x) (hiV x) (ats t x).un):=by
 rcases h.okA x with h1 | ⟨h1,h2,h3,h4,h5⟩
 ·exact .inl h1
 ·have e:(ats t x).kind=2:=by rw[h1];omega
  exact .inr ⟨e,(h5 e).2⟩
theorem aab.unAt {t:List Nod}{K:Nat}(h:aab t K){j q:Nat}(hj:j≤10)(hq:q<2 ^ (10 - j))(i:Int)(hi:i∈(ats t (nd j q)).un):
  ∃ k:Nat,i=(k:Int)∧k / 2 ^ j=q∧(ats t (2*k)).kind=1:=by
 rcases h.okA (nd j q) with h1 | ⟨h1,h2,h3,h4,h5⟩
 ·rw[h1] at hi;simp[aan] at hi
 ·by_cases e:(ats t (nd j q)).kind=1
  ·rw[h4 e] at hi;simp at hi
  ·have e2:(ats t (nd j q)).kind=2:=by omega
   obtain ⟨a1,a2,a3⟩:=(h5 e2).2.2 i hi;obtain ⟨l1,l2⟩:=am0 hj hq;rw[l1] at a1;rw[l2] at a2;obtain ⟨k,rfl⟩:=Int.eq_ofNat_of_zero_le (show 0≤i by omega);rw[Int.toNat_natCast] at a3;refine ⟨k,rfl,(ai7 j q k).1 ⟨by omega,?_⟩,a3⟩;have:=aaC j;omega
def ap5 (t:List Nod)(name:Int):Nat:=(List.range (lvs t)).findIdx fun i=>decide ((ats t (2*i)).kind=1∧(ats t (2*i)).name=name)
def agm (t:List Nod)(name:Int):Bool:=decide (ap5 t name<lvs t)
def alQ (t:List Nod)(name:Int):Int:=if agm t name then (ap5 t name:Int) else 0
theorem ack {n:Nat}{p:Nat→Bool}(h:(List.range n).findIdx p<n):p ((List.range n).findIdx p)=true:=by
 have:=List.findIdx_getElem (p:=p) (xs:=List.range n) (w:=by rw[List.length_range];exact h);rwa [List.getElem_range] at this
theorem afa {n:Nat}{p:Nat→Bool}{i:Nat}(h:i<(List.range n).findIdx p):p i=false:=by
 have h2:i<(List.range n).length:=Nat.lt_of_lt_of_le h List.findIdx_le_length;have:=List.not_of_lt_findIdx (p:=p) (xs:=List.range n) h;rw[List.getElem_range] at this;simpa using this
theorem adD (n:Nat)(p:Nat→Bool):(List.range n).findIdx p≤n:=by
 have:=List.findIdx_le_length (p:=p) (xs:=List.range n);rwa [List.length_range] at this
theorem adE {n:Nat}{p:Nat→Bool}{i:Nat}(hi:i≤n)(h1:i<n→p i=true)(h2:∀ k,k<i→p k=false):(List.range n).findIdx p=i:=by
 rcases Nat.lt_trichotomy ((List.range n).findIdx p) i with h | h | h
 ·have:=ack (p:=p) (n:=n) (by omega)
  rw[h2 _ h] at this;cases this
 ·exact h
 ·have h3:=afa h
  have h4:=adD n p;rw[h1 (by omega)] at h3;cases h3
def gapN (t:List Nod):Nat:=(List.range (lvs t)).findIdx fun i=>decide ((ats t (2*i)).kind=0)
def cutI (l:List Int)(n:Int):Nat:=l.findIdx fun x=>decide (n<x)
def putN (l:List Int)(n:Int):List Int:=l.take (cutI l n)++n :: l.drop (cutI l n)
def lgT (t:List Nod):Nat:=(lvs t).log2
def aau (t:List Nod)(i:Nat):List Nat:=aah (lgT t) 0 i
def aai (t:List Nod):List Nod:=if gapN t=lvs t then t++List.replicate (t.length+1) aan else t
def agn (n:Nod)(i:Nat):Nod:=⟨n.kind,n.name,n.pub,putN n.un i,n.hash⟩
def abV (o:List Nod)(i:Nat)(x:Nat):List Nod:=if (ats o x).kind=2 then o.set x (agn (ats o x) i) else o
def addT (t:List Nod)(name:Int)(pub:List UInt8):List Nod:=
 (aau (aai t) (gapN t)).foldl (fun o x=>abV o (gapN t) x) ((aai t).set (2*gapN t) (aag name pub))
def addE (t:List Nod)(name:Int)(pub:List UInt8):Int:=
 if mayP name pub then (if agm t name then 12 else if gapN t=1024 then 4 else 0) else 1
def addV (t:List Nod)(name:Int)(pub:List UInt8):List Nod:=if addE t name pub=0 then addT t name pub else t
def addI (t:List Nod)(name:Int)(pub:List UInt8):Int:=if addE t name pub=0 then (gapN t:Int) else 0
def aar (t:List Nod)(i:Int):Prop:=0≤i∧i<lvs t∧(ats t (2*i.toNat)).kind=1
instance (t:List Nod) (i:Int):Decidable (aar t i):=by unfold aar;infer_instance
def ajc (t:List Nod)(i:Nat):List Nod:=(aau t i).foldl (fun o x=>o.set x aan) t
def aq8 (t:List Nod)(f:Nat):Prop:=∀ i,f≤i→i<lvs t→(ats t (2*i)).kind=0
instance (t:List Nod) (f:Nat):Decidable (aq8 t f):=
 decidable_of_iff (∀ i,i<lvs t→f≤i→(ats t (2*i)).kind=0) ⟨fun h i h1 h2=>h i h2 h1,fun h i h1 h2=>h i h2 h1⟩
def aq9 (t:List Nod)(i:Nat):List Nod:=(ajc t i).set (2*i) aan
def updE (t:List Nod)(i:Int)(pub:List UInt8):Int:=if pub.length=32 then (if aar t i then 0 else 11) else 1
def updT (t:List Nod)(i:Nat)(pub:List UInt8):List Nod:=(ajc t i).set (2*i) (aag (ats t (2*i)).name pub)
def updV (t:List Nod)(i:Int)(pub:List UInt8):List Nod:=if updE t i pub=0 then updT t i.toNat pub else t
def resF (t:List Nod):Nat→Nat→List Int
 | 0,q=>if (ats t (nd 0 q)).kind=0 then [] else ((nd 0 q:Nat):Int) :: (ats t (nd 0 q)).un.map (2*·)
 | j+1,q=>if (ats t (nd (j+1) q)).kind=0 then resF t j (2*q)++resF t j (2*q+1) else ((nd (j+1) q:Nat):Int) :: (ats t (nd (j+1) q)).un.map (2*·)
def resV (t:List Nod)(x:Int):List Int:=if 0≤x∧x<t.length then resF t (lev x.toNat) (qOf x.toNat) else []
def adN (t:List Nod)(m:Nat):Prop:=t.length≤m∧∀ n∈t,n.pub.length≤40∧n.hash.length≤40∧n.un.length≤m
end Go.Proofs.YthmhklmkgkfcpaaGreatDoor
