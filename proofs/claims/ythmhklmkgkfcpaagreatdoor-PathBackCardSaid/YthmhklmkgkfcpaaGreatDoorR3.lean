import Derived.Test.YthmhklmkgkfcpaaGreatDoorR2
import Derived.Lib.TrailingZeros
import Derived.Laws.Bits64b
import Derived.WalkKit
import Derived.RangeFuncNested
import Derived.RangeFuncBound
import Derived.RangeFuncCalls
import Derived.RangeFuncLeaves
import Derived.RangeFuncFrom
import Derived.Shelf.Abstract
import Derived.Shelf.RegionOpen
import Derived.OwnWalkIn
import Derived.TacticsInMore
import Derived.LoopNIn
import Derived.LoopIn
set_option linter.unusedVariables false
set_option linter.unusedSimpArgs false
set_option maxHeartbeats 8000000
set_option maxRecDepth 100000
namespace Go.Proofs.YthmhklmkgkfcpaaGreatDoor
open Go.RowKit
def nd (j q:Nat):Nat:=2 ^ (j+1)*q+2 ^ j - 1
theorem aaC (k:Nat):1≤2 ^ k:=Nat.one_le_two_pow
theorem aam (k:Nat):2 ^ (k+1)=2*2 ^ k:=by rw[Nat.pow_succ];omega
theorem abE (q:Nat):nd 0 q=2*q:=by unfold nd;simp
theorem agn (j q:Nat):nd (j+1) q=2*nd j q+1:=by
 unfold nd;rw[aam (j+1),aam j,Nat.mul_assoc];have:=aaC j;omega
theorem ana (j q:Nat):nd (j+1) q / 2=nd j q:=by rw[agn];omega
theorem ago (j q:Nat):nd (j+1) q % 2=1:=by rw[agn];omega
theorem ais (q:Nat):nd 0 q % 2=0:=by rw[abE];omega
theorem afh (j q:Nat):nd (j+1) q - 2 ^ j=nd j (2*q)∧2 ^ j≤nd (j+1) q:=by
 unfold nd;rw[aam (j+1),aam j];have:=aaC j;have e:2*(2*2 ^ j)*q=2*2 ^ j*(2*q):=by rw[Nat.mul_comm 2 (2*2 ^ j),Nat.mul_assoc]
 rw[e];omega
theorem aec (j q:Nat):nd (j+1) q+2 ^ j=nd j (2*q+1):=by
 unfold nd;rw[aam (j+1),aam j,Nat.mul_add];have:=aaC j;have e:2*(2*2 ^ j)*q=2*2 ^ j*(2*q):=by rw[Nat.mul_comm 2 (2*2 ^ j),Nat.mul_assoc]
 rw[e];omega
theorem aeI {j q i r:Nat}(h:nd j q=nd i r):j=i∧q=r:=by
 induction j generalizing i with
 | zero=>
  cases i with
  | zero=>rw[abE,abE] at h;exact ⟨rfl,by omega⟩
  | succ i=>have h1:=ais q;have h2:=ago i r;omega
 | succ j ih=>
  cases i with
  | zero=>have h1:=ais r;have h2:=ago j q;omega
  | succ i=>
   rw[agn,agn] at h
   obtain ⟨h1,h2⟩:=ih (i:=i) (by omega)
   exact ⟨by omega,h2⟩
theorem ait:∀ (K x:Nat),x<2 ^ (K+1) - 1→∃ j q,x=nd j q∧j≤K∧q<2 ^ (K - j)
 | 0,x,h=>⟨0,0,by simp at h;rw[abE];omega,Nat.le_refl _,by simp⟩
 | K+1,x,h=>by
  by_cases hx:x % 2=0
  ·refine ⟨0,x / 2,by rw[abE];omega,by omega,?_⟩
   rw[aam] at h
   rw[Nat.sub_zero]
   omega
  ·obtain ⟨j,q,e,hj,hq⟩:=ait K (x / 2) (by rw[aam] at h;omega)
   refine ⟨j+1,q,by rw[agn,← e];omega,by omega,?_⟩
   rw[Nat.add_sub_add_right]
   exact hq
theorem ahq {j q K:Nat}(hj:j≤K)(hq:q<2 ^ (K - j)):nd j q<2 ^ (K+1) - 1:=by
 have e:2 ^ (K+1)=2 ^ (j+1)*2 ^ (K - j):=by rw[← Nat.pow_add];congr 1;omega
 have h1:2 ^ (j+1)*(q+1)≤2 ^ (K+1):=by rw[e];exact Nat.mul_le_mul_left _ hq
 rw[Nat.mul_add,Nat.mul_one] at h1;unfold nd;have:=aaC j;have:=aam j;omega
theorem nd_in {j q K:Nat}(h:nd j q<2 ^ (K+1) - 1):j≤K∧q<2 ^ (K - j):=by
 obtain ⟨i,r,e,hi,hr⟩:=ait K _ h;obtain ⟨rfl,rfl⟩:=aeI e;exact ⟨hi,hr⟩
theorem aku (K:Nat):nd K 0=2 ^ K - 1:=by unfold nd;simp
theorem ahN {j q K:Nat}(hq:q<2 ^ (K - j))(hj:j≤K):nd j q=2 ^ K - 1↔j=K:=by
 constructor
 ·intro h
  rw[← aku] at h;exact (aeI h).1
 ·rintro rfl
  simp at hq;subst hq;exact aku j
def levF:Nat→Nat→Nat
 | 0,_=>0
 | f+1,x=>if x % 2=1 then levF f (x / 2)+1 else 0
def lev (x:Nat):Nat:=levF 12 x
theorem anb:∀ (f j q:Nat),j<f→levF f (nd j q)=j
 | 0,j,q,h=>by omega
 | f+1,0,q,h=>by unfold levF;rw[if_neg (by have:=ais q;omega)]
 | f+1,j+1,q,h=>by unfold levF;rw[if_pos (ago j q),ana,anb f j q (by omega)]
theorem adM (j q:Nat)(h:j≤11):lev (nd j q)=j:=anb 12 j q (by omega)
theorem anc (j q:Nat):(nd j q - (2 ^ j - 1)) / 2=2 ^ j*q∧(nd j q+(2 ^ j - 1)) / 2=2 ^ j*q+2 ^ j - 1:=by
 unfold nd;rw[aam j,Nat.mul_assoc];have:=aaC j;constructor <;> omega
theorem ajn (j q b:Nat):2 ^ j*q≤b∧b≤2 ^ j*q+2 ^ j - 1↔b / 2 ^ j=q:=by
 have hp:=aaC j;constructor
 ·rintro ⟨h1,h2⟩
  refine Nat.le_antisymm ?_ ?_
  ·exact Nat.lt_succ_iff.1 ((Nat.div_lt_iff_lt_mul (by omega)).2 (by rw[Nat.succ_mul,Nat.mul_comm];omega))
  ·exact (Nat.le_div_iff_mul_le (by omega)).2 (by rw[Nat.mul_comm];exact h1)
 ·rintro rfl
  have h1:=Nat.div_add_mod b (2 ^ j);have h2:=Nat.mod_lt b (show 0<2 ^ j by omega);omega
def sq (q:Nat):Nat:=if q % 2=0 then q+1 else q - 1
def aag (K j q:Nat):List Nat:=(List.range (K - j)).map fun i=>nd (j+1+i) (q / 2 ^ (i+1))
def aa6 (K j q:Nat):List Nat:=(List.range (K - j)).map fun i=>nd (j+i) (sq (q / 2 ^ i))
theorem acc (K j q:Nat):(aag K j q).length=K - j:=by simp[aag]
theorem ac3 (K j q:Nat):(aa6 K j q).length=K - j:=by simp[aa6]
theorem ane (K j q i:Nat)(h:i<K - j):(aag K j q)[i]?=some (nd (j+1+i) (q / 2 ^ (i+1))):=by
 unfold aag;rw[List.getElem?_map,List.getElem?_range h];rfl
theorem akv (K j q i:Nat)(h:i<K - j):(aa6 K j q)[i]?=some (nd (j+i) (sq (q / 2 ^ i))):=by
 unfold aa6;rw[List.getElem?_map,List.getElem?_range h];rfl
theorem ahO (K j q i:Nat)(h:i<K - j):(aag K j q).take (i+1)=(aag K j q).take i++[nd (j+1+i) (q / 2 ^ (i+1))]:=by
 have hi:i<(aag K j q).length:=by rw[acc];exact h
 have e:=ane K j q i h;rw[List.getElem?_eq_getElem hi] at e;rw[List.take_succ_eq_append_getElem hi,Option.some.inj e]
theorem ajo (K j q i:Nat)(h:i<K - j):(aa6 K j q).take (i+1)=(aa6 K j q).take i++[nd (j+i) (sq (q / 2 ^ i))]:=by
 have hi:i<(aa6 K j q).length:=by rw[ac3];exact h
 have e:=akv K j q i h;rw[List.getElem?_eq_getElem hi] at e;rw[List.take_succ_eq_append_getElem hi,Option.some.inj e]
theorem afi {K j q i:Nat}(hq:q<2 ^ (K - j))(hi:i≤K - j):q / 2 ^ i<2 ^ (K - (j+i)):=by
 rw[Nat.div_lt_iff_lt_mul (by have:=aaC i;omega),← Nat.pow_add];have e:K - (j+i)+i=K - j:=by omega
 rw[e];exact hq
theorem agp (q i:Nat):q / 2 ^ (i+1)=q / 2 ^ i / 2:=by rw[Nat.pow_succ,Nat.div_div_eq_div_mul]
def ajp:Nat→Nat→Nat→Nat→Nat
 | 0,j,_,_=>j
 | f+1,j,a,b=>if a / 2 ^ j=b / 2 ^ j then j else ajp f (j+1) a b
def meet (a b:Nat):Nat:=ajp 10 0 a b
theorem ahP:∀ (f j a b:Nat),a / 2 ^ (j+f)=b / 2 ^ (j+f)→(∀ i,i<j→a / 2 ^ i≠b / 2 ^ i) →
  j≤ajp f j a b∧ajp f j a b≤j+f∧a / 2 ^ (ajp f j a b)=b / 2 ^ (ajp f j a b)∧∀ i,i<ajp f j a b→a / 2 ^ i≠b / 2 ^ i
 | 0,j,a,b,h,hi=>⟨Nat.le_refl _,Nat.le_refl _,h,hi⟩
 | f+1,j,a,b,h,hi=>by
  unfold ajp
  by_cases e:a / 2 ^ j=b / 2 ^ j
  ·rw[if_pos e]
   exact ⟨Nat.le_refl _,by omega,e,hi⟩
  ·rw[if_neg e]
   have h2:=ahP f (j+1) a b (by rw[show j+1+f=j+(f+1) by omega];exact h) (fun i hij=>by
    rcases Nat.lt_or_eq_of_le (Nat.lt_succ_iff.1 hij) with h3 | h3
    ·exact hi i h3
    ·rw[h3];exact e)
   exact ⟨by omega,by omega,h2.2.2.1,h2.2.2.2⟩
theorem agq {a b K:Nat}(hK:K≤10)(ha:a<2 ^ K)(hb:b<2 ^ K):meet a b≤K∧a / 2 ^ (meet a b)=b / 2 ^ (meet a b)∧∀ i,i<meet a b→a / 2 ^ i≠b / 2 ^ i:=by
 have hp:(2:Nat) ^ K≤2 ^ 10:=Nat.pow_le_pow_right (by omega) hK;obtain ⟨_,_,h3,h4⟩:=ahP 10 0 a b (by rw[Nat.zero_add,Nat.div_eq_of_lt (by omega),Nat.div_eq_of_lt (by omega)]) (fun i h=>by omega);refine ⟨?_,h3,h4⟩;refine Nat.le_of_not_lt fun h=>h4 K h ?_
 rw[Nat.div_eq_of_lt ha,Nat.div_eq_of_lt hb]
def isTB (n:Int):Bool:=(List.range 11).any fun k=>decide (n=((2 ^ k:Nat):Int))
theorem aeJ (K:Nat)(h:K≤10):isTB ((2 ^ K:Nat):Int)=true:=by
 unfold isTB;rw[List.any_eq_true];exact ⟨K,by simp;omega,by simp⟩
theorem aeK (n:Int):isTB n=true↔∃ K,K≤10∧n=((2 ^ K:Nat):Int):=by
 constructor
 ·intro h
  unfold isTB at h;rw[List.any_eq_true] at h;obtain ⟨K,h1,h2⟩:=h;exact ⟨K,by simp at h1;omega,of_decide_eq_true h2⟩
 ·rintro ⟨K,h,rfl⟩
  exact aeJ K h
theorem acB {n:Int}(h:isTB n=true):1≤n∧n≤1024:=by
 obtain ⟨K,hK,rfl⟩:=(aeK n).1 h;have h1:(2:Nat) ^ K≤2 ^ 10:=Nat.pow_le_pow_right (by omega) hK;have h2:=aaC K;generalize 2 ^ K=M at *;omega
def inB (x n:Int):Bool:=isTB n && (decide (0≤x) && decide (x<2*n - 1))
theorem adN (x n:Int):inB x n=true↔∃ K j q,K≤10∧n=((2 ^ K:Nat):Int)∧x=((nd j q:Nat):Int)∧j≤K∧q<2 ^ (K - j):=by
 unfold inB;simp only[Bool.and_eq_true,decide_eq_true_eq];constructor
 ·rintro ⟨h1,h2,h3⟩
  obtain ⟨K,hK,rfl⟩:=(aeK n).1 h1;obtain ⟨y,rfl⟩:=Int.eq_ofNat_of_zero_le h2;obtain ⟨j,q,e,hj,hq⟩:=ait K y (by rw[aam];omega);exact ⟨K,j,q,hK,rfl,by rw[e],hj,hq⟩
 ·rintro ⟨K,j,q,hK,rfl,rfl,hj,hq⟩
  have h:=ahq hj hq;rw[aam] at h;exact ⟨aeJ K hK,by omega,by omega⟩
theorem aaJ (x:Int):(0≤x∧x≤2046)↔∃ j q,x=((nd j q:Nat):Int)∧j≤10∧q<2 ^ (10 - j):=by
 constructor
 ·rintro ⟨h1,h2⟩
  obtain ⟨y,rfl⟩:=Int.eq_ofNat_of_zero_le h1;obtain ⟨j,q,e,hj,hq⟩:=ait 10 y (by omega);exact ⟨j,q,by rw[e],hj,hq⟩
 ·rintro ⟨j,q,rfl,hj,hq⟩
  have h:=ahq hj hq;omega
theorem acd {K:Nat}(h:K≤10):2 ^ K≤1024:=by
 have:(2:Nat) ^ K≤2 ^ 10:=Nat.pow_le_pow_right (by omega) h;omega
theorem abn {K j q:Nat}(hK:K≤10)(hj:j≤K)(hq:q<2 ^ (K - j)):nd j q≤2046∧j≤10∧q<2 ^ (10 - j):=by
 have h:=ahq hj hq;have h2:=acd hK;rw[aam] at h;refine ⟨by omega,by omega,Nat.lt_of_lt_of_le hq (Nat.pow_le_pow_right (by omega) (by omega))⟩
def qOf (x:Nat):Nat:=x / 2 ^ (lev x+1)
theorem ahQ (j q:Nat)(h:j≤11):qOf (nd j q)=q:=by
 unfold qOf;rw[adM j q h];unfold nd;have h1:=aaC j;have h2:=aam j;have e:2 ^ (j+1)*q+2 ^ j - 1=(2 ^ j - 1)+2 ^ (j+1)*q:=by omega
 rw[e,Nat.add_mul_div_left _ _ (by omega),Nat.div_eq_of_lt (by omega),Nat.zero_add]
def lgN (n:Int):Nat:=n.toNat.log2
theorem anf:∀ K,K≤10→lgN ((2 ^ K:Nat):Int)=K:=by
 intro K h;unfold lgN;rw[Int.toNat_natCast];have:∀ K:Fin 11,(2 ^ K.1).log2=K.1:=by decide
 exact this ⟨K,by omega⟩
def widE (n:Int):Int:=if isTB n then 0 else 1
def widV (n:Int):Int:=if isTB n then 2*n - 1 else 0
def okN (x:Int):Prop:=0≤x∧x≤2046
instance (x:Int):Decidable (okN x):=by unfold okN;infer_instance
def levV (x:Int):Int:=if okN x then (lev x.toNat:Int) else 0
def chE (x:Int):Int:=if levV x=0 then 1 else 0
def lefV (x:Int):Int:=if levV x=0 then 0 else x - ((2 ^ ((levV x).toNat - 1):Nat):Int)
def rigV (x:Int):Int:=if levV x=0 then 0 else x+((2 ^ ((levV x).toNat - 1):Nat):Int)
theorem abF {j q:Nat}(hj:j≤10)(hq:q<2 ^ (10 - j)):levV ((nd j q:Nat):Int)=(j:Int):=by
 unfold levV;rw[if_pos (show okN ((nd j q:Nat):Int) from (aaJ _).2 ⟨j,q,rfl,hj,hq⟩),Int.toNat_natCast,adM j q (by omega)]
theorem agr {x:Int}(h:¬okN x):levV x=0:=if_neg h
theorem aql {q:Nat}(hq:q<2 ^ 10):chE ((nd 0 q:Nat):Int)=1∧lefV ((nd 0 q:Nat):Int)=0∧rigV ((nd 0 q:Nat):Int)=0:=by
 have e:levV ((nd 0 q:Nat):Int)=0:=abF (by omega) hq;unfold chE lefV rigV;rw[e];exact ⟨rfl,rfl,rfl⟩
theorem aeg {j q:Nat}(hj:j+1≤10)(hq:q<2 ^ (10 - (j+1))):chE ((nd (j+1) q:Nat):Int)=0∧lefV ((nd (j+1) q:Nat):Int)=((nd j (2*q):Nat):Int)∧rigV ((nd (j+1) q:Nat):Int)=((nd j (2*q+1):Nat):Int):=by
 have e:=abF hj hq;have e0:¬(((j+1:Nat):Int)=0):=by omega
 unfold chE lefV rigV;rw[e,if_neg e0,if_neg e0,if_neg e0,Int.toNat_natCast,Nat.add_sub_cancel];obtain ⟨h1,h2⟩:=afh j q;have h3:=aec j q;exact ⟨rfl,by omega,by omega⟩
def parN (x:Nat):Nat:=nd (lev x+1) (qOf x / 2)
def sibN (x:Nat):Nat:=nd (lev x) (sq (qOf x))
def paE (x n:Int):Int:=if inB x n then (if x=n - 1 then 11 else 0) else 1
def paV (x n:Int):Int:=if paE x n=0 then (parN x.toNat:Int) else 0
def siV (x n:Int):Int:=if paE x n=0 then (sibN x.toNat:Int) else 0
def arE (x n:Int):Int:=if inB x n then 0 else 1
def ang (x n:Int):List Nat:=if inB x n then aag (lgN n) (lev x.toNat) (qOf x.toNat) else []
def aqm (x n:Int):List Nat:=if inB x n then aa6 (lgN n) (lev x.toNat) (qOf x.toNat) else []
theorem pa_no {x n:Int}(h:¬inB x n=true):paE x n=1∧paV x n=0∧siV x n=0:=by
 have e:paE x n=1:=if_neg h;unfold paV siV;rw[e];exact ⟨rfl,rfl,rfl⟩
theorem aqn {K:Nat}(hK:K≤10):paE ((nd K 0:Nat):Int) ((2 ^ K:Nat):Int)=11∧paV ((nd K 0:Nat):Int) ((2 ^ K:Nat):Int)=0∧siV ((nd K 0:Nat):Int) ((2 ^ K:Nat):Int)=0:=by
 have h1:=aku K;have h2:=aaC K;have e:paE ((nd K 0:Nat):Int) ((2 ^ K:Nat):Int)=11:=by
  unfold paE;rw[if_pos ((adN _ _).2 ⟨K,K,0,hK,rfl,rfl,Nat.le_refl _,by simp⟩),if_pos (by omega)]
 unfold paV siV;rw[e];exact ⟨rfl,rfl,rfl⟩
theorem ap8 {K j q:Nat}(hK:K≤10)(hj:j<K)(hq:q<2 ^ (K - j)):
  paE ((nd j q:Nat):Int) ((2 ^ K:Nat):Int)=0∧paV ((nd j q:Nat):Int) ((2 ^ K:Nat):Int)=((nd (j+1) (q / 2):Nat):Int)∧siV ((nd j q:Nat):Int) ((2 ^ K:Nat):Int)=((nd j (sq q):Nat):Int):=by
 have h2:=aaC K;have h3:=ahN hq (by omega);have e:paE ((nd j q:Nat):Int) ((2 ^ K:Nat):Int)=0:=by
  unfold paE;rw[if_pos ((adN _ _).2 ⟨K,j,q,hK,rfl,rfl,by omega,hq⟩),if_neg];intro h;have:=h3.1 (by omega);omega
 unfold paV siV parN sibN;rw[e,if_pos rfl,if_pos rfl,Int.toNat_natCast,adM j q (by omega),ahQ j q (by omega)];exact ⟨rfl,rfl,rfl⟩
theorem ar_no {x n:Int}(h:¬inB x n=true):arE x n=1∧ang x n=[]∧aqm x n=[]:=⟨if_neg h,if_neg h,if_neg h⟩
theorem ap9 {K j q:Nat}(hK:K≤10)(hj:j≤K)(hq:q<2 ^ (K - j)):
  arE ((nd j q:Nat):Int) ((2 ^ K:Nat):Int)=0∧ang ((nd j q:Nat):Int) ((2 ^ K:Nat):Int)=aag K j q∧aqm ((nd j q:Nat):Int) ((2 ^ K:Nat):Int)=aa6 K j q:=by
 have h:=(adN _ _).2 ⟨K,j,q,hK,rfl,rfl,hj,hq⟩;unfold arE ang aqm;rw[if_pos h,if_pos h,if_pos h,Int.toNat_natCast,adM j q (by omega),ahQ j q (by omega),anf K hK];exact ⟨rfl,rfl,rfl⟩
def okC (a b n:Int):Prop:=isTB n=true∧0≤a∧0≤b∧a<n∧b<n
instance (a b n:Int):Decidable (okC a b n):=by unfold okC;infer_instance
def coN (a b:Nat):Nat:=nd (meet a b) (a / 2 ^ meet a b)
def loV (x:Int):Int:=if okN x then ((2 ^ lev x.toNat*qOf x.toNat:Nat):Int) else 0
def hiV (x:Int):Int:=if okN x then ((2 ^ lev x.toNat*qOf x.toNat+2 ^ lev x.toNat - 1:Nat):Int) else -1
theorem arn {x:Int}(h:¬okN x):loV x=0∧hiV x = -1:=⟨if_neg h,if_neg h⟩
theorem anh {j q:Nat}(hj:j≤10)(hq:q<2 ^ (10 - j)):loV ((nd j q:Nat):Int)=((2 ^ j*q:Nat):Int)∧hiV ((nd j q:Nat):Int)=((2 ^ j*q+2 ^ j - 1:Nat):Int):=by
 have h:okN ((nd j q:Nat):Int):=(aaJ _).2 ⟨j,q,rfl,hj,hq⟩;unfold loV hiV;rw[if_pos h,if_pos h,Int.toNat_natCast,adM j q (by omega),ahQ j q (by omega)];exact ⟨rfl,rfl⟩
theorem ada (a b:Nat)(ha:a<9223372036854775808)(hb:b<9223372036854775808):bits .and .i64 (a:Int) (b:Int)=((a &&& b:Nat):Int):=by
 have hx:a &&& b<2 ^ 63:=Nat.and_lt_two_pow _ (by omega);have h1:(BitVec.ofInt 64 (a:Int)).toNat=a:=by
  rw[BitVec.ofInt_natCast,BitVec.toNat_ofNat];exact Nat.mod_eq_of_lt (by omega)
 have h2:(BitVec.ofInt 64 (b:Int)).toNat=b:=by
  rw[BitVec.ofInt_natCast,BitVec.toNat_ofNat];exact Nat.mod_eq_of_lt (by omega)
 show IntKind.i64.wrap ((BitVec.ofInt 64 (a:Int) &&& BitVec.ofInt 64 (b:Int)).toNat:Int)=_
 rw[BitVec.toNat_and,h1,h2];exact IntWalk.i64_in _ (by omega)
theorem alr:∀ (k m f:Nat),k<f→Lib.ctzFrom f (2 ^ k*(2*m+1))=k
 | 0,m,f,h=>by
  obtain ⟨f,rfl⟩:∃ g,f=g+1:=⟨f - 1,by omega⟩
  unfold Lib.ctzFrom
  rw[if_pos (by simp)]
 | k+1,m,f,h=>by
  obtain ⟨f,rfl⟩:∃ g,f=g+1:=⟨f - 1,by omega⟩
  have e:2 ^ (k+1)*(2*m+1)=2*(2 ^ k*(2*m+1)):=by rw[Nat.pow_succ,Nat.mul_comm (2 ^ k) 2,Nat.mul_assoc]
  unfold Lib.ctzFrom
  rw[e,if_neg (by omega),show 2*(2 ^ k*(2*m+1)) / 2=2 ^ k*(2*m+1) by omega,alr k m f (by omega)]
  omega
theorem aoP (j q:Nat):nd j q+1=2 ^ j*(2*q+1):=by
 unfold nd;have h1:=aaC j;have e:2 ^ j*(2*q+1)=2 ^ (j+1)*q+2 ^ j:=by rw[Nat.mul_add,Nat.mul_one,aam,← Nat.mul_assoc,Nat.mul_comm (2 ^ j) 2]
 rw[e];omega
theorem aro (j q:Nat)(hj:j≤10):Lib.ctz 64 (nd j q+1)=j:=by
 rw[aoP];have:2 ^ j*(2*q+1)≠0:=by have:=aaC j;exact Nat.mul_ne_zero (by omega) (by omega)
 unfold Lib.ctz;rw[if_neg this];exact alr j q 64 (by omega)
theorem aoQ (j q:Nat):nd j q &&& 2 ^ (j+1)=if q % 2=0 then 0 else 2 ^ (j+1):=by
 have h1:(nd j q).testBit (j+1)=decide (q % 2=1):=by
  have e:nd j q=(2 ^ j - 1)+2 ^ (j+1)*q:=by unfold nd;have:=aaC j;omega
  rw[Nat.testBit_eq_decide_div_mod_eq,e,Nat.add_mul_div_left _ _ (by exact Nat.two_pow_pos _),Nat.div_eq_of_lt (by have:=aaC j;rw[aam];omega),Nat.zero_add]
 apply Nat.eq_of_testBit_eq;intro i;rw[Nat.testBit_and,Nat.testBit_two_pow];by_cases hi:j+1=i
 ·subst hi
  rw[h1];by_cases hq:q % 2=0
  ·rw[if_pos hq];simp;omega
  ·rw[if_neg hq,Nat.testBit_two_pow];simp;omega
 ·have e:decide (j+1=i)=false:=decide_eq_false hi
  rw[e,Bool.and_false];split
  ·simp
  ·rw[Nat.testBit_two_pow,e]
theorem ani (j q:Nat)(h:q % 2=0):nd j q+2 ^ j=nd (j+1) (q / 2):=by
 obtain ⟨r,rfl⟩:∃ r,q=2*r:=⟨q / 2,by omega⟩;have h1:=afh j r;rw[show 2*r / 2=r by omega];omega
theorem als (j q:Nat)(h:¬q % 2=0):nd j q - 2 ^ j=nd (j+1) (q / 2)∧2 ^ j≤nd j q:=by
 obtain ⟨r,rfl⟩:∃ r,q=2*r+1:=⟨q / 2,by omega⟩;have h1:=aec j r;rw[show (2*r+1) / 2=r by omega];omega
theorem aqo (j q:Nat):nd j q+nd j (sq q)=2*nd (j+1) (q / 2):=by
 by_cases h:q % 2=0
 ·have h1:=ani j q h
  have h2:=aec j (q / 2);have e:sq q=2*(q / 2)+1:=by unfold sq;rw[if_pos h];omega
  rw[e];omega
 ·obtain ⟨h1,h3⟩:=als j q h
  have h2:=afh j (q / 2);have e:sq q=2*(q / 2):=by unfold sq;rw[if_neg h];omega
  rw[e];omega
theorem anj:∀ n:Fin 1025,(decide (1≤n.1) && decide (n.1 &&& (n.1 - 1)=0))=(List.range 11).any fun k=>decide (n.1=2 ^ k):=by decide +kernel
theorem ank (n:Nat)(h1:1≤n)(h2:n≤1024):isTB (n:Int)=decide (n &&& (n - 1)=0):=by
 have h:=anj ⟨n,by omega⟩;simp only[h1,decide_true,Bool.true_and] at h;rw[h];unfold isTB;congr 1
 funext k
 congr 1
 exact propext ⟨fun e=>by exact_mod_cast e,fun e=>by exact_mod_cast e⟩
theorem aoR (n:Int)(h:¬(1≤n∧n≤1024)):isTB n=false:=by
 rw[Bool.eq_false_iff];exact fun e=>h (acB e)
structure Same (X:Nat→Prop)(A B:World):Prop where
 size:A.heap.size≤B.heap.size
 block:∀ k,k<A.heap.size→¬X k→B.heap[k]?=A.heap[k]?
theorem Same.refl (X:Nat→Prop)(A:World):Same X A A:=⟨Nat.le_refl _,fun _ _ _=>rfl⟩
theorem Same.trans {X:Nat→Prop}{A B C:World}(h:Same X A B)(k:Same X B C):Same X A C:=
 ⟨Nat.le_trans h.size k.size,fun i hi hx=>(k.block i (Nat.lt_of_lt_of_le hi h.size) hx).trans (h.block i hi hx)⟩
theorem Same.of_kp {X:Nat→Prop}{A B:World}(h:Kp A B):Same X A B:=⟨h.size,fun k hk _=>h.block k hk⟩
theorem Same.setCell {X:Nat→Prop}{A B:World}(h:Same X A B)(p:Addr)(v:Value)(hx:X p.block):Same X A (B.setCell p v):=
 ⟨by simpa using h.size,fun k hk hn=>(Below.heap_setCell B p v k (fun e=>hn (e▸hx))).trans (h.block k hk hn)⟩
theorem Same.mono {X Y:Nat→Prop}{A B:World}(h:Same X A B)(hxy:∀ k,X k→Y k):Same Y A B:=⟨h.size,fun k hk hn=>h.block k hk (fun hx=>hn (hxy k hx))⟩
theorem Same.drew {X:Nat→Prop}{A B:World}(h:Same X A B):Same X A B.drew:=⟨h.size,h.block⟩
theorem Same.drewN {X:Nat→Prop}{A B:World}(h:Same X A B)(n:Nat):Same X A (B.drewN n):=h.trans (Same.of_kp ((Kp.refl B).drewN n))
theorem abL {B D:Nat}{a W:World}(h:Below B a W)(hD:B≤D)(hB:B≤W.heap.size)(o:Obj):Below B a (W.putObj D o):=
 Below.grown h (grownBy_putObj' W D o) hB (fun k e=>by cases e;exact hD)
section
variable {F : Fence} {n : Nat} {P : Program}
def aiu (F:Fence)(m:Nat)(P:Program)(gf:Nat)(lb:Array Value)(encs:Nat→Array Value)(N:Nat)(X:Nat→Prop)(w:World):Prop:=
 ∀ (l:Nat) (J:Nat→World→Prop) (W:World),Below w.heap.size w W→w.heap.size≤l→l<W.heap.size→(∀ i A B,J i A→Below W.heap.size A B→J i B) →
  (∀ i A,i<N→J i A→YieldAt F (m - 1) P l (encs i) A fun e B=>e=.returned (.bool true)∧J (i+1) B∧Same (fun k=>k=l∨X k) A B) →
  J 0 W→CallsIn F m P gf (#[.func (.yield l) #[] #[]]++lb) W fun e B=>(∃ v,e=.returned v)∧J N B
theorem abt {g:Operand}{ps:Array Tmp}{assign body:Code}{Q:Exit→Act→World→Prop}{a:Act}{w:World}
  (hro:F.round=none) (h1:1≤n) {gf:Nat} {lb:Array Value} (hg:a.eval g=.func (.func gf) #[] lb) (hFg:F.fn gf) (eg:∀ args w,(callFunc gf args).run P w=.ok (.enter gf args) w)
  {encs:Nat→Array Value} {N:Nat} {X:Nat→Prop} (hX:∀ k,X k→k<w.heap.size) (hit:aiu F (n - 1) P gf lb encs N X w) (hps:∀ i,(encs i).size=ps.size)
  (I:Nat→World→Prop) (hI:∀ i A B,I i A→Below w.heap.size A B→I i B) (h0:I 0 w) (a₁:Nat→Act)
  (hassign:∀ (l:Nat) (i:Nat) (W:World) (K:Act→World→Prop),K (a₁ i) W →
   assign.wpIn (F.inRound l) (n - 1 - 1) P (Exit.then K (fun _ _ _=>False)) { tmps:=(ps.zip (encs i)).foldl (fun t (p,v)=>t.setIfInBounds p v) a.tmps,defers:=[] } W)
  (hbody:∀ (l:Nat) (i:Nat) (W:World),I i W→i<N→body.wpIn (F.inRound l) (n - 1 - 1) P (fun e _ W'=>e=.normal∧Same X W W'∧I (i+1) W') (a₁ i) W)
  (hdone:∀ (D:Nat) (W:World),w.heap.size≤D→I N W→W.heap[D]?=some (.deferred (some []))→Q .normal { a with defers:={ target:=.collected D,args:=#[] } :: a.defers } W):
  (Code.rangeFunc g ps assign body).wpIn F n P Q a w:=by
 refine wpIn_rangeFunc ?_;intro fn hfn;rw[hro];let rec':LoopState→Loop:=fun st=>{ state:=st,pending:=none,fn,tmps:=a.tmps,params:=ps,assign,body,defers:=w.heap.size }
 obtain ⟨W1,hW1⟩:∃ W1,(w.alloc (.deferred (some []))).alloc (.loop (rec' .ready))=W1:=⟨_,rfl⟩;have hD1:W1.heap[w.heap.size]?=some (.deferred (some [])):=by
  rw[← hW1];exact (Below.heap_alloc _ _ _ (by simp)).trans (heap_alloc_new w _)
 have hL1:W1.heap[w.heap.size+1]?=some (.loop (rec' .ready)):=by
  rw[← hW1];have:=heap_alloc_new (w.alloc (.deferred (some []))) (.loop (rec' .ready));rwa [World.size_alloc] at this
 have hs1:W1.heap.size=w.heap.size+2:=by rw[← hW1];simp
 have hb1:Below w.heap.size w W1:=by rw[← hW1];exact ((Below.refl _ w).alloc (Nat.le_refl _) _).alloc (by simp) _
 have turn:∀ (B:World) (o:Obj),w.heap.size+1<B.heap.size→Below w.heap.size B (B.putObj (w.heap.size+1) o)∧(B.putObj (w.heap.size+1) o).heap[w.heap.size]?=B.heap[w.heap.size]?:=fun B o hlt=>
  ⟨Below.grown (Below.refl _ B) (grownBy_putObj' B (w.heap.size+1) o) (by omega) (fun k e=>by cases e;omega),World.putObj_heap_other (by omega)⟩
 refine ⟨w.heap.size+1,[{ target:=.collected w.heap.size,args:=#[] }],W1,{ target:=.fn (.func gf) lb,args:=#[.func (.yield (w.heap.size+1)) #[] #[]] },W1,gf,
  #[.func (.yield (w.heap.size+1)) #[] #[]]++lb,W1,?_,?_,?_,?_,fun _=>h1,?_⟩
 ·rw[← hW1];exact run_enterLoop_outer _ _ _ _ _
 ·simp only[resolve,hg]
  simp[go_sem]
 ·intro f' hf'
  simp[Target.leads] at hf';subst hf';exact hFg
 ·simp[invoke,go_sem,eg]
 ·refine (hit (w.heap.size+1) (fun i W=>I i W∧W.heap[w.heap.size+1]?=some (.loop (rec' .ready))∧W.heap[w.heap.size]?=some (.deferred (some []))) W1 hb1 (by omega) (by omega)
   (fun i A B h hb=>⟨hI i A B h.1 (hb.mono (by omega)),(hb.block _ (by omega)).trans h.2.1,(hb.block _ (by omega)).trans h.2.2⟩) ?_ ⟨hI 0 _ _ h0 hb1,hL1,hD1⟩).mono ?_
  ·rintro i A hi ⟨hIA,hl,hd⟩
   have hlt:w.heap.size+1<A.heap.size:=(Array.getElem?_eq_some_iff.1 hl).1;have hy:=run_yield (P:=P) (args:=encs i) hl (hps i);have hbr:(Instr.beginRound (w.heap.size+1)).run P A=.ok () (A.putObj (w.heap.size+1) (.loop (rec' .busy))):=run_beginRound hl rfl;refine ⟨fn,_,assign,body,hy,roundIn_of_wpIn hfn (hassign _ i A _ ⟨_,hbr,?_⟩)⟩;obtain ⟨hb2,hd2⟩:=turn A (.loop (rec' .busy)) hlt;have hl2:(A.putObj (w.heap.size+1) (.loop (rec' .busy))).heap[w.heap.size+1]?=some (.loop (rec' .busy)):=World.putObj_heap_same hlt;refine wpIn_mono (hbody _ i _ (hI i _ _ hIA hb2) hi) ?_;rintro e a3 W3 ⟨rfl,hs3,hI3⟩;have hlt2:w.heap.size+1<(A.putObj (w.heap.size+1) (.loop (rec' .busy))).heap.size:=(Array.getElem?_eq_some_iff.1 hl2).1;have hl3:=(hs3.block (w.heap.size+1) hlt2 (fun hx=>by have:=hX _ hx;omega)).trans hl2;have hd3:=(hs3.block w.heap.size (by omega) (fun hx=>by have:=hX _ hx;omega)).trans (hd2.trans hd);have hlt3:w.heap.size+1<W3.heap.size:=(Array.getElem?_eq_some_iff.1 hl3).1;obtain ⟨hb4,hd4⟩:=turn W3 (.loop (rec' .ready)) hlt3;have her:(Instr.endRound (w.heap.size+1) none).run P W3=.ok (.bool true) (W3.putObj (w.heap.size+1) (.loop (rec' .ready))):=run_endRound (P:=P) none hl3;refine ⟨_,_,her,rfl,⟨hI _ _ _ hI3 hb4,World.putObj_heap_same hlt3,hd4.trans hd3⟩,?_⟩;have s1:Same (fun k=>k=w.heap.size+1∨X k) A (A.putObj (w.heap.size+1) (.loop (rec' .busy))):=
    ⟨hb2.size,fun k _ hn=>World.putObj_heap_other (fun e=>hn (.inl e))⟩
   have s3:Same (fun k=>k=w.heap.size+1∨X k) W3 (W3.putObj (w.heap.size+1) (.loop (rec' .ready))):=
    ⟨hb4.size,fun k _ hn=>World.putObj_heap_other (fun e=>hn (.inl e))⟩
   exact (s1.trans (hs3.mono (fun _ h=>.inr h))).trans s3
  ·rintro e W2 ⟨⟨v,rfl⟩,hI2,hl,hd⟩
   have hlt:w.heap.size+1<W2.heap.size:=(Array.getElem?_eq_some_iff.1 hl).1;have hend:(Instr.endLoop (w.heap.size+1)).run P W2=.ok none (W2.putObj (w.heap.size+1) (.loop (rec' .exhausted))):=run_endLoop (P:=P) hl (by simp[rec']);obtain ⟨hb4,hd4⟩:=turn W2 (.loop (rec' .exhausted)) hlt;exact ⟨none,_,hend,hdone _ _ (Nat.le_refl _) (hI _ _ _ hI2 hb4) (hd4.trans hd)⟩
end
end Go.Proofs.YthmhklmkgkfcpaaGreatDoor
