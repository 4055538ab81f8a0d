import Derived.Test.YthmhklmkgkfcpaaGreatDoorT3
import Derived.Lib.TrailingZeros
import Derived.Laws.Bits64b
import Derived.WalkKit
set_option linter.unusedVariables false
set_option linter.unusedSimpArgs false
set_option maxHeartbeats 8000000
set_option maxRecDepth 100000
namespace Go.Proofs.YthmhklmkgkfcpaaGreatDoor
open Go.RowKit
def isTB (n:Int):Bool:=(List.range 11).any fun k=>decide (n=((2 ^ k:Nat):Int))
theorem aeO (K:Nat)(h:K≤10):isTB ((2 ^ K:Nat):Int)=true:=by
 unfold isTB;rw[List.any_eq_true];exact ⟨K,by simp;omega,by simp⟩
theorem aeP (n:Int):isTB n=true↔∃ K,K≤10∧n=((2 ^ K:Nat):Int):=by
 constructor
 ·intro h
  unfold isTB at h;rw[List.any_eq_true] at h;obtain ⟨K,h1,h2⟩:=h;exact ⟨K,by simp at h1;omega,of_decide_eq_true h2⟩
 ·rintro ⟨K,h,rfl⟩
  exact aeO K h
theorem acv {n:Int}(h:isTB n=true):1≤n∧n≤1024:=by
 obtain ⟨K,hK,rfl⟩:=(aeP n).1 h;have h1:(2:Nat) ^ K≤2 ^ 10:=Nat.pow_le_pow_right (by omega) hK;have h2:=aaz K;generalize 2 ^ K=M at *;omega
def inB (x n:Int):Bool:=isTB n && (decide (0≤x) && decide (x<2*n - 1))
theorem acY (x n:Int):inB x n=true↔∃ K j q,K≤10∧n=((2 ^ K:Nat):Int)∧x=((nd j q:Nat):Int)∧j≤K∧q<2 ^ (K - j):=by
 unfold inB;simp only[Bool.and_eq_true,decide_eq_true_eq];constructor
 ·rintro ⟨h1,h2,h3⟩
  obtain ⟨K,hK,rfl⟩:=(aeP n).1 h1;obtain ⟨y,rfl⟩:=Int.eq_ofNat_of_zero_le h2;obtain ⟨j,q,e,hj,hq⟩:=ahm K y (by rw[aal];omega);exact ⟨K,j,q,hK,rfl,by rw[e],hj,hq⟩
 ·rintro ⟨K,j,q,hK,rfl,rfl,hj,hq⟩
  have h:=afg hj hq;rw[aal] at h;exact ⟨aeO K hK,by omega,by omega⟩
theorem aaG (x:Int):(0≤x∧x≤2046)↔∃ j q,x=((nd j q:Nat):Int)∧j≤10∧q<2 ^ (10 - j):=by
 constructor
 ·rintro ⟨h1,h2⟩
  obtain ⟨y,rfl⟩:=Int.eq_ofNat_of_zero_le h1;obtain ⟨j,q,e,hj,hq⟩:=ahm 10 y (by omega);exact ⟨j,q,by rw[e],hj,hq⟩
 ·rintro ⟨j,q,rfl,hj,hq⟩
  have h:=afg hj hq;omega
theorem abH {K:Nat}(h:K≤10):2 ^ K≤1024:=by
 have:(2:Nat) ^ K≤2 ^ 10:=Nat.pow_le_pow_right (by omega) h;omega
theorem aa1 {K j q:Nat}(hK:K≤10)(hj:j≤K)(hq:q<2 ^ (K - j)):nd j q≤2046∧j≤10∧q<2 ^ (10 - j):=by
 have h:=afg hj hq;have h2:=abH hK;rw[aal] at h;refine ⟨by omega,by omega,Nat.lt_of_lt_of_le hq (Nat.pow_le_pow_right (by omega) (by omega))⟩
def qOf (x:Nat):Nat:=x / 2 ^ (lev x+1)
theorem ahQ (j q:Nat)(h:j≤11):qOf (nd j q)=q:=by
 unfold qOf;rw[adR j q h];unfold nd;have h1:=aaz j;have h2:=aal j;have e:2 ^ (j+1)*q+2 ^ j - 1=(2 ^ j - 1)+2 ^ (j+1)*q:=by omega
 rw[e,Nat.add_mul_div_left _ _ (by omega),Nat.div_eq_of_lt (by omega),Nat.zero_add]
def lgN (n:Int):Nat:=n.toNat.log2
theorem am8:∀ K,K≤10→lgN ((2 ^ K:Nat):Int)=K:=by
 intro K h;unfold lgN;rw[Int.toNat_natCast];have:∀ K:Fin 11,(2 ^ K.1).log2=K.1:=by decide
 exact this ⟨K,by omega⟩
def widE (n:Int):Int:=if isTB n then 0 else 1
def widV (n:Int):Int:=if isTB n then 2*n - 1 else 0
def okN (x:Int):Prop:=0≤x∧x≤2046
instance (x:Int):Decidable (okN x):=by unfold okN;infer_instance
def levV (x:Int):Int:=if okN x then (lev x.toNat:Int) else 0
def chE (x:Int):Int:=if levV x=0 then 1 else 0
def lefV (x:Int):Int:=if levV x=0 then 0 else x - ((2 ^ ((levV x).toNat - 1):Nat):Int)
def rigV (x:Int):Int:=if levV x=0 then 0 else x+((2 ^ ((levV x).toNat - 1):Nat):Int)
theorem abB {j q:Nat}(hj:j≤10)(hq:q<2 ^ (10 - j)):levV ((nd j q:Nat):Int)=(j:Int):=by
 unfold levV;rw[if_pos (show okN ((nd j q:Nat):Int) from (aaG _).2 ⟨j,q,rfl,hj,hq⟩),Int.toNat_natCast,adR j q (by omega)]
theorem agm {x:Int}(h:¬okN x):levV x=0:=if_neg h
theorem aqf {q:Nat}(hq:q<2 ^ 10):chE ((nd 0 q:Nat):Int)=1∧lefV ((nd 0 q:Nat):Int)=0∧rigV ((nd 0 q:Nat):Int)=0:=by
 have e:levV ((nd 0 q:Nat):Int)=0:=abB (by omega) hq;unfold chE lefV rigV;rw[e];exact ⟨rfl,rfl,rfl⟩
theorem adG {j q:Nat}(hj:j+1≤10)(hq:q<2 ^ (10 - (j+1))):chE ((nd (j+1) q:Nat):Int)=0∧lefV ((nd (j+1) q:Nat):Int)=((nd j (2*q):Nat):Int)∧rigV ((nd (j+1) q:Nat):Int)=((nd j (2*q+1):Nat):Int):=by
 have e:=abB hj hq;have e0:¬(((j+1:Nat):Int)=0):=by omega
 unfold chE lefV rigV;rw[e,if_neg e0,if_neg e0,if_neg e0,Int.toNat_natCast,Nat.add_sub_cancel];obtain ⟨h1,h2⟩:=aff j q;have h3:=aeh j q;exact ⟨rfl,by omega,by omega⟩
def parN (x:Nat):Nat:=nd (lev x+1) (qOf x / 2)
def sibN (x:Nat):Nat:=nd (lev x) (sq (qOf x))
def paE (x n:Int):Int:=if inB x n then (if x=n - 1 then 11 else 0) else 1
def paV (x n:Int):Int:=if paE x n=0 then (parN x.toNat:Int) else 0
def siV (x n:Int):Int:=if paE x n=0 then (sibN x.toNat:Int) else 0
def arE (x n:Int):Int:=if inB x n then 0 else 1
def am9 (x n:Int):List Nat:=if inB x n then aag (lgN n) (lev x.toNat) (qOf x.toNat) else []
def aqg (x n:Int):List Nat:=if inB x n then aaF (lgN n) (lev x.toNat) (qOf x.toNat) else []
theorem ari {x n:Int}(h:¬inB x n=true):paE x n=1∧paV x n=0∧siV x n=0:=by
 have e:paE x n=1:=if_neg h;unfold paV siV;rw[e];exact ⟨rfl,rfl,rfl⟩
theorem ana {K:Nat}(hK:K≤10):paE ((nd K 0:Nat):Int) ((2 ^ K:Nat):Int)=11∧paV ((nd K 0:Nat):Int) ((2 ^ K:Nat):Int)=0∧siV ((nd K 0:Nat):Int) ((2 ^ K:Nat):Int)=0:=by
 have h1:=aks K;have h2:=aaz K;have e:paE ((nd K 0:Nat):Int) ((2 ^ K:Nat):Int)=11:=by
  unfold paE;rw[if_pos ((acY _ _).2 ⟨K,K,0,hK,rfl,rfl,Nat.le_refl _,by simp⟩),if_pos (by omega)]
 unfold paV siV;rw[e];exact ⟨rfl,rfl,rfl⟩
theorem anb {K j q:Nat}(hK:K≤10)(hj:j<K)(hq:q<2 ^ (K - j)):
  paE ((nd j q:Nat):Int) ((2 ^ K:Nat):Int)=0∧paV ((nd j q:Nat):Int) ((2 ^ K:Nat):Int)=((nd (j+1) (q / 2):Nat):Int)∧siV ((nd j q:Nat):Int) ((2 ^ K:Nat):Int)=((nd j (sq q):Nat):Int):=by
 have h2:=aaz K;have h3:=ahN hq (by omega);have e:paE ((nd j q:Nat):Int) ((2 ^ K:Nat):Int)=0:=by
  unfold paE;rw[if_pos ((acY _ _).2 ⟨K,j,q,hK,rfl,rfl,by omega,hq⟩),if_neg];intro h;have:=h3.1 (by omega);omega
 unfold paV siV parN sibN;rw[e,if_pos rfl,if_pos rfl,Int.toNat_natCast,adR j q (by omega),ahQ j q (by omega)];exact ⟨rfl,rfl,rfl⟩
theorem ar_no {x n:Int}(h:¬inB x n=true):arE x n=1∧am9 x n=[]∧aqg x n=[]:=⟨if_neg h,if_neg h,if_neg h⟩
theorem ap1 {K j q:Nat}(hK:K≤10)(hj:j≤K)(hq:q<2 ^ (K - j)):
  arE ((nd j q:Nat):Int) ((2 ^ K:Nat):Int)=0∧am9 ((nd j q:Nat):Int) ((2 ^ K:Nat):Int)=aag K j q∧aqg ((nd j q:Nat):Int) ((2 ^ K:Nat):Int)=aaF K j q:=by
 have h:=(acY _ _).2 ⟨K,j,q,hK,rfl,rfl,hj,hq⟩;unfold arE am9 aqg;rw[if_pos h,if_pos h,if_pos h,Int.toNat_natCast,adR j q (by omega),ahQ j q (by omega),am8 K hK];exact ⟨rfl,rfl,rfl⟩
def okC (a b n:Int):Prop:=isTB n=true∧0≤a∧0≤b∧a<n∧b<n
instance (a b n:Int):Decidable (okC a b n):=by unfold okC;infer_instance
def coN (a b:Nat):Nat:=nd (meet a b) (a / 2 ^ meet a b)
def loV (x:Int):Int:=if okN x then ((2 ^ lev x.toNat*qOf x.toNat:Nat):Int) else 0
def hiV (x:Int):Int:=if okN x then ((2 ^ lev x.toNat*qOf x.toNat+2 ^ lev x.toNat - 1:Nat):Int) else -1
theorem arj {x:Int}(h:¬okN x):loV x=0∧hiV x = -1:=⟨if_neg h,if_neg h⟩
theorem anc {j q:Nat}(hj:j≤10)(hq:q<2 ^ (10 - j)):loV ((nd j q:Nat):Int)=((2 ^ j*q:Nat):Int)∧hiV ((nd j q:Nat):Int)=((2 ^ j*q+2 ^ j - 1:Nat):Int):=by
 have h:okN ((nd j q:Nat):Int):=(aaG _).2 ⟨j,q,rfl,hj,hq⟩;unfold loV hiV;rw[if_pos h,if_pos h,Int.toNat_natCast,adR j q (by omega),ahQ j q (by omega)];exact ⟨rfl,rfl⟩
theorem ac4 (a b:Nat)(ha:a<9223372036854775808)(hb:b<9223372036854775808):bits .and .i64 (a:Int) (b:Int)=((a &&& b:Nat):Int):=by
 have hx:a &&& b<2 ^ 63:=Nat.and_lt_two_pow _ (by omega);have h1:(BitVec.ofInt 64 (a:Int)).toNat=a:=by
  rw[BitVec.ofInt_natCast,BitVec.toNat_ofNat];exact Nat.mod_eq_of_lt (by omega)
 have h2:(BitVec.ofInt 64 (b:Int)).toNat=b:=by
  rw[BitVec.ofInt_natCast,BitVec.toNat_ofNat];exact Nat.mod_eq_of_lt (by omega)
 show IntKind.i64.wrap ((BitVec.ofInt 64 (a:Int) &&& BitVec.ofInt 64 (b:Int)).toNat:Int)=_
 rw[BitVec.toNat_and,h1,h2];exact IntWalk.i64_in _ (by omega)
theorem alo:∀ (k m f:Nat),k<f→Lib.ctzFrom f (2 ^ k*(2*m+1))=k
 | 0,m,f,h=>by
  obtain ⟨f,rfl⟩:∃ g,f=g+1:=⟨f - 1,by omega⟩
  unfold Lib.ctzFrom
  rw[if_pos (by simp)]
 | k+1,m,f,h=>by
  obtain ⟨f,rfl⟩:∃ g,f=g+1:=⟨f - 1,by omega⟩
  have e:2 ^ (k+1)*(2*m+1)=2*(2 ^ k*(2*m+1)):=by rw[Nat.pow_succ,Nat.mul_comm (2 ^ k) 2,Nat.mul_assoc]
  unfold Lib.ctzFrom
  rw[e,if_neg (by omega),show 2*(2 ^ k*(2*m+1)) / 2=2 ^ k*(2*m+1) by omega,alo k m f (by omega)]
  omega
theorem aoM (j q:Nat):nd j q+1=2 ^ j*(2*q+1):=by
 unfold nd;have h1:=aaz j;have e:2 ^ j*(2*q+1)=2 ^ (j+1)*q+2 ^ j:=by rw[Nat.mul_add,Nat.mul_one,aal,← Nat.mul_assoc,Nat.mul_comm (2 ^ j) 2]
 rw[e];omega
theorem ark (j q:Nat)(hj:j≤10):Lib.ctz 64 (nd j q+1)=j:=by
 rw[aoM];have:2 ^ j*(2*q+1)≠0:=by have:=aaz j;exact Nat.mul_ne_zero (by omega) (by omega)
 unfold Lib.ctz;rw[if_neg this];exact alo j q 64 (by omega)
theorem aoN (j q:Nat):nd j q &&& 2 ^ (j+1)=if q % 2=0 then 0 else 2 ^ (j+1):=by
 have h1:(nd j q).testBit (j+1)=decide (q % 2=1):=by
  have e:nd j q=(2 ^ j - 1)+2 ^ (j+1)*q:=by unfold nd;have:=aaz j;omega
  rw[Nat.testBit_eq_decide_div_mod_eq,e,Nat.add_mul_div_left _ _ (by exact Nat.two_pow_pos _),Nat.div_eq_of_lt (by have:=aaz j;rw[aal];omega),Nat.zero_add]
 apply Nat.eq_of_testBit_eq;intro i;rw[Nat.testBit_and,Nat.testBit_two_pow];by_cases hi:j+1=i
 ·subst hi
  rw[h1];by_cases hq:q % 2=0
  ·rw[if_pos hq];simp;omega
  ·rw[if_neg hq,Nat.testBit_two_pow];simp;omega
 ·have e:decide (j+1=i)=false:=decide_eq_false hi
  rw[e,Bool.and_false];split
  ·simp
  ·rw[Nat.testBit_two_pow,e]
theorem ane (j q:Nat)(h:q % 2=0):nd j q+2 ^ j=nd (j+1) (q / 2):=by
 obtain ⟨r,rfl⟩:∃ r,q=2*r:=⟨q / 2,by omega⟩;have h1:=aff j r;rw[show 2*r / 2=r by omega];omega
theorem alp (j q:Nat)(h:¬q % 2=0):nd j q - 2 ^ j=nd (j+1) (q / 2)∧2 ^ j≤nd j q:=by
 obtain ⟨r,rfl⟩:∃ r,q=2*r+1:=⟨q / 2,by omega⟩;have h1:=aeh j r;rw[show (2*r+1) / 2=r by omega];omega
theorem aqh (j q:Nat):nd j q+nd j (sq q)=2*nd (j+1) (q / 2):=by
 by_cases h:q % 2=0
 ·have h1:=ane j q h
  have h2:=aeh j (q / 2);have e:sq q=2*(q / 2)+1:=by unfold sq;rw[if_pos h];omega
  rw[e];omega
 ·obtain ⟨h1,h3⟩:=alp j q h
  have h2:=aff j (q / 2);have e:sq q=2*(q / 2):=by unfold sq;rw[if_neg h];omega
  rw[e];omega
theorem anf:∀ n:Fin 1025,(decide (1≤n.1) && decide (n.1 &&& (n.1 - 1)=0))=(List.range 11).any fun k=>decide (n.1=2 ^ k):=by decide +kernel
theorem ang (n:Nat)(h1:1≤n)(h2:n≤1024):isTB (n:Int)=decide (n &&& (n - 1)=0):=by
 have h:=anf ⟨n,by omega⟩;simp only[h1,decide_true,Bool.true_and] at h;rw[h];unfold isTB;congr 1
 funext k
 congr 1
 exact propext ⟨fun e=>by exact_mod_cast e,fun e=>by exact_mod_cast e⟩
theorem aoO (n:Int)(h:¬(1≤n∧n≤1024)):isTB n=false:=by
 rw[Bool.eq_false_iff];exact fun e=>h (acv e)
structure Nod where
 mk ::
 kind:Int
 name:Int
 pub:List UInt8
 un:List Int
 hash:List UInt8
theorem Nod.eq_iff (a b:Nod):a=b↔a.kind=b.kind∧a.name=b.name∧a.pub=b.pub∧a.un=b.un∧a.hash=b.hash:=by
 cases a;cases b;simp
instance:DecidableEq Nod:=fun a b=>decidable_of_iff _ (Nod.eq_iff a b).symm
def aao:Nod:=⟨0,0,[],[],[]⟩
def aah (name:Int)(pub:List UInt8):Nod:=⟨1,name,pub,[],[]⟩
def ats (t:List Nod)(x:Nat):Nod:=t.getD x aao
def lvs (t:List Nod):Nat:=(t.length+1) / 2
theorem aey {t:List Nod}{x:Nat}(h:x<t.length):ats t x=t[x]:=by
 unfold ats;rw[List.getD_eq_getElem?_getD,List.getElem?_eq_getElem h];rfl
theorem acM {t:List Nod}{x:Nat}(h:t.length≤x):ats t x=aao:=by
 unfold ats;rw[List.getD_eq_getElem?_getD,List.getElem?_eq_none h];rfl
theorem abu (t:List Nod)(y:Nat)(n:Nod)(x:Nat)(h:y<t.length):ats (t.set y n) x=if x=y then n else ats t x:=by
 unfold ats;rw[List.getD_eq_getElem?_getD,List.getElem?_set,List.getD_eq_getElem?_getD];by_cases e:y=x
 ·subst e
  rw[if_pos rfl,if_pos rfl,if_pos h];rfl
 ·rw[if_neg e,if_neg (fun h=>e h.symm)]
theorem aql (t:List Nod)(k x:Nat):ats (t++List.replicate k aao) x=ats t x:=by
 unfold ats;rw[List.getD_eq_getElem?_getD,List.getD_eq_getElem?_getD];by_cases h:x<t.length
 ·rw[List.getElem?_append_left h]
 ·rw[List.getElem?_append_right (by omega),List.getElem?_eq_none (l:=t) (by omega),List.getElem?_replicate]
  split <;> rfl
theorem ank {t u:List Nod}(hl:t.length=u.length)(h:∀ x,ats t x=ats u x):t=u:=by
 refine List.ext_getElem hl fun x h1 h2=>?_
 have:=h x;rwa [aey h1,aey h2] at this
def mayP (name:Int)(pub:List UInt8):Prop:=0≤name∧name≤65535∧pub.length=32
instance (name:Int) (pub:List UInt8):Decidable (mayP name pub):=by unfold mayP;infer_instance
def unP (t:List Nod)(a b:Int)(l:List Int):Prop:=l.Pairwise (·<·)∧∀ i∈l,a≤i∧i≤b∧(ats t (2*i.toNat)).kind=1
def okP (t:List Nod)(x:Nat):Prop:=
 ats t x=aao ∨
 ((ats t x).kind=1+(x:Int) % 2∧mayP (ats t x).name (ats t x).pub∧((ats t x).hash.length=0∨(ats t x).hash.length=32) ∧
  ((ats t x).kind=1→(ats t x).un=[])∧((ats t x).kind=2→(ats t x).name=0∧unP t (loV x) (hiV x) (ats t x).un))
structure aaa (t:List Nod)(K:Nat):Prop where
 mk ::
 le:K≤10
 len:t.length=2 ^ (K+1) - 1
 ok:∀ x,x<t.length→okP t x
 one:∀ x y,x<y→y<t.length→(ats t x).kind=1→(ats t y).kind=1→(ats t x).name≠(ats t y).name
 used:∃ x,x<t.length∧(ats t x).kind=1
def ac5 (t:List Nod):Prop:=∃ K,aaa t K
theorem aaa.lv {t:List Nod}{K:Nat}(h:aaa t K):lvs t=2 ^ K:=by
 unfold lvs;rw[h.len];have:=aaz K;have:=aal K;omega
theorem aaa.len2 {t:List Nod}{K:Nat}(h:aaa t K):t.length=2*2 ^ K - 1:=by rw[h.len,aal]
theorem aaa.okA {t:List Nod}{K:Nat}(h:aaa t K)(x:Nat):okP t x:=by
 by_cases hx:x<t.length
 ·exact h.ok x hx
 ·exact .inl (acM (by omega))
theorem alY {t:List Nod}{x:Nat}(h:okP t x)(hk:(ats t x).kind=0):ats t x=aao:=by
 rcases h with h | ⟨h,_⟩
 ·exact h
 ·omega
theorem aaa.even {t:List Nod}{K:Nat}(h:aaa t K)(i:Nat):ats t (2*i)=aao∨((ats t (2*i)).kind=1∧(ats t (2*i)).un=[]∧mayP (ats t (2*i)).name (ats t (2*i)).pub∧((ats t (2*i)).hash.length=0∨(ats t (2*i)).hash.length=32)):=by
 rcases h.okA (2*i) with h1 | ⟨h1,h2,h3,h4,_⟩
 ·exact .inl h1
 ·have e:(ats t (2*i)).kind=1:=by rw[h1];omega
  exact .inr ⟨e,h4 e,h2,h3⟩
theorem aaa.odd {t:List Nod}{K:Nat}(h:aaa t K){x:Nat}(hx:x % 2=1):ats t x=aao∨((ats t x).kind=2∧unP t (loV x) (hiV x) (ats t x).un):=by
 rcases h.okA x with h1 | ⟨h1,h2,h3,h4,h5⟩
 ·exact .inl h1
 ·have e:(ats t x).kind=2:=by rw[h1];omega
  exact .inr ⟨e,(h5 e).2⟩
theorem aaa.unAt {t:List Nod}{K:Nat}(h:aaa t K){j q:Nat}(hj:j≤10)(hq:q<2 ^ (10 - j))(i:Int)(hi:i∈(ats t (nd j q)).un):
  ∃ k:Nat,i=(k:Int)∧k / 2 ^ j=q∧(ats t (2*k)).kind=1:=by
 rcases h.okA (nd j q) with h1 | ⟨h1,h2,h3,h4,h5⟩
 ·rw[h1] at hi;simp[aao] at hi
 ·by_cases e:(ats t (nd j q)).kind=1
  ·rw[h4 e] at hi;simp at hi
  ·have e2:(ats t (nd j q)).kind=2:=by omega
   obtain ⟨a1,a2,a3⟩:=(h5 e2).2.2 i hi;obtain ⟨l1,l2⟩:=anc hj hq;rw[l1] at a1;rw[l2] at a2;obtain ⟨k,rfl⟩:=Int.eq_ofNat_of_zero_le (show 0≤i by omega);rw[Int.toNat_natCast] at a3;refine ⟨k,rfl,(ajk j q k).1 ⟨by omega,?_⟩,a3⟩;have:=aaz j;omega
def aqm (t:List Nod)(name:Int):Nat:=(List.range (lvs t)).findIdx fun i=>decide ((ats t (2*i)).kind=1∧(ats t (2*i)).name=name)
def agp (t:List Nod)(name:Int):Bool:=decide (aqm t name<lvs t)
def alZ (t:List Nod)(name:Int):Int:=if agp t name then (aqm t name:Int) else 0
theorem aci {n:Nat}{p:Nat→Bool}(h:(List.range n).findIdx p<n):p ((List.range n).findIdx p)=true:=by
 have:=List.findIdx_getElem (p:=p) (xs:=List.range n) (w:=by rw[List.length_range];exact h);rwa [List.getElem_range] at this
theorem afi {n:Nat}{p:Nat→Bool}{i:Nat}(h:i<(List.range n).findIdx p):p i=false:=by
 have h2:i<(List.range n).length:=Nat.lt_of_lt_of_le h List.findIdx_le_length;have:=List.not_of_lt_findIdx (p:=p) (xs:=List.range n) h;rw[List.getElem_range] at this;simpa using this
theorem adH (n:Nat)(p:Nat→Bool):(List.range n).findIdx p≤n:=by
 have:=List.findIdx_le_length (p:=p) (xs:=List.range n);rwa [List.length_range] at this
theorem adI {n:Nat}{p:Nat→Bool}{i:Nat}(hi:i≤n)(h1:i<n→p i=true)(h2:∀ k,k<i→p k=false):(List.range n).findIdx p=i:=by
 rcases Nat.lt_trichotomy ((List.range n).findIdx p) i with h | h | h
 ·have:=aci (p:=p) (n:=n) (by omega)
  rw[h2 _ h] at this;cases this
 ·exact h
 ·have h3:=afi h
  have h4:=adH n p;rw[h1 (by omega)] at h3;cases h3
def gapN (t:List Nod):Nat:=(List.range (lvs t)).findIdx fun i=>decide ((ats t (2*i)).kind=0)
def cutI (l:List Int)(n:Int):Nat:=l.findIdx fun x=>decide (n<x)
def putN (l:List Int)(n:Int):List Int:=l.take (cutI l n)++n :: l.drop (cutI l n)
def lgT (t:List Nod):Nat:=(lvs t).log2
def pathT (t:List Nod)(i:Nat):List Nat:=aag (lgT t) 0 i
def aaj (t:List Nod):List Nod:=if gapN t=lvs t then t++List.replicate (t.length+1) aao else t
def agq (n:Nod)(i:Nat):Nod:=⟨n.kind,n.name,n.pub,putN n.un i,n.hash⟩
def abR (o:List Nod)(i:Nat)(x:Nat):List Nod:=if (ats o x).kind=2 then o.set x (agq (ats o x) i) else o
def addT (t:List Nod)(name:Int)(pub:List UInt8):List Nod:=
 (pathT (aaj t) (gapN t)).foldl (fun o x=>abR o (gapN t) x) ((aaj t).set (2*gapN t) (aah name pub))
def addE (t:List Nod)(name:Int)(pub:List UInt8):Int:=
 if mayP name pub then (if agp t name then 12 else if gapN t=1024 then 4 else 0) else 1
def addV (t:List Nod)(name:Int)(pub:List UInt8):List Nod:=if addE t name pub=0 then addT t name pub else t
def addI (t:List Nod)(name:Int)(pub:List UInt8):Int:=if addE t name pub=0 then (gapN t:Int) else 0
def aas (t:List Nod)(i:Int):Prop:=0≤i∧i<lvs t∧(ats t (2*i.toNat)).kind=1
instance (t:List Nod) (i:Int):Decidable (aas t i):=by unfold aas;infer_instance
def ajo (t:List Nod)(i:Nat):List Nod:=(pathT t i).foldl (fun o x=>o.set x aao) t
def arn (t:List Nod)(f:Nat):Prop:=∀ i,f≤i→i<lvs t→(ats t (2*i)).kind=0
instance (t:List Nod) (f:Nat):Decidable (arn t f):=
 decidable_of_iff (∀ i,i<lvs t→f≤i→(ats t (2*i)).kind=0) ⟨fun h i h1 h2=>h i h2 h1,fun h i h1 h2=>h i h2 h1⟩
def aro (t:List Nod)(i:Nat):List Nod:=(ajo t i).set (2*i) aao
def updE (t:List Nod)(i:Int)(pub:List UInt8):Int:=if pub.length=32 then (if aas t i then 0 else 11) else 1
def updT (t:List Nod)(i:Nat)(pub:List UInt8):List Nod:=(ajo t i).set (2*i) (aah (ats t (2*i)).name pub)
def updV (t:List Nod)(i:Int)(pub:List UInt8):List Nod:=if updE t i pub=0 then updT t i.toNat pub else t
def resF (t:List Nod):Nat→Nat→List Int
 | 0,q=>if (ats t (nd 0 q)).kind=0 then [] else ((nd 0 q:Nat):Int) :: (ats t (nd 0 q)).un.map (2*·)
 | j+1,q=>if (ats t (nd (j+1) q)).kind=0 then resF t j (2*q)++resF t j (2*q+1) else ((nd (j+1) q:Nat):Int) :: (ats t (nd (j+1) q)).un.map (2*·)
def resV (t:List Nod)(x:Int):List Int:=if 0≤x∧x<t.length then resF t (lev x.toNat) (qOf x.toNat) else []
def adT (t:List Nod)(m:Nat):Prop:=t.length≤m∧∀ n∈t,n.pub.length≤40∧n.hash.length≤40∧n.un.length≤m
theorem anl {K:Nat}(h:K≤10):(2 ^ K).log2=K:=by
 have:=am8 K h;unfold lgN at this;rwa [Int.toNat_natCast] at this
theorem aaa.lg {t:List Nod}{K:Nat}(h:aaa t K):lgT t=K:=by
 unfold lgT;rw[h.lv,anl h.le]
theorem adh {K i x:Nat}:x∈aag K 0 i↔∃ j,1≤j∧j≤K∧x=nd j (i / 2 ^ j):=by
 unfold aag;rw[List.mem_map];constructor
 ·rintro ⟨k,hk,rfl⟩
  rw[List.mem_range] at hk;exact ⟨k+1,by omega,by omega,by rw[show 0+1+k=k+1 by omega]⟩
 ·rintro ⟨j,h1,h2,rfl⟩
  exact ⟨j - 1,by rw[List.mem_range];omega,by rw[show 0+1+(j - 1)=j by omega,show j - 1+1=j by omega]⟩
theorem abK {K i x:Nat}(h:x∈aag K 0 i):x % 2=1:=by
 obtain ⟨j,h1,_,rfl⟩:=adh.1 h;obtain ⟨j,rfl⟩:=Nat.exists_eq_add_of_le' h1;exact afE _ _
theorem abh {K i x:Nat}(hi:i<2 ^ K)(h:x∈aag K 0 i):x<2 ^ (K+1) - 1:=by
 obtain ⟨j,h1,h2,rfl⟩:=adh.1 h;refine afg h2 ?_;have:=afh (K:=K) (j:=0) (q:=i) (i:=j) (by simpa using hi) (by omega);rwa [show K - (0+j)=K - j by omega] at this
theorem afj (K i:Nat):(aag K 0 i).Nodup:=by
 unfold aag;refine List.Pairwise.map _ ?_ (List.nodup_range (n:=K - 0));intro a b hab he;have:=(aeN he).1;omega
theorem anm (l:List Nat):∀ t:List Nod,(l.foldl (fun o x=>o.set x aao) t).length=t.length:=by
 induction l with
 | nil=>intro t;rfl
 | cons a l ih=>intro t;rw[List.foldl_cons,ih,List.length_set]
theorem aoT (l:List Nat):∀ (t:List Nod) (x:Nat),(∀ y∈l,y<t.length)→ats (l.foldl (fun o x=>o.set x aao) t) x=if x∈l then aao else ats t x:=by
 induction l with
 | nil=>intro t x _;simp
 | cons a l ih=>
  intro t x h
  rw[List.foldl_cons,ih (t.set a aao) x (fun y hy=>by rw[List.length_set];exact h y (List.mem_cons_of_mem _ hy)),abu t a aao x (h a List.mem_cons_self)]
  by_cases e:x=a
  ·subst e;simp
  ·simp[e]
theorem aiu (l:List Nat)(i:Nat):∀ t:List Nod,(l.foldl (fun o x=>abR o i x) t).length=t.length:=by
 induction l with
 | nil=>intro t;rfl
 | cons a l ih=>
  intro t
  rw[List.foldl_cons,ih]
  unfold abR
  split
  ·rw[List.length_set]
  ·rfl
theorem aoU (t:List Nod)(i a x:Nat)(h:a<t.length):ats (abR t i a) x=if x=a∧(ats t a).kind=2 then agq (ats t a) i else ats t x:=by
 unfold abR;by_cases hk:(ats t a).kind=2
 ·rw[if_pos hk,abu t a _ x h]
  by_cases e:x=a
  ·rw[if_pos e,if_pos ⟨e,hk⟩]
  ·rw[if_neg e,if_neg (fun h=>e h.1)]
 ·rw[if_neg hk,if_neg (fun h=>hk h.2)]
theorem alr (l:List Nat)(i:Nat):∀ (t:List Nod) (x:Nat),l.Nodup→(∀ y∈l,y<t.length) →
  ats (l.foldl (fun o x=>abR o i x) t) x=if x∈l∧(ats t x).kind=2 then agq (ats t x) i else ats t x:=by
 induction l with
 | nil=>intro t x _ _;simp
 | cons a l ih=>
  intro t x hn h
  have ha:=h a List.mem_cons_self
  rw[List.nodup_cons] at hn
  have hlen:(abR t i a).length=t.length:=by
   have:=aiu [a] i t
   simpa using this
  rw[List.foldl_cons,ih (abR t i a) x hn.2 (fun y hy=>by rw[hlen];exact h y (List.mem_cons_of_mem _ hy)),aoU t i a x ha]
  by_cases e:x=a
  ·subst e
   have e1:¬(x∈l∧(if x=x∧(ats t x).kind=2 then agq (ats t x) i else ats t x).kind=2):=fun h=>hn.1 h.1
   rw[if_neg e1]
   by_cases hk:(ats t x).kind=2
   ·rw[if_pos ⟨rfl,hk⟩,if_pos ⟨List.mem_cons_self,hk⟩]
   ·rw[if_neg (fun h=>hk h.2),if_neg (fun h=>hk h.2)]
  ·have e1:(if x=a∧(ats t a).kind=2 then agq (ats t a) i else ats t x)=ats t x:=if_neg (fun h=>e h.1)
   rw[e1]
   by_cases hm:x∈l∧(ats t x).kind=2
   ·rw[if_pos hm,if_pos ⟨List.mem_cons_of_mem _ hm.1,hm.2⟩]
   ·rw[if_neg hm,if_neg (fun h=>hm ⟨(List.mem_cons.1 h.1).resolve_left e,h.2⟩)]
theorem ann (t:List Nod):gapN t≤lvs t:=adH _ _
theorem ano {t:List Nod}(h:gapN t<lvs t):(ats t (2*gapN t)).kind=0:=by
 have:=aci h;exact of_decide_eq_true this
theorem arp {t:List Nod}{i:Nat}(hi:i≤lvs t)(h1:i<lvs t→(ats t (2*i)).kind=0)(h2:∀ k,k<i→(ats t (2*k)).kind≠0):gapN t=i:=
 adI hi (fun h=>decide_eq_true (h1 h)) (fun k hk=>decide_eq_false (h2 k hk))
def wK (t:List Nod)(K:Nat):Nat:=if gapN t=lvs t then K+1 else K
theorem aaa.wide {t:List Nod}{K:Nat}(h:aaa t K):(aaj t).length=2 ^ (wK t K+1) - 1∧lvs (aaj t)=2 ^ wK t K∧gapN t<2 ^ wK t K∧(∀ x,ats (aaj t) x=ats t x)∧K≤wK t K:=by
 have h1:=h.len2;have h2:=h.lv;have h3:=aaz K;have h4:=aal K;have h5:=ann t;unfold aaj wK;unfold lvs at h2 h5 ⊢;by_cases hg:gapN t=(t.length+1) / 2
 ·rw[if_pos hg,if_pos hg]
  have h6:=aal (K+1);refine ⟨?_,?_,?_,fun x=>aql _ _ _,by omega⟩
  ·rw[List.length_append,List.length_replicate];omega
  ·rw[List.length_append,List.length_replicate];omega
  ·omega
 ·rw[if_neg hg,if_neg hg]
  exact ⟨by omega,by omega,by omega,fun x=>rfl,by omega⟩
theorem aaa.gap1024 {t:List Nod}{K:Nat}(h:aaa t K)(hg:gapN t≠1024):wK t K≤10:=by
 unfold wK;have h1:=h.le;have h2:=h.lv;split
 ·next e=>
  rcases Nat.lt_or_eq_of_le h1 with h3 | h3
  ·omega
  ·subst h3
   rw[e,h2] at hg;exact absurd rfl hg
 ·exact h1
theorem aaa.blankLen {t:List Nod}(i:Nat):(ajo t i).length=t.length:=anm _ _
theorem aaa.blankAt {t:List Nod}{K:Nat}(h:aaa t K){i:Nat}(hi:i<2 ^ K)(x:Nat):ats (ajo t i) x=if x∈aag K 0 i then aao else ats t x:=by
 unfold ajo pathT;rw[h.lg];exact aoT _ _ x (fun y hy=>by rw[h.len];exact abh hi hy)
theorem aaa.goneAt {t:List Nod}{K:Nat}(h:aaa t K){i:Nat}(hi:i<2 ^ K)(x:Nat):ats (aro t i) x=if x=2*i∨x∈aag K 0 i then aao else ats t x:=by
 have h1:=h.len2;unfold aro;rw[abu _ _ _ x (by rw[aaa.blankLen,h1];omega),h.blankAt hi x];by_cases e:x=2*i
 ·rw[if_pos e,if_pos (.inl e)]
 ·rw[if_neg e]
  by_cases hm:x∈aag K 0 i
  ·rw[if_pos hm,if_pos (.inr hm)]
  ·rw[if_neg hm,if_neg (fun h=>h.elim e hm)]
theorem aaa.updAt {t:List Nod}{K:Nat}(h:aaa t K){i:Nat}(hi:i<2 ^ K)(pub:List UInt8)(x:Nat):
  ats (updT t i pub) x=if x=2*i then aah (ats t (2*i)).name pub else if x∈aag K 0 i then aao else ats t x:=by
 have h1:=h.len2;unfold updT;rw[abu _ _ _ x (by rw[aaa.blankLen,h1];omega),h.blankAt hi x]
theorem aaa.updLen {t:List Nod}(i:Nat)(pub:List UInt8):(updT t i pub).length=t.length:=by
 unfold updT;rw[List.length_set,aaa.blankLen]
theorem aaa.lt_of {t:List Nod}{x:Nat}(h:(ats t x).kind≠0):x<t.length:=by
 refine Nat.lt_of_not_le fun hx=>h ?_
 rw[acM hx];rfl
theorem aqr {t u:List Nod}{x:Nat}(h:okP t x)(he:ats u x=ats t x)(hk:∀ k:Nat,(k:Int)∈(ats t x).un→(ats t (2*k)).kind=1→(ats u (2*k)).kind=1)(hlo:0≤loV x):okP u x:=by
 rcases h with h1 | ⟨h1,h2,h3,h4,h5⟩
 ·exact .inl (by rw[he,h1])
 ·refine .inr ?_
  rw[he];refine ⟨h1,h2,h3,h4,fun e=>⟨(h5 e).1,(h5 e).2.1,fun i hi=>?_⟩⟩;obtain ⟨a1,a2,a3⟩:=(h5 e).2.2 i hi;obtain ⟨k,rfl⟩:=Int.eq_ofNat_of_zero_le (show 0≤i by omega);rw[Int.toNat_natCast] at a3 ⊢;exact ⟨a1,a2,hk k hi a3⟩
theorem anp (x:Int):0≤loV x:=by
 unfold loV;split
 ·omega
 ·omega
theorem arq {l:List Int}{n:Int}{k:Nat}(h:k<cutI l n)(hk:k<l.length):l[k]≤n:=by
 have:=List.not_of_lt_findIdx (p:=fun x=>decide (n<x)) (xs:=l) h;have:=of_decide_eq_false (by simpa using this:decide (n<l[k])=false);omega
theorem ars {l:List Int}{n:Int}(h:cutI l n<l.length):n<l[cutI l n]:=by
 have:=List.findIdx_getElem (p:=fun x=>decide (n<x)) (xs:=l) (w:=h);exact of_decide_eq_true this
theorem aqs (l:List Int)(n:Int):cutI l n≤l.length:=List.findIdx_le_length
theorem anq {t:List Nod}{name:Int}(h:∀ k,k<lvs t→¬((ats t (2*k)).kind=1∧(ats t (2*k)).name=name)):agp t name=false:=by
 refine decide_eq_false fun hl=>?_
 have:=aci hl;exact h _ hl (of_decide_eq_true this)
theorem aaa.upd {t:List Nod}{K:Nat}(h:aaa t K){i:Nat}(hk:(ats t (2*i)).kind=1){pub:List UInt8}(hp:pub.length=32):aaa (updT t i pub) K:=by
 have hi:i<2 ^ K:=by
  have h1:=aaa.lt_of (t:=t) (x:=2*i) (by rw[hk];decide);have h2:=h.len2;omega
 have hA:=h.updAt hi pub;have hL:=aaa.updLen (t:=t) i pub;have hme:mayP (ats t (2*i)).name pub:=by
  rcases h.even i with e | ⟨_,_,e,_⟩
  ·rw[e] at hk;cases hk
  ·exact ⟨e.1,e.2.1,hp⟩
 refine ⟨h.le,by rw[hL,h.len],fun x hx=>?_,fun x y hxy hy hx1 hy1=>?_,⟨2*i,by rw[hL];exact aaa.lt_of (by rw[hk];decide),by rw[hA,if_pos rfl];rfl⟩⟩
 ·by_cases e1:x=2*i
  ·refine .inr ?_
   rw[hA,if_pos e1];exact ⟨by rw[e1];show (1:Int)=_;omega,hme,.inl rfl,fun _=>rfl,fun h2=>absurd h2 (show ¬(1:Int)=2 by decide)⟩
  ·by_cases e2:x∈aag K 0 i
   ·exact .inl (by rw[hA,if_neg e1,if_pos e2])
   ·refine aqr (h.okA x) (by rw[hA,if_neg e1,if_neg e2]) (fun k hk1 hk=>?_) (anp _)
    rw[hA];by_cases e3:2*k=2*i
    ·rw[if_pos e3];rfl
    ·rw[if_neg e3,if_neg (fun hm=>by have:=abK hm;omega)]
     exact hk
 ·have hk:∀ z,(ats (updT t i pub) z).kind=1→(ats t z).kind=1∧(ats (updT t i pub) z).name=(ats t z).name:=fun z h1=>by
   rw[hA] at h1 ⊢;by_cases e1:z=2*i
   ·rw[if_pos e1,e1]
    exact ⟨hk,rfl⟩
   ·rw[if_neg e1] at h1 ⊢
    split at h1
    ·cases h1
    ·next e=>rw[if_neg e];exact ⟨h1,rfl⟩
  rw[(hk x hx1).2,(hk y hy1).2];exact h.one x y hxy (by rw[← hL];exact hy) (hk x hx1).1 (hk y hy1).1
theorem art {t:List Nod}{K:Nat}(h:aaa t K):∀ (j q:Nat),j≤K→q<2 ^ (K - j)→∀ l∈resF t j q,∃ y:Nat,l=(y:Int)∧y<t.length∧(ats t y).kind≠0:=by
 have hfull:∀ (j q:Nat),j≤K→q<2 ^ (K - j)→(ats t (nd j q)).kind≠0→∀ l∈(((nd j q:Nat):Int) :: (ats t (nd j q)).un.map (2*·)),∃ y:Nat,l=(y:Int)∧y<t.length∧(ats t y).kind≠0:=by
  intro j q hj hq hk l hl
  obtain ⟨_,s2,s3⟩:=aa1 h.le hj hq
  rcases List.mem_cons.1 hl with rfl | hl
  ·exact ⟨_,rfl,aaa.lt_of hk,hk⟩
  ·obtain ⟨u,hu,rfl⟩:=List.mem_map.1 hl
   obtain ⟨k,rfl,_,a3⟩:=h.unAt s2 s3 u hu
   exact ⟨2*k,by omega,aaa.lt_of (by rw[a3];decide),by rw[a3];decide⟩
 intro j
 induction j with
 | zero=>
  intro q hj hq l hl
  unfold resF at hl
  by_cases hk:(ats t (nd 0 q)).kind=0
  ·rw[if_pos hk] at hl;simp at hl
  ·rw[if_neg hk] at hl
   exact hfull 0 q hj hq hk l hl
 | succ j ih=>
  intro q hj hq l hl
  unfold resF at hl
  by_cases hk:(ats t (nd (j+1) q)).kind=0
  ·rw[if_pos hk] at hl
   have e:K - j=(K - (j+1))+1:=by omega
   have hp:=aal (K - (j+1))
   rcases List.mem_append.1 hl with hl | hl
   ·exact ih (2*q) (by omega) (by rw[e];omega) l hl
   ·exact ih (2*q+1) (by omega) (by rw[e];omega) l hl
  ·rw[if_neg hk] at hl
   exact hfull (j+1) q hj hq hk l hl
theorem als {t:List Nod}{K j q:Nat}(h:aaa t K)(hj:j≤K)(hq:q<2 ^ (K - j)):resV t ((nd j q:Nat):Int)=resF t j q:=by
 have h1:=afg hj hq;have h2:=h.le;unfold resV;rw[if_pos ⟨by omega,by rw[h.len];omega⟩,Int.toNat_natCast,adR j q (by omega),ahQ j q (by omega)]
end Go.Proofs.YthmhklmkgkfcpaaGreatDoor
