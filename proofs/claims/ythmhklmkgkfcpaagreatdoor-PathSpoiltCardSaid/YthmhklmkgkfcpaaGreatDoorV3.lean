import Derived.Test.YthmhklmkgkfcpaaGreatDoorV2
import Derived.Lib.TrailingZeros
import Derived.Laws.Bits64b
import Derived.RangeFuncNested
import Derived.RangeFuncBound
import Derived.RangeFuncCalls
import Derived.RangeFuncLeaves
import Derived.RangeFuncFrom
import Derived.Shelf.Abstract
import Derived.Shelf.RegionOpen
import Derived.OwnWalkIn
import Derived.TacticsInMore
import Derived.LoopNIn
import Derived.LoopIn
set_option linter.all false
set_option maxHeartbeats 8000000
set_option maxRecDepth 100000
namespace Go.Proofs.YthmhklmkgkfcpaaGreatDoor
open Go.Proofs.Tryz Go.RowKit
variable {A B a w:World}{K g i j q:Nat}{T:TypeId}{X:Nat->Prop}{l:List Bool}{n x:Int}
def nd (j q:Nat):Nat:=2 ^ (j+1)*q+2 ^ j - 1
theorem bC (k:Nat):1<=2 ^ k:=Nat.one_le_two_pow
theorem bj (k:Nat):2 ^ (k+1)=2*2 ^ k:=by rw[Ls];omega
theorem ep (q:Nat):nd 0 q=2*q:=by unfold nd;simp
theorem lx (j q:Nat):nd (j+1) q=2*nd j q+1:=by
 unfold nd;rw[bj (j+1),bj j,Lm];have:=bC j;omega
theorem sw (j q:Nat):nd (j+1) q / 2=nd j q:=by rw[lx];omega
theorem iU (j q:Nat):nd (j+1) q % 2=1:=by rw[lx];omega
theorem ly (q:Nat):nd 0 q % 2=0:=by rw[ep];omega
theorem jX (j q:Nat):nd (j+1) q - 2 ^ j=nd j (2*q)/\2 ^ j<=nd (j+1) q:=by
 unfold nd;rw[bj (j+1),bj j];have:=bC j;have e:2*(2*2 ^ j)*q=2*2 ^ j*(2*q):=by rw[Ks 2 (2*2 ^ j),Lm]
 rw[e];omega
theorem jY (j q:Nat):nd (j+1) q+2 ^ j=nd j (2*q+1):=by
 unfold nd;rw[bj (j+1),bj j,Nat.mul_add];have:=bC j;have e:2*(2*2 ^ j)*q=2*2 ^ j*(2*q):=by rw[Ks 2 (2*2 ^ j),Lm]
 rw[e];omega
theorem iA {r:Nat}(h:nd j q=nd i r):j=i/\q=r:=by
 induction j generalizing i with
 | zero=>
  cases i with
  | zero=>rw[ep,ep] at h;exact⟨rfl,by omega⟩
  | succ i=>have b:=ly q;have a:=iU i r;omega
 | succ j ih=>
  cases i with
  | zero=>have b:=ly r;have a:=iU j q;omega
  | succ i=>
   rw[lx,lx] at h
   obtain⟨b,a⟩:=ih (i:=i) (by omega)
   exact⟨by omega,a⟩
theorem gL:∀ (K x:Nat),x<2 ^ (K+1) - 1->∃ j q,x=nd j q/\j<=K/\q<2 ^ (K - j)
 | 0,x,h=>⟨0,0,by simp at h;rw[ep];omega,IB _,by simp⟩
 | K+1,x,h=>by
  by_cases hx:x % 2=0
  ·refine⟨0,x / 2,by rw[ep];omega,by omega,?_⟩
   rw[bj] at h
   rw[Mr]
   omega
  ·obtain⟨j,q,e,hj,hq⟩:=gL K (x / 2) (by rw[bj] at h;omega)
   refine⟨j+1,q,by rw[lx,<-e];omega,by omega,?_⟩
   rw[Nat.add_sub_add_right]
   exact hq
theorem fq (c:j<=K)(a:q<2 ^ (K - j)):nd j q<2 ^ (K+1) - 1:=by
 have e:2 ^ (K+1)=2 ^ (j+1)*2 ^ (K - j):=by rw[<-Nat.pow_add];congr 1;omega
 have b:2 ^ (j+1)*(q+1)<=2 ^ (K+1):=by rw[e];exact Nat.mul_le_mul_left _ a
 rw[Nat.mul_add,Mk] at b;unfold nd;have:=bC j;have:=bj j;omega
theorem yL (h:nd j q<2 ^ (K+1) - 1):j<=K/\q<2 ^ (K - j):=by
 obtain⟨i,r,e,b,a⟩:=gL K _ h;obtain⟨rfl,rfl⟩:=iA e;exact⟨b,a⟩
theorem pN (K:Nat):nd K 0=2 ^ K - 1:=by unfold nd;simp
theorem sx (a:q<2 ^ (K - j))(b:j<=K):nd j q=2 ^ K - 1↔j=K:=by
 constructor
 ·intro h
  rw[<-pN] at h;exact(iA h).1
 ·rintro rfl
  simp at a;subst a;exact pN j
def lz:Nat->Nat->Nat
 | 0,_=>0
 | f+1,x=>if x % 2=1 then lz f (x / 2)+1 else 0
def lev (x:Nat):Nat:=lz 12 x
theorem sy:∀ (f j q:Nat),j<f->lz f (nd j q)=j
 | 0,j,q,h=>by omega
 | f+1,0,q,h=>by unfold lz;rw[if_neg (by have:=ly q;omega)]
 | f+1,j+1,q,h=>by unfold lz;rw[if_pos (iU j q),sw,sy f j q (by omega)]
theorem fJ (j q:Nat)(h:j<=11):lev (nd j q)=j:=sy 12 j q (by omega)
theorem yM (j q:Nat):(nd j q - (2 ^ j - 1)) / 2=2 ^ j*q/\(nd j q+(2 ^ j - 1)) / 2=2 ^ j*q+2 ^ j - 1:=by
 unfold nd;rw[bj j,Lm];have:=bC j;constructor <;> omega
theorem pO (j q b:Nat):2 ^ j*q<=b/\b<=2 ^ j*q+2 ^ j - 1↔b / 2 ^ j=q:=by
 have d:=bC j;constructor
 ·rintro⟨a,c⟩
  refine Nat.le_antisymm ?_ ?_
  ·exact Jn.1 ((Nat.div_lt_iff_lt_mul (by omega)).2 (by rw[Nat.succ_mul,Ks];omega))
  ·exact(Nat.le_div_iff_mul_le (by omega)).2 (by rw[Ks];exact a)
 ·rintro rfl
  have a:=Nat.div_add_mod b (2 ^ j);have c:=Mj b (show 0<2 ^ j by omega);omega
def sq (q:Nat):Nat:=if q % 2=0 then q+1 else q - 1
def aC (K j q:Nat):List Nat:=(List.range (K - j)).map λi=>nd (j+1+i) (q / 2 ^ (i+1))
def cC (K j q:Nat):List Nat:=(List.range (K - j)).map λi=>nd (j+i) (sq (q / 2 ^ i))
theorem lA (K j q:Nat):(aC K j q).length=K - j:=by simp[aC]
theorem nJ (K j q:Nat):(cC K j q).length=K - j:=by simp[cC]
theorem yN (K j q i:Nat)(h:i<K - j):(aC K j q)[i]?=some (nd (j+1+i) (q / 2 ^ (i+1))):=by
 unfold aC;rw[Jt,Lc h];rfl
theorem yO (K j q i:Nat)(h:i<K - j):(cC K j q)[i]?=some (nd (j+i) (sq (q / 2 ^ i))):=by
 unfold cC;rw[Jt,Lc h];rfl
theorem sA (K j q i:Nat)(h:i<K - j):(aC K j q).take (i+1)=(aC K j q).take i++[nd (j+1+i) (q / 2 ^ (i+1))]:=by
 have a:i<(aC K j q).length:=by rw[lA];exact h
 have e:=yN K j q i h;rw[Iy a] at e;rw[IP a,Ld e]
theorem sC (K j q i:Nat)(h:i<K - j):(cC K j q).take (i+1)=(cC K j q).take i++[nd (j+i) (sq (q / 2 ^ i))]:=by
 have a:i<(cC K j q).length:=by rw[nJ];exact h
 have e:=yO K j q i h;rw[Iy a] at e;rw[IP a,Ld e]
theorem jz (a:q<2 ^ (K - j))(b:i<=K - j):q / 2 ^ i<2 ^ (K - (j+i)):=by
 rw[Nat.div_lt_iff_lt_mul (by have:=bC i;omega),<-Nat.pow_add];have e:K - (j+i)+i=K - j:=by omega
 rw[e];exact a
theorem nL (q i:Nat):q / 2 ^ (i+1)=q / 2 ^ i / 2:=by rw[Ls,JS]
def iV:Nat->Nat->Nat->Nat->Nat
 | 0,j,_,_=>j
 | f+1,j,a,b=>if a / 2 ^ j=b / 2 ^ j then j else iV f (j+1) a b
def bw (a b:Nat):Nat:=iV 10 0 a b
theorem sD:∀ (f j a b:Nat),a / 2 ^ (j+f)=b / 2 ^ (j+f)->(∀ i,i<j->a / 2 ^ i≠b / 2 ^ i) ->
  j<=iV f j a b/\iV f j a b<=j+f/\a / 2 ^ (iV f j a b)=b / 2 ^ (iV f j a b)/\∀ i,i<iV f j a b->a / 2 ^ i≠b / 2 ^ i
 | 0,j,a,b,h,hi=>⟨IB _,IB _,h,hi⟩
 | f+1,j,a,b,h,hi=>by
  unfold iV
  by_cases e:a / 2 ^ j=b / 2 ^ j
  ·rw[if_pos e]
   exact⟨IB _,by omega,e,hi⟩
  ·rw[if_neg e]
   have h2:=sD f (j+1) a b (by rw[show j+1+f=j+(f+1) by omega];exact h) (λi hij=>by
    rcases Jc (Jn.1 hij) with h3|h3
    ·exact hi i h3
    ·rw[h3];exact e)
   exact⟨by omega,by omega,h2.2.2.1,h2.2.2.2⟩
theorem nM {a b:Nat}(f:K<=10)(e:a<2 ^ K)(d:b<2 ^ K):bw a b<=K/\a / 2 ^ (bw a b)=b / 2 ^ (bw a b)/\∀ i,i<bw a b->a / 2 ^ i≠b / 2 ^ i:=by
 have j:(2:Nat) ^ K<=2 ^ 10:=JH (by omega) f;obtain⟨_,_,g,c⟩:=sD 10 0 a b (by rw[JA,Li (by omega),Li (by omega)]) (λi h=>by omega);refine⟨?_,g,c⟩;refine Mg λh=>c K h ?_
 rw[Li e,Li d]
def bU (n:Int):Bool:=(List.range 11).any λk=>decide (n=((2 ^ k:Nat):Int))
theorem jZ (K:Nat)(h:K<=10):bU ((2 ^ K:Nat):Int)=true:=by
 unfold bU;rw[Lj];exact⟨K,by simp;omega,by simp⟩
theorem lB (n:Int):bU n=true↔∃ K,K<=10/\n=((2 ^ K:Nat):Int):=by
 constructor
 ·intro h
  unfold bU at h;rw[Lj] at h;obtain⟨K,b,a⟩:=h;exact⟨K,by simp at b;omega,JU a⟩
 ·rintro⟨K,h,rfl⟩
  exact jZ K h
theorem lC (h:bU n=true):1<=n/\n<=1024:=by
 obtain⟨K,a,rfl⟩:=(lB n).1 h;have c:(2:Nat) ^ K<=2 ^ 10:=JH (by omega) a;have b:=bC K;generalize 2 ^ K=M at *;omega
def inB (x n:Int):Bool:=bU n && (decide (0<=x) && decide (x<2*n - 1))
theorem gM (x n:Int):inB x n=true↔∃ K j q,K<=10/\n=((2 ^ K:Nat):Int)/\x=((nd j q:Nat):Int)/\j<=K/\q<2 ^ (K - j):=by
 unfold inB;simp only[Kt,decide_eq_true_eq];constructor
 ·rintro⟨f,d,g⟩
  obtain⟨K,c,rfl⟩:=(lB n).1 f;obtain⟨y,rfl⟩:=IR d;obtain⟨j,q,e,b,a⟩:=gL K y (by rw[bj];omega);exact⟨K,j,q,c,rfl,by rw[e],b,a⟩
 ·rintro⟨K,j,q,c,rfl,rfl,b,a⟩
  have h:=fq b a;rw[bj] at h;exact⟨jZ K c,by omega,by omega⟩
theorem dW (x:Int):(0<=x/\x<=2046)↔∃ j q,x=((nd j q:Nat):Int)/\j<=10/\q<2 ^ (10 - j):=by
 constructor
 ·rintro⟨c,d⟩
  obtain⟨y,rfl⟩:=IR c;obtain⟨j,q,e,b,a⟩:=gL 10 y (by omega);exact⟨j,q,by rw[e],b,a⟩
 ·rintro⟨j,q,rfl,b,a⟩
  have h:=fq b a;omega
theorem bY (h:K<=10):2 ^ K<=1024:=by
 have:(2:Nat) ^ K<=2 ^ 10:=JH (by omega) h;omega
theorem dX (c:K<=10)(b:j<=K)(a:q<2 ^ (K - j)):nd j q<=2046/\j<=10/\q<2 ^ (10 - j):=by
 have h:=fq b a;have d:=bY c;rw[bj] at h;refine⟨by omega,by omega,II a (JH (by omega) (by omega))⟩
def qOf (x:Nat):Nat:=x / 2 ^ (lev x+1)
theorem kd (j q:Nat)(h:j<=11):qOf (nd j q)=q:=by
 unfold qOf;rw[fJ j q h];unfold nd;have b:=bC j;have a:=bj j;have e:2 ^ (j+1)*q+2 ^ j - 1=(2 ^ j - 1)+2 ^ (j+1)*q:=by omega
 rw[e,Nat.add_mul_div_left _ _ (by omega),Li (by omega),JA]
def lgN (n:Int):Nat:=n.toNat.log2
theorem sE:∀ K,K<=10->lgN ((2 ^ K:Nat):Int)=K:=by
 intro K h;unfold lgN;rw[IM];have:∀ K:Fin 11,(2 ^ K.1).log2=K.1:=by decide
 exact this ⟨K,by omega⟩
def fK (n:Int):Int:=if bU n then 0 else 1
def fL (n:Int):Int:=if bU n then 2*n - 1 else 0
def okN (x:Int):Prop:=0<=x/\x<=2046
instance (x:Int):Decidable (okN x):=by unfold okN;infer_instance
def dY (x:Int):Int:=if okN x then (lev x.toNat:Int) else 0
def chE (x:Int):Int:=if dY x=0 then 1 else 0
def er (x:Int):Int:=if dY x=0 then 0 else x - ((2 ^ ((dY x).toNat - 1):Nat):Int)
def eF (x:Int):Int:=if dY x=0 then 0 else x+((2 ^ ((dY x).toNat - 1):Nat):Int)
theorem eL (b:j<=10)(a:q<2 ^ (10 - j)):dY ((nd j q:Nat):Int)=(j:Int):=by
 unfold dY;rw[if_pos (show okN ((nd j q:Nat):Int) from(dW _).2 ⟨j,q,rfl,b,a⟩),IM,fJ j q (by omega)]
theorem lD (h:¬okN x):dY x=0:=if_neg h
theorem yP (a:q<2 ^ 10):chE ((nd 0 q:Nat):Int)=1/\er ((nd 0 q:Nat):Int)=0/\eF ((nd 0 q:Nat):Int)=0:=by
 have e:dY ((nd 0 q:Nat):Int)=0:=eL (by omega) a;unfold chE er eF;rw[e];exact⟨rfl,rfl,rfl⟩
theorem fN (c:j+1<=10)(b:q<2 ^ (10 - (j+1))):chE ((nd (j+1) q:Nat):Int)=0/\er ((nd (j+1) q:Nat):Int)=((nd j (2*q):Nat):Int)/\eF ((nd (j+1) q:Nat):Int)=((nd j (2*q+1):Nat):Int):=by
 have e:=eL c b;have a:¬(((j+1:Nat):Int)=0):=by omega
 unfold chE er eF;rw[e,if_neg a,if_neg a,if_neg a,IM,Km];obtain⟨g,f⟩:=jX j q;have d:=jY j q;exact⟨rfl,by omega,by omega⟩
def sG (x:Nat):Nat:=nd (lev x+1) (qOf x / 2)
def sH (x:Nat):Nat:=nd (lev x) (sq (qOf x))
def paE (x n:Int):Int:=if inB x n then (if x=n - 1 then 11 else 0) else 1
def paV (x n:Int):Int:=if paE x n=0 then (sG x.toNat:Int) else 0
def siV (x n:Int):Int:=if paE x n=0 then (sH x.toNat:Int) else 0
def arE (x n:Int):Int:=if inB x n then 0 else 1
def lE (x n:Int):List Nat:=if inB x n then aC (lgN n) (lev x.toNat) (qOf x.toNat) else []
def pP (x n:Int):List Nat:=if inB x n then cC (lgN n) (lev x.toNat) (qOf x.toNat) else []
theorem sI (h:¬inB x n=true):paE x n=1/\paV x n=0/\siV x n=0:=by
 have e:paE x n=1:=if_neg h;unfold paV siV;rw[e];exact⟨rfl,rfl,rfl⟩
theorem sJ (a:K<=10):paE ((nd K 0:Nat):Int) ((2 ^ K:Nat):Int)=11/\paV ((nd K 0:Nat):Int) ((2 ^ K:Nat):Int)=0/\siV ((nd K 0:Nat):Int) ((2 ^ K:Nat):Int)=0:=by
 have c:=pN K;have b:=bC K;have e:paE ((nd K 0:Nat):Int) ((2 ^ K:Nat):Int)=11:=by
  unfold paE;rw[if_pos ((gM _ _).2 ⟨K,K,0,a,rfl,rfl,IB _,by simp⟩),if_pos (by omega)]
 unfold paV siV;rw[e];exact⟨rfl,rfl,rfl⟩
theorem nN (b:K<=10)(d:j<K)(a:q<2 ^ (K - j)):
  paE ((nd j q:Nat):Int) ((2 ^ K:Nat):Int)=0/\paV ((nd j q:Nat):Int) ((2 ^ K:Nat):Int)=((nd (j+1) (q / 2):Nat):Int)/\siV ((nd j q:Nat):Int) ((2 ^ K:Nat):Int)=((nd j (sq q):Nat):Int):=by
 have f:=bC K;have c:=sx a (by omega);have e:paE ((nd j q:Nat):Int) ((2 ^ K:Nat):Int)=0:=by
  unfold paE;rw[if_pos ((gM _ _).2 ⟨K,j,q,b,rfl,rfl,by omega,a⟩),if_neg];intro h;have:=c.1 (by omega);omega
 unfold paV siV sG sH;rw[e,if_pos rfl,if_pos rfl,IM,fJ j q (by omega),kd j q (by omega)];exact⟨rfl,rfl,rfl⟩
theorem yQ (h:¬inB x n=true):arE x n=1/\lE x n=[]/\pP x n=[]:=⟨if_neg h,if_neg h,if_neg h⟩
theorem sK (a:K<=10)(c:j<=K)(b:q<2 ^ (K - j)):
  arE ((nd j q:Nat):Int) ((2 ^ K:Nat):Int)=0/\lE ((nd j q:Nat):Int) ((2 ^ K:Nat):Int)=aC K j q/\pP ((nd j q:Nat):Int) ((2 ^ K:Nat):Int)=cC K j q:=by
 have h:=(gM _ _).2 ⟨K,j,q,a,rfl,rfl,c,b⟩;unfold arE lE pP;rw[if_pos h,if_pos h,if_pos h,IM,fJ j q (by omega),kd j q (by omega),sE K a];exact⟨rfl,rfl,rfl⟩
def okC (a b n:Int):Prop:=bU n=true/\0<=a/\0<=b/\a<n/\b<n
instance (a b n:Int):Decidable (okC a b n):=by unfold okC;infer_instance
def coN (a b:Nat):Nat:=nd (bw a b) (a / 2 ^ bw a b)
def loV (x:Int):Int:=if okN x then ((2 ^ lev x.toNat*qOf x.toNat:Nat):Int) else 0
def hiV (x:Int):Int:=if okN x then ((2 ^ lev x.toNat*qOf x.toNat+2 ^ lev x.toNat - 1:Nat):Int) else -1
theorem sL (h:¬okN x):loV x=0/\hiV x = -1:=⟨if_neg h,if_neg h⟩
theorem ke (b:j<=10)(a:q<2 ^ (10 - j)):loV ((nd j q:Nat):Int)=((2 ^ j*q:Nat):Int)/\hiV ((nd j q:Nat):Int)=((2 ^ j*q+2 ^ j - 1:Nat):Int):=by
 have h:okN ((nd j q:Nat):Int):=(dW _).2 ⟨j,q,rfl,b,a⟩;unfold loV hiV;rw[if_pos h,if_pos h,IM,fJ j q (by omega),kd j q (by omega)];exact⟨rfl,rfl⟩
theorem sM (a b:Nat)(g:a<9223372036854775808)(f:b<9223372036854775808):bits .and .i64 (a:Int) (b:Int)=((a &&& b:Nat):Int):=by
 have e:a &&& b<2 ^ 63:=Nat.and_lt_two_pow _ (by omega);have d:(BitVec.ofInt 64 (a:Int)).toNat=a:=by
  rw[JX,Ln];exact JO (by omega)
 have c:(BitVec.ofInt 64 (b:Int)).toNat=b:=by
  rw[JX,Ln];exact JO (by omega)
 show IntKind.i64.wrap ((BitVec.ofInt 64 (a:Int) &&& BitVec.ofInt 64 (b:Int)).toNat:Int)=_
 rw[BitVec.toNat_and,d,c];exact IA _ (by omega)
theorem sN:∀ (k m f:Nat),k<f->Lib.ctzFrom f (2 ^ k*(2*m+1))=k
 | 0,m,f,h=>by
  obtain⟨f,rfl⟩:∃ g,f=g+1:=⟨f - 1,by omega⟩
  unfold Lib.ctzFrom
  rw[if_pos (by simp)]
 | k+1,m,f,h=>by
  obtain⟨f,rfl⟩:∃ g,f=g+1:=⟨f - 1,by omega⟩
  have e:2 ^ (k+1)*(2*m+1)=2*(2 ^ k*(2*m+1)):=by rw[Ls,Ks (2 ^ k) 2,Lm]
  unfold Lib.ctzFrom
  rw[e,if_neg (by omega),show 2*(2 ^ k*(2*m+1)) / 2=2 ^ k*(2*m+1) by omega,sN k m f (by omega)]
  omega
theorem yR (j q:Nat):nd j q+1=2 ^ j*(2*q+1):=by
 unfold nd;have a:=bC j;have e:2 ^ j*(2*q+1)=2 ^ (j+1)*q+2 ^ j:=by rw[Nat.mul_add,Mk,bj,<-Lm,Ks (2 ^ j) 2]
 rw[e];omega
theorem yS (j q:Nat)(a:j<=10):Lib.ctz 64 (nd j q+1)=j:=by
 rw[yR];have:2 ^ j*(2*q+1)≠0:=by have:=bC j;exact Nat.mul_ne_zero (by omega) (by omega)
 unfold Lib.ctz;rw[if_neg this];exact sN j q 64 (by omega)
theorem yU (j q:Nat):nd j q &&& 2 ^ (j+1)=if q % 2=0 then 0 else 2 ^ (j+1):=by
 have c:(nd j q).testBit (j+1)=decide (q % 2=1):=by
  have e:nd j q=(2 ^ j - 1)+2 ^ (j+1)*q:=by unfold nd;have:=bC j;omega
  rw[Nat.testBit_eq_decide_div_mod_eq,e,Nat.add_mul_div_left _ _ (by exact Nat.two_pow_pos _),Li (by have:=bC j;rw[bj];omega),JA]
 apply Nat.eq_of_testBit_eq;intro i;rw[Nat.testBit_and,Nat.testBit_two_pow];by_cases b:j+1=i
 ·subst b
  rw[c];by_cases a:q % 2=0
  ·rw[if_pos a];simp;omega
  ·rw[if_neg a,Nat.testBit_two_pow];simp;omega
 ·have e:decide (j+1=i)=false:=IS b
  rw[e,Bool.and_false];split
  ·simp
  ·rw[Nat.testBit_two_pow,e]
theorem sO (j q:Nat)(h:q % 2=0):nd j q+2 ^ j=nd (j+1) (q / 2):=by
 obtain⟨r,rfl⟩:∃ r,q=2*r:=⟨q / 2,by omega⟩;have a:=jX j r;rw[show 2*r / 2=r by omega];omega
theorem sP (j q:Nat)(h:¬q % 2=0):nd j q - 2 ^ j=nd (j+1) (q / 2)/\2 ^ j<=nd j q:=by
 obtain⟨r,rfl⟩:∃ r,q=2*r+1:=⟨q / 2,by omega⟩;have a:=jY j r;rw[show(2*r+1) / 2=r by omega];omega
theorem yW (j q:Nat):nd j q+nd j (sq q)=2*nd (j+1) (q / 2):=by
 by_cases h:q % 2=0
 ·have b:=sO j q h
  have a:=jY j (q / 2);have e:sq q=2*(q / 2)+1:=by unfold sq;rw[if_pos h];omega
  rw[e];omega
 ·obtain⟨b,c⟩:=sP j q h
  have a:=jX j (q / 2);have e:sq q=2*(q / 2):=by unfold sq;rw[if_neg h];omega
  rw[e];omega
theorem yX:∀ n:Fin 1025,(decide (1<=n.1) && decide (n.1 &&& (n.1 - 1)=0))=(List.range 11).any λk=>decide (n.1=2 ^ k):=by decide +kernel
theorem yY (n:Nat)(a:1<=n)(b:n<=1024):bU (n:Int)=decide (n &&& (n - 1)=0):=by
 have h:=yX ⟨n,by omega⟩;simp only[a,decide_true,Bool.true_and] at h;rw[h];unfold bU;congr 1
 funext k
 congr 1
 exact propext ⟨λe=>by exact_mod_cast e,λe=>by exact_mod_cast e⟩
theorem yZ (n:Int)(h:¬(1<=n/\n<=1024)):bU n=false:=by
 rw[Ka];exact λe=>h (lC e)
structure bc (X:Nat->Prop)(A B:World):Prop where
 size:A.heap.size<=B.heap.size
 block:∀ k,k<A.heap.size->¬X k->B.heap[k]?=A.heap[k]?
theorem bc.refl (X:Nat->Prop)(A:World):bc X A A:=⟨IB _,λ_ _ _=>rfl⟩
theorem bc.trans {C:World}(h:bc X A B)(k:bc X B C):bc X A C:=
 ⟨IU h.size k.size,λi b a=>(k.block i (II b h.size) a).trans (h.block i b a)⟩
theorem bc.of_kp (h:Kp A B):bc X A B:=⟨h.size,λk a _=>h.block k a⟩
theorem bc.setCell (h:bc X A B)(p:Addr)(v:Value)(b:X p.block):bc X A (B.setCell p v):=
 ⟨by simpa using h.size,λk c a=>(Below.heap_setCell B p v k (λe=>a (e▸b))).trans (h.block k c a)⟩
theorem bc.mono {Y:Nat->Prop}(h:bc X A B)(a:∀ k,X k->Y k):bc Y A B:=⟨h.size,λk d c=>h.block k d (λb=>c (a k b))⟩
theorem bc.drew (h:bc X A B):bc X A B.drew:=⟨h.size,h.block⟩
theorem bc.drewN (h:bc X A B)(n:Nat):bc X A (B.drewN n):=h.trans (bc.of_kp ((Kp.refl B).drewN n))
theorem iB {B D:Nat}{W:World}(h:Below B a W)(b:B<=D)(c:B<=W.heap.size)(o:Obj):Below B a (W.putObj D o):=
 Below.grown h (grownBy_putObj' W D o) c (λk e=>by cases e;exact b)
section
variable {F : Fence} {n : Nat} {P : Program}
def pS (F:Fence)(m:Nat)(P:Program)(gf:Nat)(lb:Array Value)(encs:Nat->Array Value)(N:Nat)(X:Nat->Prop)(w:World):Prop:=
 ∀ (l:Nat) (J:Nat->World->Prop) (W:World),Below w.heap.size w W->w.heap.size<=l->l<W.heap.size->(∀ i A B,J i A->Below W.heap.size A B->J i B) ->
  (∀ i A,i<N->J i A->YieldAt F (m - 1) P l (encs i) A λe B=>e=.returned (.bool true)/\J (i+1) B/\bc (λk=>k=l\/X k) A B) ->
  J 0 W->CallsIn F m P gf (#[.func (.yield l) #[] #[]]++lb) W λe B=>(∃ v,e=.returned v)/\J N B
theorem kf {g:Operand}{S:Array Tmp}{assign body:Code}{Q:Exit->Act->World->Prop}{a:Act}
  (V:F.round=none) (h1:1<=n) {gf:Nat} {lb:Array Value} (hg:a.eval g=.func (.func gf) #[] lb) (al:F.fn gf) (eg:∀ args w,(callFunc gf args).run P w=.ok (.enter gf args) w)
  {encs:Nat->Array Value} {N:Nat}  (hX:∀ k,X k->k<w.heap.size) (aa:pS F (n - 1) P gf lb encs N X w) (Y:∀ i,(encs i).size=S.size)
  (I:Nat->World->Prop) (R:∀ i A B,I i A->Below w.heap.size A B->I i B) (h0:I 0 w) (r:Nat->Act)
  (d:∀ (l:Nat) (i:Nat) (W:World) (K:Act->World->Prop),K (r i) W ->
   assign.wpIn (F.inRound l) (n - 1 - 1) P (Exit.then K (λ_ _ _=>False)) { tmps:=(S.zip (encs i)).foldl (λt (p,v)=>t.setIfInBounds p v) a.tmps,defers:=[] } W)
  (y:∀ (l:Nat) (i:Nat) (W:World),I i W->i<N->body.wpIn (F.inRound l) (n - 1 - 1) P (λe _ W'=>e=.normal/\bc X W W'/\I (i+1) W') (r i) W)
  (u:∀ (D:Nat) (W:World),w.heap.size<=D->I N W->W.heap[D]?=some (.deferred (some []))->Q .normal { a with defers:={ target:=.collected D,args:=#[] } :: a.defers } W):
  (Code.rangeFunc g S assign body).wpIn F n P Q a w:=by
 refine wpIn_rangeFunc ?_;intro fn ab;rw[V];let rec':LoopState->Loop:=λst=>{ state:=st,pending:=none,fn,tmps:=a.tmps,params:=S,assign,body,defers:=w.heap.size }
 obtain⟨j,f⟩:∃ j,(w.alloc (.deferred (some []))).alloc (.loop (rec' .ready))=j:=⟨_,rfl⟩;have am:j.heap[w.heap.size]?=some (.deferred (some [])):=by
  rw[<-f];exact(Below.heap_alloc _ _ _ (by simp)).trans (heap_alloc_new w _)
 have ah:j.heap[w.heap.size+1]?=some (.loop (rec' .ready)):=by
  rw[<-f];have:=heap_alloc_new (w.alloc (.deferred (some []))) (.loop (rec' .ready));rwa [IQ] at this
 have an:j.heap.size=w.heap.size+2:=by rw[<-f];simp
 have O:Below w.heap.size w j:=by rw[<-f];exact((Below.refl _ w).alloc (IB _) _).alloc (by simp) _
 have b:∀ (B:World) (o:Obj),w.heap.size+1<B.heap.size->Below w.heap.size B (B.putObj (w.heap.size+1) o)/\(B.putObj (w.heap.size+1) o).heap[w.heap.size]?=B.heap[w.heap.size]?:=λB o c=>
  ⟨Below.grown (Below.refl _ B) (grownBy_putObj' B (w.heap.size+1) o) (by omega) (λk e=>by cases e;omega),World.putObj_heap_other (by omega)⟩
 refine⟨w.heap.size+1,[{ target:=.collected w.heap.size,args:=#[] }],j,{ target:=.fn (.func gf) lb,args:=#[.func (.yield (w.heap.size+1)) #[] #[]] },j,gf,
  #[.func (.yield (w.heap.size+1)) #[] #[]]++lb,j,?_,?_,?_,?_,λ_=>h1,?_⟩
 ·rw[<-f];exact run_enterLoop_outer _ _ _ _ _
 ·simp only[resolve,hg]
  simp[go_sem]
 ·intro f' J
  simp[Target.leads] at J;subst J;exact al
 ·simp[invoke,go_sem,eg]
 ·refine(aa (w.heap.size+1) (λi W=>I i W/\W.heap[w.heap.size+1]?=some (.loop (rec' .ready))/\W.heap[w.heap.size]?=some (.deferred (some []))) j O (by omega) (by omega)
   (λi A B h hb=>⟨R i A B h.1 (hb.mono (by omega)),(hb.block _ (by omega)).trans h.2.1,(hb.block _ (by omega)).trans h.2.2⟩) ?_ ⟨R 0 _ _ h0 O,ah,am⟩).mono ?_
  ·rintro i A hi ⟨ai,z,hd⟩
   have c:w.heap.size+1<A.heap.size:=(Iz.1 z).1;have hy:=run_yield (P:=P) (args:=encs i) z (Y i);have ag:(Instr.beginRound (w.heap.size+1)).run P A=.ok () (A.putObj (w.heap.size+1) (.loop (rec' .busy))):=run_beginRound z rfl;refine⟨fn,_,assign,body,hy,roundIn_of_wpIn ab (d _ i A _ ⟨_,ag,?_⟩)⟩;obtain⟨M,af⟩:=b A (.loop (rec' .busy)) c;have H:(A.putObj (w.heap.size+1) (.loop (rec' .busy))).heap[w.heap.size+1]?=some (.loop (rec' .busy)):=World.putObj_heap_same c;refine wpIn_mono (y _ i _ (R i _ _ ai M) hi) ?_;rintro e a3 C ⟨rfl,s,aj⟩;have E:w.heap.size+1<(A.putObj (w.heap.size+1) (.loop (rec' .busy))).heap.size:=(Iz.1 H).1;have G:=(s.block (w.heap.size+1) E (λU=>by have:=hX _ U;omega)).trans H;have ae:=(s.block w.heap.size (by omega) (λU=>by have:=hX _ U;omega)).trans (af.trans hd);have q:w.heap.size+1<C.heap.size:=(Iz.1 G).1;obtain⟨m,x⟩:=b C (.loop (rec' .ready)) q;have ad:(Instr.endRound (w.heap.size+1) none).run P C=.ok (.bool true) (C.putObj (w.heap.size+1) (.loop (rec' .ready))):=run_endRound (P:=P) none G;refine⟨_,_,ad,rfl,⟨R _ _ _ aj m,World.putObj_heap_same q,x.trans ae⟩,?_⟩;have s1:bc (λk=>k=w.heap.size+1\/X k) A (A.putObj (w.heap.size+1) (.loop (rec' .busy))):=
    ⟨M.size,λk _ Z=>World.putObj_heap_other (λe=>Z (.inl e))⟩
   have s3:bc (λk=>k=w.heap.size+1\/X k) C (C.putObj (w.heap.size+1) (.loop (rec' .ready))):=
    ⟨m.size,λk _ Z=>World.putObj_heap_other (λe=>Z (.inl e))⟩
   exact(s1.trans (s.mono (λ_ h=>.inr h))).trans s3
  ·rintro e T ⟨⟨v,rfl⟩,ak,z,hd⟩
   have c:w.heap.size+1<T.heap.size:=(Iz.1 z).1;have L:(Instr.endLoop (w.heap.size+1)).run P T=.ok none (T.putObj (w.heap.size+1) (.loop (rec' .exhausted))):=run_endLoop (P:=P) z (by simp[rec']);obtain⟨m,x⟩:=b T (.loop (rec' .exhausted)) c;exact⟨none,_,L,u _ _ (IB _) (R _ _ _ ak m) (x.trans hd)⟩
end
section
open Go.Shelf
attribute [local go_sem] Oper.semAt_some
def Br (T:TypeId)(w:World)(g:Nat)(l:List Bool):Prop:=w.heap[g]?=some (.cells (l.map Value.bool).toArray T (0,0))
theorem Br.lt (h:Br T w g l):g<w.heap.size:=(Iz.1 h).1
theorem Br.cell (h:Br T w g l)(i:Nat)(a:i<l.length):w.cell? ⟨g,i,none⟩=some (.bool (l.getD i false)):=by
 rw[cell_of_row w g i _ T _ h];simp[a]
theorem Br.frozen (h:Br T w g l)(i:Nat):w.frozen? ⟨g,i,none⟩=false:=by
 have a:=h;unfold Br at a;simp[World.frozen?,a]
theorem Br.set (h:Br T w g l)(i:Nat)(x:Bool):Br T (w.setCell ⟨g,i,none⟩ (.bool x)) g (l.set i x):=by
 have c:=h;unfold Br at c ⊢;obtain⟨a,b⟩:=Iz.1 c;simp[World.setCell,a,La,b,List.map_set]
theorem Br.new (T:TypeId)(w:World)(cs:Array Value)(l:List Bool)(h:cs=(l.map Value.bool).toArray):Br T (w.alloc (.cells cs T)) w.heap.size l:=by
 subst h;exact heap_alloc_new w _
theorem Aq (m:Nat)(z:1<=m)(X:Nat->Prop)(w:World)(hX:∀ k,X k->k<w.heap.size):
  pS Fence.wide m prog 264 #[] (λi=>#[.int .u64 (gW i)]) 64 X w:=by
 intro l J W hb af ae hJ hY h0;have HJ:=Lib.hid hJ;have HY:=Lib.hid hY;have HX:=Lib.hid hX;clear hJ hY hX;refine callsIn_of_wp func264 rfl trivial ?_ rfl;simp only[ntmps264,JE,JV,JF,Jf,Jq,Nat.reduceAdd,Nat.reduceSub,JB,JC,JM,Js,JG];gi_wp2
 have E:Br 292 (W.alloc (.cells (List.replicate 312 (Value.bool false)).toArray 292)) W.heap.size (cz 2).D:=Br.new _ _ _ _ rfl;gi_loopw [3] (λp wr=>∃ q:Nat,2<=q/\q<=312/\p=.int .u64 q/\Br 292 wr W.heap.size (cz q).D/\J (cz q).ps.length wr) (λp _=>312 - (intOf p).toNat)
 case atStart=>exact⟨2,by omega,by omega,rfl,E,HJ.out _ _ _ h0 ((Below.refl _ W).alloc (IB _) _)⟩
 case round=>
  clear E;obtain⟨q,y,P,rfl,F,c⟩:=hrel;by_cases R:q<312
  ·have b:=om q
   have I:=F.cell q (by omega);have ad:(q:Int)<312:=by omega
   rcases hdv:(cz q).D.getD q false with _|_
   ·have a:=(Al ⟨q,R⟩).resolve_left (by rw[hdv];decide)
    have Q:=a.resolve_left (by simp;omega);obtain⟨H,o⟩:=Q;simp only at H o;obtain⟨fn,tmps,N,ab,hy,hR⟩:=HY.out (cz q).ps.length wr o c;rw[H] at hy;have HT:=Lib.hid (An q hdv y);have HP:=Lib.hid H;rw[hdv] at I;have HD:=Lib.hid hdv;have HL:=Lib.hid b;clear hdv H a o b;gi_wp2
    refine hR.mono ?_;rintro e W3 ⟨rfl,B,s⟩;have C:Br 292 W3 W.heap.size (cz q).D:=
     (s.block _ F.lt (λh=>h.elim (λe=>by omega) (λhx=>by have:=HX.out _ hx;have:=hb.size;omega))).trans F
    clear hR s F c I;have t:0<=(q:Int)*(q:Int):=Int.mul_nonneg (by omega) (by omega);have u:(q:Int)*(q:Int)<=97344:=by
     have h2:=Int.mul_le_mul (show(q:Int)<=312 by omega) (show(q:Int)<=312 by omega) (by omega) (by omega);exact h2
    have d:IntKind.u64.wrap ((q:Int)*(q:Int))=((q*q:Nat):Int):=by rw[ez _ (by omega) (by omega)];simp
    obtain⟨M,K⟩:∃ M,fQ 312 q (q*q) (cz q).D=M:=⟨_,rfl⟩;have v:((q*q:Nat):Int)<=97344:=by rw[Ky];exact u
    obtain⟨k0,A⟩:∃ k,q*q=k:=⟨_,rfl⟩;have G:Hid (cz (q+1)=⟨M,(cz q).ps++[q]⟩):=Lib.hid (by rw[HT.out,K]);rw[A] at d K v;have O:=Lib.hid K;clear A K u t HT;gi_wp2
    gi_loopw [4] (λx wq=>∃ k:Nat,(k:Int)<=100000/\x=.int .u64 k/\(∃ f r,Br 292 wq W.heap.size r/\r.length=312/\fQ f q k r=M/\312<=f+k)/\J ((cz q).ps.length+1) wq) (λx _=>312 - (intOf x).toNat)
    case atStart=>exact⟨k0,by omega,rfl,⟨312,(cz q).D,C,HL.out,O.out,by omega⟩,B⟩
    case round=>
     clear C B O d v;obtain⟨k,ah,rfl,⟨f,r,L,S,z,hf⟩,c⟩:=hrel;by_cases j:k<312
     ·have I:=L.cell k (by omega)
      have ai:=L.frozen k;have ag:(k:Int)<312:=by omega
      have aa:IntKind.u64.wrap ((k:Int)+(q:Int))=(k:Int)+(q:Int):=ez _ (by omega) (by omega);have O:=Lib.hid z;have Z:=Lib.hid S;clear z S;gi_wp2
      go_roundw
      case rel=>
       obtain⟨g,Y,V⟩:=Ah f q k r j (by omega) hf;exact⟨k+q,by omega,by simp,⟨g,r.set k true,L.set k true,by rw[IW];exact Z.out,V.trans O.out,Y⟩,HJ.out _ _ _ c ((Below.refl _ _).setCell (by simp) _)⟩
      case measure=>simp[intOf];omega
     ·have HE:=Lib.hid ((Ag f q k r j).symm.trans z)
      have U:¬(k:Int)<312:=by omega
      clear z S;gi_wp2
      go_roundw
      case rel=>
       refine⟨q+1,by omega,by omega,by simp,?_,?_⟩
       ·rw[G.out,<-HE.out];exact L
       ·rw[G.out];simpa using c
      case measure=>simp[intOf];omega
   ·have HS:=Lib.hid (Am q hdv y)
    rw[hdv] at I;clear hdv b;gi_wp2
    go_roundw
    case rel=>exact⟨q+1,by omega,by omega,by simp,by rw[HS.out];exact F,by rw[HS.out];exact c⟩
    case measure=>simp[intOf];omega
  ·have n:q=312:=by omega
   have T:J 64 wr:=by rw[n,Ai] at c;exact c
   have U:¬(q:Int)<312:=by omega
   clear n c P;gi_wp2
   go_end0
   exact⟨⟨_,rfl⟩,T⟩
theorem Aw (w:World):Calls prog 245 #[] w λe w'=>e=.returned (.agg (aX cG))/\Kp w w':=by
 refine(callsIn_wide (n:=4)).1 ?_;refine callsIn_of_wp_marks func245 rfl trivial ?_ rfl;refine wpIn_wide.2 ?_;simp only[ntmps245,JE,JF,Jq,Nat.reduceSub,JB,JC,JM,Js,JG];go_wp2;obtain⟨c,a⟩:∃ c,((w.alloc (.cells (aX (aZ 64)) 264)).alloc (.cells (aX (aZ 64)) 264)).alloc (.cells #[.int .i64 0] 3)=c:=⟨_,rfl⟩;change Code.wp prog _ _ _ (((w.alloc (.cells (aX (aZ 64)) 264)).alloc (.cells (aX (aZ 64)) 264)).alloc (.cells #[.int .i64 0] 3));rw[a];have z:c.heap.size=w.heap.size+3:=by rw[<-a];simp
 have s:Arr 264 c w.heap.size (aZ 64):=by rw[<-a];exact((Arr.new _ w _ _ rfl).alloc _).alloc _
 have j:Arr 264 c (w.heap.size+1) (aZ 64):=by
  have:=(Arr.new 264 (w.alloc (.cells (aX (aZ 64)) 264)) (aX (aZ 64)) (aZ 64) rfl).alloc (.cells #[.int .i64 0] 3);rw[IQ,a] at this;exact this
 have y:c.cell? ⟨w.heap.size+1+1,0,none⟩=some (.int .i64 0)/\c.frozen? ⟨w.heap.size+1+1,0,none⟩=false:=by
  have:=heap_alloc_new ((w.alloc (.cells (aX (aZ 64)) 264)).alloc (.cells (aX (aZ 64)) 264)) (.cells #[.int .i64 0] 3);rw[IQ,IQ,a] at this;exact⟨by rw[cell_of_row c _ 0 _ _ _ this];rfl,by simp[World.frozen?,this]⟩
 have g:Kp w c:=by rw[<-a];exact(((Kp.refl w).alloc _).alloc _).alloc _
 clear a;refine wpIn_wide.1 (kf (F:=Fence.wide) (n:=4) rfl (by omega) (gf:=264) (lb:=#[]) rfl trivial (enters_of func264 (by kernel_rfl) rfl) (encs:=λi=>#[.int .u64 (gW i)]) (N:=64) (X:=λk=>k=w.heap.size+1\/k=w.heap.size+1+1) (by omega)
  (Aq (4 - 1) (by omega) _ c (by omega)) (λ_=>rfl)
  (λi A=>Arr 264 A w.heap.size (aZ 64)/\Arr 264 A (w.heap.size+1) (mix (aZ 64) cG i)/\A.cell? ⟨w.heap.size+1+1,0,none⟩=some (.int .i64 i)/\A.frozen? ⟨w.heap.size+1+1,0,none⟩=false/\Kp w A)
  (λi A B h r=>⟨h.1.below r (by omega),h.2.1.below r (by omega),(r.cell (p:=⟨w.heap.size+1+1,0,none⟩) (by simp;omega)).trans h.2.2.1,(r.frozen (p:=⟨w.heap.size+1+1,0,none⟩) (by simp;omega)).trans h.2.2.2.1,Below.trans h.2.2.2.2 (r.mono (by omega))⟩)
  ⟨s,j,y.1,y.2,g⟩
  (λi=>{ tmps:=#[.pointer (some ⟨w.heap.size,0,none⟩),.pointer (some ⟨w.heap.size+1,0,none⟩),.pointer (some ⟨w.heap.size+1+1,0,none⟩),.int .u64 (gW i),.int .u64 (gW i),undef,undef,undef,undef,undef,undef,undef],defers:=[] }) ?assign ?body ?done)
 case assign=>
  intro l i W K g;gi_wp2
  exact g
 case body=>
  rintro l i W ⟨s,j,I,G,g⟩ x;obtain⟨o,m⟩:=Ak ⟨i,x⟩;simp only at o m;have f:cG.getD i 0=lU (gW i):=by
   rw[<-Aj,Iw,Jt,Lc x];rfl
  have q:(mix (aZ 64) cG i).length=64:=by rw[qw (aZ 64) cG i (by simp[gX];rfl) (by rw[gX];omega),gX]
  have d:=tC (aZ 64) cG i (by simp[gX];rfl) (by rw[gX];omega) _ f;have P:=j.cell i (by omega);have O:=j.frozen i (by omega);generalize gW i=p at *;have E:(i:Int)<64:=by omega
  have J:=Lib.hid d;clear d f q;have C:prog.follows .mixedOrders=true:=by kernel_rfl
  gi_wp2
  gi_region_with_o (refine⟨trivial,?_⟩;gi_at_call 265;refine(CallsIn.inRound l (callsIn_wide.2 (Ap p _ o m))).mono ?_;rintro e w' ⟨rfl,rfl⟩)
  all_goals gi_wp2
  all_goals exact⟨(((bc.refl _ W).setCell ⟨w.heap.size+1,i,none⟩ _ (.inl rfl)).setCell ⟨w.heap.size+1+1,0,none⟩ _ (.inr rfl)).drew,((s.other _ _ (by simp)).other _ _ (by simp;omega)).drew,((j.setTo i _ J.out).other _ _ (by simp)).drew,(Below.setCell (Below.setCell g (by simp) _) (by simp;omega) _).drew⟩
 case done=>
  rintro D W M ⟨s,j,I,G,g⟩ H;have v:mix (aZ 64) cG 64=cG:=rfl;rw[v] at j;clear v;go_wp2_with(first
   | (refine iG underlying264 (by kernel_rfl) rfl (.tmp 1) rfl (w.heap.size+1) cG rfl j rfl ?_)
   | (refine gV (by kernel_rfl) rfl rfl (.tmp 0) (.tmp 11) rfl w.heap.size (aZ 64) cG rfl rfl s (gX 64) rfl ?_;intro L u b))
  have t:=(b.other D (by omega)).trans H;refine⟨by simp,.inl ⟨_,_,rfl,run_takeDeferred t,?_⟩⟩;exact⟨_,ku underlying264 (by kernel_rfl) rfl _ _ w.heap.size cG rfl ((World.putObj_heap_other (by omega)).trans u) rfl,rfl,iB (b.below g (IB _)) (by omega) (by rw[b.size];exact g.size) _⟩
end
theorem Az (w:World):Calls prog 246 #[] w λe w'=>e=.returned (.agg (aX df.list))/\Kp w w':=by
 go_enter func246,ntmps246;have c:Arr 252 (w.alloc (.cells (aX (aZ 8)) 252)) w.heap.size (aZ 8):=Arr.new _ w _ _ rfl;go_wp2_with((refine gV (by kernel_rfl) rfl rfl (.tmp 0) (.tmp 1) rfl w.heap.size (aZ 8) df.list rfl rfl c rfl rfl ?_;intro d b a))
 refine bodyPost_ret (ku underlying252 (by kernel_rfl) rfl _ _ w.heap.size df.list rfl b rfl) rfl ?_;exact⟨rfl,a.below ((Kp.refl w).alloc _) (IB _)⟩
theorem AA (w:World):Calls prog 225 #[] w λe w'=>e=.returned (.agg (aX df.list))/\Kp w w':=by
 go_enter func225,ntmps225;have c:Arr 252 (w.alloc (.cells (aX (aZ 8)) 252)) w.heap.size (aZ 8):=Arr.new _ w _ _ rfl;go_wp2_with((refine gV (by kernel_rfl) rfl rfl (.tmp 0) (.tmp 1) rfl w.heap.size (aZ 8) df.list rfl rfl c rfl rfl ?_;intro d b a))
 refine bodyPost_ret (ku underlying252 (by kernel_rfl) rfl _ _ w.heap.size df.list rfl b rfl) rfl ?_;exact⟨rfl,a.below ((Kp.refl w).alloc _) (IB _)⟩
theorem AB (w:World):Calls prog 224 #[] w λe w'=>(∃ g,e=.returned (.slice (some ⟨g,0,none⟩) 64 64)/\Arr 247 w' g cG/\w.heap.size<=g)/\Kp w w':=by
 go_enter func224,ntmps224;go_wp2;go_ret;exact⟨⟨w.heap.size,rfl,Arr.new _ w _ _ rfl,IB _⟩,(Kp.refl w).alloc _⟩
def jg (i:Int):UInt32:=if 0<=i/\i<64 then cG.getD i.toNat 0 else 0
section
variable {P : Program}
end
theorem Arr.cells8 {s:S8}(h:Arr T w g s.list):
  w.cell? ⟨g,0,none⟩=some (.int .u32 (aa s.a))/\w.cell? ⟨g,1,none⟩=some (.int .u32 (aa s.b))/\w.cell? ⟨g,2,none⟩=some (.int .u32 (aa s.c))/\w.cell? ⟨g,3,none⟩=some (.int .u32 (aa s.d)) /\
  w.cell? ⟨g,4,none⟩=some (.int .u32 (aa s.e))/\w.cell? ⟨g,5,none⟩=some (.int .u32 (aa s.f))/\w.cell? ⟨g,6,none⟩=some (.int .u32 (aa s.g))/\w.cell? ⟨g,7,none⟩=some (.int .u32 (aa s.h)):=
 ⟨h.cell 0 (IV rfl),h.cell 1 (IV rfl),h.cell 2 (IV rfl),h.cell 3 (IV rfl),h.cell 4 (IV rfl),h.cell 5 (IV rfl),h.cell 6 (IV rfl),h.cell 7 (IV rfl)⟩
theorem Arr.frozen8 {s:S8}(h:Arr T w g s.list):
  w.frozen? ⟨g,0,none⟩=false/\w.frozen? ⟨g,1,none⟩=false/\w.frozen? ⟨g,2,none⟩=false/\w.frozen? ⟨g,3,none⟩=false/\w.frozen? ⟨g,4,none⟩=false/\w.frozen? ⟨g,5,none⟩=false/\w.frozen? ⟨g,6,none⟩=false/\w.frozen? ⟨g,7,none⟩=false:=
 ⟨h.frozen 0 (IV rfl),h.frozen 1 (IV rfl),h.frozen 2 (IV rfl),h.frozen 3 (IV rfl),h.frozen 4 (IV rfl),h.frozen 5 (IV rfl),h.frozen 6 (IV rfl),h.frozen 7 (IV rfl)⟩
theorem Arr.set8 {s:S8}(h:Arr T w g s.list)(r:S8):
  Arr T ((((((((w.setCell ⟨g,0,none⟩ (.int .u32 (aa r.a))).setCell ⟨g,1,none⟩ (.int .u32 (aa r.b))).setCell ⟨g,2,none⟩ (.int .u32 (aa r.c))).setCell ⟨g,3,none⟩ (.int .u32 (aa r.d))).setCell ⟨g,4,none⟩ (.int .u32 (aa r.e))).setCell ⟨g,5,none⟩ (.int .u32 (aa r.f))).setCell ⟨g,6,none⟩ (.int .u32 (aa r.g))).setCell ⟨g,7,none⟩ (.int .u32 (aa r.h))) g r.list:=
 (((((((h.set 0 r.a _ rfl).set 1 r.b _ rfl).set 2 r.c _ rfl).set 3 r.d _ rfl).set 4 r.e _ rfl).set 5 r.f _ rfl).set 6 r.g _ rfl).set 7 r.h _ rfl
theorem lY {B:Nat}(h:Below B a w)(b:B<=g)(l k j i f e d c:Value):
  Below B a ((((((((w.setCell ⟨g,0,none⟩ l).setCell ⟨g,1,none⟩ k).setCell ⟨g,2,none⟩ j).setCell ⟨g,3,none⟩ i).setCell ⟨g,4,none⟩ f).setCell ⟨g,5,none⟩ e).setCell ⟨g,6,none⟩ d).setCell ⟨g,7,none⟩ c):=
 (((((((h.setCell (p:=⟨g,0,none⟩) b _).setCell (p:=⟨g,1,none⟩) b _).setCell (p:=⟨g,2,none⟩) b _).setCell (p:=⟨g,3,none⟩) b _).setCell (p:=⟨g,4,none⟩) b _).setCell (p:=⟨g,5,none⟩) b _).setCell (p:=⟨g,6,none⟩) b _).setCell (p:=⟨g,7,none⟩) b _
theorem lZ (r:S8):Value.agg (aX r.list)=.agg #[.int .u32 (aa r.a),.int .u32 (aa r.b),.int .u32 (aa r.c),.int .u32 (aa r.d),.int .u32 (aa r.e),.int .u32 (aa r.f),.int .u32 (aa r.g),.int .u32 (aa r.h)]:=rfl
section
open Go.Shelf
attribute [local go_sem] Oper.semAt_some
theorem qE (a:Option Addr)(n c:Nat)(w:World):
  Calls prog 247 #[.slice a n c,.int .i64 64] w λe w'=>e=.returned (.func (.func 266) #[] #[.pointer (some ⟨w.heap.size,0,none⟩),.pointer (some ⟨w.heap.size+1,0,none⟩)]) /\
   (w.alloc (.cells #[.slice a n c] 24)).alloc (.cells #[.int .i64 64] 3)=w':=by
 go_enter func247,ntmps247;go_wp2;go_ret;exact⟨rfl,rfl⟩
def cM (a:Option Addr)(i:Nat):Value:=
 match a with
 | some ⟨b,o,_⟩=>.slice (some ⟨b,o+64*i,none⟩) 64 64
 | none=>undef
theorem tN (h:bc X A B){p:Addr}{v:Value}(a:A.cell? p=some v)(b:¬X p.block):B.cell? p=some v:=
 (KX (w:=A) (h.block p.block (Jb A p a) b)).trans a
theorem ma (m:Nat)(hm:1<=m)(X:Nat->Prop)(w:World)(a:Option Addr)(N c n j:Nat)(d:w.cell? ⟨n,0,none⟩=some (.slice a (64*N) c))(g:w.cell? ⟨j,0,none⟩=some (.int .i64 64))
  (D:¬X n) (C:¬X j) (hc:64*N<=c) (B:c<=maxLen) (I:0<N->∃ b o,a=some ⟨b,o,none⟩):
  pS Fence.wide m prog 266 #[.pointer (some ⟨n,0,none⟩),.pointer (some ⟨j,0,none⟩)] (λi=>#[cM a i]) N X w:=by
 intro l J W H V U M K O;have HJ:=Lib.hid M;have Z:=Lib.hid K;have q:=(H.cell (p:=⟨n,0,none⟩) (Jb w _ d)).trans d;have r:=(H.cell (p:=⟨j,0,none⟩) (Jb w _ g)).trans g;have t:n≠l:=by have:=Jb w _ d;simp at this;omega
 have s:j≠l:=by have:=Jb w _ g;simp at this;omega
 have R:=Lib.hid (IC t s);have HA:=Lib.hid I;unfold maxLen at B;clear M K d g t s I;refine callsIn_of_wp func266 rfl trivial ?_ rfl;simp only[ntmps266,JE,JF,Jf,Jq,Nat.reduceAdd,Nat.reduceSub,JB,JC,JM,Js,JG];gi_wp2
 gi_loopw [4] (λp wr=>∃ k:Nat,k<=N/\p=.int .i64 (64*(k:Int))/\wr.cell? ⟨n,0,none⟩=some (.slice a (64*N) c)/\wr.cell? ⟨j,0,none⟩=some (.int .i64 64)/\J k wr) (λp _=>64*N - (intOf p).toNat)
 case atStart=>exact⟨0,by omega,rfl,q,r,O⟩
 case round=>
  clear q r O;obtain⟨k,hk,rfl,d,g,A⟩:=hrel;by_cases y:k<N
  ·obtain⟨b,o,rfl⟩:=HA.out (by omega)
   have F:64*(k:Int)<64*(N:Int):=by omega
   have S:¬c=64*k:=by omega
   have e1:64*N - 64*k=64*(N - k):=by omega
   have T:64*(k:Int)+64<=64*(N:Int):=by omega
   have G:64*k+64<=c:=by omega
   have Y:64*k+64 - 64*k=64:=by omega
   gi_wp2
   gi_region
   obtain⟨fn,tmps,u,P,E,L⟩:=Z.out k wr.drew y (HJ.out _ _ _ A ((Below.refl _ _).drew));simp only[cM] at E;gi_wp2
   refine L.mono ?_;rintro e Q ⟨rfl,z,f⟩;have v:Q.cell? ⟨n,0,none⟩=some (.slice (some ⟨b,o,none⟩) (64*N) c):=tN f d (λh=>h.elim (λe=>R.out.1 e) D);have x:Q.cell? ⟨j,0,none⟩=some (.int .i64 64):=tN f g (λh=>h.elim (λe=>R.out.2 e) C);clear d g A f L E;gi_wp2
   go_roundw
   case rel=>exact⟨k+1,by omega,by congr 1,v,x,z⟩
   case measure=>simp[intOf];omega
  ·gi_wp2
   go_end0
   obtain rfl:k=N:=by omega
   exact⟨⟨_,rfl⟩,A⟩
