import Derived.Test.YthmhklmkgkfcpaaGreatDoorW1
import Derived.Lib.TrailingZeros
import Derived.Laws.Bits64b
import Derived.RangeFuncNested
import Derived.RangeFuncBound
import Derived.RangeFuncCalls
import Derived.RangeFuncLeaves
import Derived.RangeFuncFrom
import Derived.Shelf.Abstract
import Derived.Shelf.RegionOpen
import Derived.OwnWalkIn
import Derived.TacticsInMore
import Derived.LoopNIn
import Derived.LoopIn
import Derived.Laws.Rows
import Derived.Laws.Tables
import Derived.Laws.PanicsMore
set_option linter.all false
set_option maxHeartbeats 8000000
set_option maxRecDepth 100000
namespace Go.Proofs.YthmhklmkgkfcpaaGreatDoor
open Go.Proofs.Tryz Go.RowKit
variable {A B w w':World}{K g i j k n q x:Nat}{Q:Exit->Act->World->Prop}{T c e:TypeId}{X:Nat->Prop}{a:Act}{b:Array Oper}{l:List UInt32}{o:Oper}{p:Nat->Bool}
def nd (j q:Nat):Nat:=2 ^ (j+1)*q+2 ^ j - 1
theorem bC (k:Nat):1<=2 ^ k:=Nat.one_le_two_pow
theorem bi (k:Nat):2 ^ (k+1)=2*2 ^ k:=by rw[LQ];omega
theorem fa (q:Nat):nd 0 q=2*q:=by unfold nd;simp
theorem mc (j q:Nat):nd (j+1) q=2*nd j q+1:=by
 unfold nd;rw[bi (j+1),bi j,LH];have:=bC j;omega
theorem tb (j q:Nat):nd (j+1) q / 2=nd j q:=by rw[mc];omega
theorem jt (j q:Nat):nd (j+1) q % 2=1:=by rw[mc];omega
theorem kO (q:Nat):nd 0 q % 2=0:=by rw[fa];omega
theorem kP (j q:Nat):nd (j+1) q - 2 ^ j=nd j (2*q)/\2 ^ j<=nd (j+1) q:=by
 unfold nd;rw[bi (j+1),bi j];have:=bC j;have e:2*(2*2 ^ j)*q=2*2 ^ j*(2*q):=by rw[Lm 2 (2*2 ^ j),LH]
 rw[e];omega
theorem kQ (j q:Nat):nd (j+1) q+2 ^ j=nd j (2*q+1):=by
 unfold nd;rw[bi (j+1),bi j,Nat.mul_add];have:=bC j;have e:2*(2*2 ^ j)*q=2*2 ^ j*(2*q):=by rw[Lm 2 (2*2 ^ j),LH]
 rw[e];omega
theorem iV {r:Nat}(h:nd j q=nd i r):j=i/\q=r:=by
 induction j generalizing i with
 | zero=>
  cases i with
  | zero=>rw[fa,fa] at h;exact⟨rfl,by omega⟩
  | succ i=>have b:=kO q;have a:=jt i r;omega
 | succ j ih=>
  cases i with
  | zero=>have b:=kO r;have a:=jt j q;omega
  | succ i=>
   rw[mc,mc] at h
   obtain⟨b,a⟩:=ih (i:=i) (by omega)
   exact⟨by omega,a⟩
theorem ir:∀ (K x:Nat),x<2 ^ (K+1) - 1->∃ j q,x=nd j q/\j<=K/\q<2 ^ (K - j)
 | 0,x,h=>⟨0,0,by simp at h;rw[fa];omega,Ja _,by simp⟩
 | K+1,x,h=>by
  by_cases hx:x % 2=0
  ·refine⟨0,x / 2,by rw[fa];omega,by omega,?_⟩
   rw[bi] at h
   rw[MR]
   omega
  ·obtain⟨j,q,e,hj,hq⟩:=ir K (x / 2) (by rw[bi] at h;omega)
   refine⟨j+1,q,by rw[mc,<-e];omega,by omega,?_⟩
   rw[Nat.add_sub_add_right]
   exact hq
theorem fP (c:j<=K)(a:q<2 ^ (K - j)):nd j q<2 ^ (K+1) - 1:=by
 have e:2 ^ (K+1)=2 ^ (j+1)*2 ^ (K - j):=by rw[<-Nat.pow_add];congr 1;omega
 have b:2 ^ (j+1)*(q+1)<=2 ^ (K+1):=by rw[e];exact Nat.mul_le_mul_left _ a
 rw[Nat.mul_add,ML] at b;unfold nd;have:=bC j;have:=bi j;omega
theorem zm (h:nd j q<2 ^ (K+1) - 1):j<=K/\q<2 ^ (K - j):=by
 obtain⟨i,r,e,b,a⟩:=ir K _ h;obtain⟨rfl,rfl⟩:=iV e;exact⟨b,a⟩
theorem ql (K:Nat):nd K 0=2 ^ K - 1:=by unfold nd;simp
theorem tc (a:q<2 ^ (K - j))(b:j<=K):nd j q=2 ^ K - 1↔j=K:=by
 constructor
 ·intro h
  rw[<-ql] at h;exact(iV h).1
 ·rintro rfl
  simp at a;subst a;exact ql j
def mf:Nat->Nat->Nat
 | 0,_=>0
 | f+1,x=>if x % 2=1 then mf f (x / 2)+1 else 0
def lev (x:Nat):Nat:=mf 12 x
theorem td:∀ (f j q:Nat),j<f->mf f (nd j q)=j
 | 0,j,q,h=>by omega
 | f+1,0,q,h=>by unfold mf;rw[if_neg (by have:=kO q;omega)]
 | f+1,j+1,q,h=>by unfold mf;rw[if_pos (jt j q),tb,td f j q (by omega)]
theorem gg (j q:Nat)(h:j<=11):lev (nd j q)=j:=td 12 j q (by omega)
theorem zn (j q:Nat):(nd j q - (2 ^ j - 1)) / 2=2 ^ j*q/\(nd j q+(2 ^ j - 1)) / 2=2 ^ j*q+2 ^ j - 1:=by
 unfold nd;rw[bi j,LH];have:=bC j;constructor <;> omega
theorem te (j q b:Nat):2 ^ j*q<=b/\b<=2 ^ j*q+2 ^ j - 1↔b / 2 ^ j=q:=by
 have d:=bC j;constructor
 ·rintro⟨a,c⟩
  refine Nat.le_antisymm ?_ ?_
  ·exact JN.1 ((Nat.div_lt_iff_lt_mul (by omega)).2 (by rw[Nat.succ_mul,Lm];omega))
  ·exact(Nat.le_div_iff_mul_le (by omega)).2 (by rw[Lm];exact a)
 ·rintro rfl
  have a:=Nat.div_add_mod b (2 ^ j);have c:=Nat.mod_lt b (show 0<2 ^ j by omega);omega
def sq (q:Nat):Nat:=if q % 2=0 then q+1 else q - 1
def aK (K j q:Nat):List Nat:=(List.range (K - j)).map λi=>nd (j+1+i) (q / 2 ^ (i+1))
def cQ (K j q:Nat):List Nat:=(List.range (K - j)).map λi=>nd (j+i) (sq (q / 2 ^ i))
theorem mg (K j q:Nat):(aK K j q).length=K - j:=by simp[aK]
theorem ox (K j q:Nat):(cQ K j q).length=K - j:=by simp[cQ]
theorem zo (K j q i:Nat)(h:i<K - j):(aK K j q)[i]?=some (nd (j+1+i) (q / 2 ^ (i+1))):=by
 unfold aK;rw[JQ,Ly h];rfl
theorem zq (K j q i:Nat)(h:i<K - j):(cQ K j q)[i]?=some (nd (j+i) (sq (q / 2 ^ i))):=by
 unfold cQ;rw[JQ,Ly h];rfl
theorem tf (K j q i:Nat)(h:i<K - j):(aK K j q).take (i+1)=(aK K j q).take i++[nd (j+1+i) (q / 2 ^ (i+1))]:=by
 have a:i<(aK K j q).length:=by rw[mg];exact h
 have e:=zo K j q i h;rw[IV a] at e;rw[Jp a,Lz e]
theorem tg (K j q i:Nat)(h:i<K - j):(cQ K j q).take (i+1)=(cQ K j q).take i++[nd (j+i) (sq (q / 2 ^ i))]:=by
 have a:i<(cQ K j q).length:=by rw[ox];exact h
 have e:=zq K j q i h;rw[IV a] at e;rw[Jp a,Lz e]
theorem kR (a:q<2 ^ (K - j))(b:i<=K - j):q / 2 ^ i<2 ^ (K - (j+i)):=by
 rw[Nat.div_lt_iff_lt_mul (by have:=bC i;omega),<-Nat.pow_add];have e:K - (j+i)+i=K - j:=by omega
 rw[e];exact a
theorem qm (q i:Nat):q / 2 ^ (i+1)=q / 2 ^ i / 2:=by rw[LQ,Kl]
def ju:Nat->Nat->Nat->Nat->Nat
 | 0,j,_,_=>j
 | f+1,j,a,b=>if a / 2 ^ j=b / 2 ^ j then j else ju f (j+1) a b
def bW (a b:Nat):Nat:=ju 10 0 a b
theorem th:∀ (f j a b:Nat),a / 2 ^ (j+f)=b / 2 ^ (j+f)->(∀ i,i<j->a / 2 ^ i≠b / 2 ^ i) ->
  j<=ju f j a b/\ju f j a b<=j+f/\a / 2 ^ (ju f j a b)=b / 2 ^ (ju f j a b)/\∀ i,i<ju f j a b->a / 2 ^ i≠b / 2 ^ i
 | 0,j,a,b,h,hi=>⟨Ja _,Ja _,h,hi⟩
 | f+1,j,a,b,h,hi=>by
  unfold ju
  by_cases e:a / 2 ^ j=b / 2 ^ j
  ·rw[if_pos e]
   exact⟨Ja _,by omega,e,hi⟩
  ·rw[if_neg e]
   have h2:=th f (j+1) a b (by rw[show j+1+f=j+(f+1) by omega];exact h) (λi hij=>by
    rcases JC (JN.1 hij) with h3|h3
    ·exact hi i h3
    ·rw[h3];exact e)
   exact⟨by omega,by omega,h2.2.2.1,h2.2.2.2⟩
theorem ti {a b:Nat}(f:K<=10)(e:a<2 ^ K)(d:b<2 ^ K):bW a b<=K/\a / 2 ^ (bW a b)=b / 2 ^ (bW a b)/\∀ i,i<bW a b->a / 2 ^ i≠b / 2 ^ i:=by
 have j:(2:Nat) ^ K<=2 ^ 10:=Kd (by omega) f;obtain⟨_,_,g,c⟩:=th 10 0 a b (by rw[JS,LB (by omega),LB (by omega)]) (λi h=>by omega);refine⟨?_,g,c⟩;refine ME λh=>c K h ?_
 rw[LB e,LB d]
def cm (n:Int):Bool:=(List.range 11).any λk=>decide (n=((2 ^ k:Nat):Int))
theorem mi (K:Nat)(h:K<=10):cm ((2 ^ K:Nat):Int)=true:=by
 unfold cm;rw[MF];exact⟨K,by simp;omega,by simp⟩
theorem mj (n:Int):cm n=true↔∃ K,K<=10/\n=((2 ^ K:Nat):Int):=by
 constructor
 ·intro h
  unfold cm at h;rw[MF] at h;obtain⟨K,b,a⟩:=h;exact⟨K,by simp at b;omega,Kz a⟩
 ·rintro⟨K,h,rfl⟩
  exact mi K h
theorem mm {n:Int}(h:cm n=true):1<=n/\n<=1024:=by
 obtain⟨K,a,rfl⟩:=(mj n).1 h;have c:(2:Nat) ^ K<=2 ^ 10:=Kd (by omega) a;have b:=bC K;generalize 2 ^ K=M at *;omega
def inB (x n:Int):Bool:=cm n && (decide (0<=x) && decide (x<2*n - 1))
theorem it (x n:Int):inB x n=true↔∃ K j q,K<=10/\n=((2 ^ K:Nat):Int)/\x=((nd j q:Nat):Int)/\j<=K/\q<2 ^ (K - j):=by
 unfold inB;simp only[Ld,decide_eq_true_eq];constructor
 ·rintro⟨f,d,g⟩
  obtain⟨K,c,rfl⟩:=(mj n).1 f;obtain⟨y,rfl⟩:=Jq d;obtain⟨j,q,e,b,a⟩:=ir K y (by rw[bi];omega);exact⟨K,j,q,c,rfl,by rw[e],b,a⟩
 ·rintro⟨K,j,q,c,rfl,rfl,b,a⟩
  have h:=fP b a;rw[bi] at h;exact⟨mi K c,by omega,by omega⟩
theorem eC (x:Int):(0<=x/\x<=2046)↔∃ j q,x=((nd j q:Nat):Int)/\j<=10/\q<2 ^ (10 - j):=by
 constructor
 ·rintro⟨c,d⟩
  obtain⟨y,rfl⟩:=Jq c;obtain⟨j,q,e,b,a⟩:=ir 10 y (by omega);exact⟨j,q,by rw[e],b,a⟩
 ·rintro⟨j,q,rfl,b,a⟩
  have h:=fP b a;omega
theorem bP (h:K<=10):2 ^ K<=1024:=by
 have:(2:Nat) ^ K<=2 ^ 10:=Kd (by omega) h;omega
theorem dW (c:K<=10)(b:j<=K)(a:q<2 ^ (K - j)):nd j q<=2046/\j<=10/\q<2 ^ (10 - j):=by
 have h:=fP b a;have d:=bP c;rw[bi] at h;refine⟨by omega,by omega,Jh a (Kd (by omega) (by omega))⟩
def qOf (x:Nat):Nat:=x / 2 ^ (lev x+1)
theorem jR (j q:Nat)(h:j<=11):qOf (nd j q)=q:=by
 unfold qOf;rw[gg j q h];unfold nd;have b:=bC j;have a:=bi j;have e:2 ^ (j+1)*q+2 ^ j - 1=(2 ^ j - 1)+2 ^ (j+1)*q:=by omega
 rw[e,Nat.add_mul_div_left _ _ (by omega),LB (by omega),JS]
def lgN (n:Int):Nat:=n.toNat.log2
theorem tj:∀ K,K<=10->lgN ((2 ^ K:Nat):Int)=K:=by
 intro K h;unfold lgN;rw[Jm];have:∀ K:Fin 11,(2 ^ K.1).log2=K.1:=by decide
 exact this ⟨K,by omega⟩
def gi (n:Int):Int:=if cm n then 0 else 1
def gn (n:Int):Int:=if cm n then 2*n - 1 else 0
def okN (x:Int):Prop:=0<=x/\x<=2046
instance (x:Int):Decidable (okN x):=by unfold okN;infer_instance
def eD (x:Int):Int:=if okN x then (lev x.toNat:Int) else 0
def chE (x:Int):Int:=if eD x=0 then 1 else 0
def eJ (x:Int):Int:=if eD x=0 then 0 else x - ((2 ^ ((eD x).toNat - 1):Nat):Int)
def fb (x:Int):Int:=if eD x=0 then 0 else x+((2 ^ ((eD x).toNat - 1):Nat):Int)
theorem fm (b:j<=10)(a:q<2 ^ (10 - j)):eD ((nd j q:Nat):Int)=(j:Int):=by
 unfold eD;rw[if_pos (show okN ((nd j q:Nat):Int) from(eC _).2 ⟨j,q,rfl,b,a⟩),Jm,gg j q (by omega)]
theorem mn {x:Int}(h:¬okN x):eD x=0:=if_neg h
theorem zr (a:q<2 ^ 10):chE ((nd 0 q:Nat):Int)=1/\eJ ((nd 0 q:Nat):Int)=0/\fb ((nd 0 q:Nat):Int)=0:=by
 have e:eD ((nd 0 q:Nat):Int)=0:=fm (by omega) a;unfold chE eJ fb;rw[e];exact⟨rfl,rfl,rfl⟩
theorem fD (c:j+1<=10)(b:q<2 ^ (10 - (j+1))):chE ((nd (j+1) q:Nat):Int)=0/\eJ ((nd (j+1) q:Nat):Int)=((nd j (2*q):Nat):Int)/\fb ((nd (j+1) q:Nat):Int)=((nd j (2*q+1):Nat):Int):=by
 have e:=fm c b;have a:¬(((j+1:Nat):Int)=0):=by omega
 unfold chE eJ fb;rw[e,if_neg a,if_neg a,if_neg a,Jm,KP];obtain⟨g,f⟩:=kP j q;have d:=kQ j q;exact⟨rfl,by omega,by omega⟩
def tk (x:Nat):Nat:=nd (lev x+1) (qOf x / 2)
def tl (x:Nat):Nat:=nd (lev x) (sq (qOf x))
def paE (x n:Int):Int:=if inB x n then (if x=n - 1 then 11 else 0) else 1
def paV (x n:Int):Int:=if paE x n=0 then (tk x.toNat:Int) else 0
def siV (x n:Int):Int:=if paE x n=0 then (tl x.toNat:Int) else 0
def arE (x n:Int):Int:=if inB x n then 0 else 1
def mr (x n:Int):List Nat:=if inB x n then aK (lgN n) (lev x.toNat) (qOf x.toNat) else []
def qo (x n:Int):List Nat:=if inB x n then cQ (lgN n) (lev x.toNat) (qOf x.toNat) else []
theorem tp {x n:Int}(h:¬inB x n=true):paE x n=1/\paV x n=0/\siV x n=0:=by
 have e:paE x n=1:=if_neg h;unfold paV siV;rw[e];exact⟨rfl,rfl,rfl⟩
theorem tq (a:K<=10):paE ((nd K 0:Nat):Int) ((2 ^ K:Nat):Int)=11/\paV ((nd K 0:Nat):Int) ((2 ^ K:Nat):Int)=0/\siV ((nd K 0:Nat):Int) ((2 ^ K:Nat):Int)=0:=by
 have c:=ql K;have b:=bC K;have e:paE ((nd K 0:Nat):Int) ((2 ^ K:Nat):Int)=11:=by
  unfold paE;rw[if_pos ((it _ _).2 ⟨K,K,0,a,rfl,rfl,Ja _,by simp⟩),if_pos (by omega)]
 unfold paV siV;rw[e];exact⟨rfl,rfl,rfl⟩
theorem qp (b:K<=10)(d:j<K)(a:q<2 ^ (K - j)):
  paE ((nd j q:Nat):Int) ((2 ^ K:Nat):Int)=0/\paV ((nd j q:Nat):Int) ((2 ^ K:Nat):Int)=((nd (j+1) (q / 2):Nat):Int)/\siV ((nd j q:Nat):Int) ((2 ^ K:Nat):Int)=((nd j (sq q):Nat):Int):=by
 have f:=bC K;have c:=tc a (by omega);have e:paE ((nd j q:Nat):Int) ((2 ^ K:Nat):Int)=0:=by
  unfold paE;rw[if_pos ((it _ _).2 ⟨K,j,q,b,rfl,rfl,by omega,a⟩),if_neg];intro h;have:=c.1 (by omega);omega
 unfold paV siV tk tl;rw[e,if_pos rfl,if_pos rfl,Jm,gg j q (by omega),jR j q (by omega)];exact⟨rfl,rfl,rfl⟩
theorem zt {x n:Int}(h:¬inB x n=true):arE x n=1/\mr x n=[]/\qo x n=[]:=⟨if_neg h,if_neg h,if_neg h⟩
theorem tt (a:K<=10)(c:j<=K)(b:q<2 ^ (K - j)):
  arE ((nd j q:Nat):Int) ((2 ^ K:Nat):Int)=0/\mr ((nd j q:Nat):Int) ((2 ^ K:Nat):Int)=aK K j q/\qo ((nd j q:Nat):Int) ((2 ^ K:Nat):Int)=cQ K j q:=by
 have h:=(it _ _).2 ⟨K,j,q,a,rfl,rfl,c,b⟩;unfold arE mr qo;rw[if_pos h,if_pos h,if_pos h,Jm,gg j q (by omega),jR j q (by omega),tj K a];exact⟨rfl,rfl,rfl⟩
def okC (a b n:Int):Prop:=cm n=true/\0<=a/\0<=b/\a<n/\b<n
instance (a b n:Int):Decidable (okC a b n):=by unfold okC;infer_instance
def coN (a b:Nat):Nat:=nd (bW a b) (a / 2 ^ bW a b)
def loV (x:Int):Int:=if okN x then ((2 ^ lev x.toNat*qOf x.toNat:Nat):Int) else 0
def hiV (x:Int):Int:=if okN x then ((2 ^ lev x.toNat*qOf x.toNat+2 ^ lev x.toNat - 1:Nat):Int) else -1
theorem tu {x:Int}(h:¬okN x):loV x=0/\hiV x = -1:=⟨if_neg h,if_neg h⟩
theorem mu (b:j<=10)(a:q<2 ^ (10 - j)):loV ((nd j q:Nat):Int)=((2 ^ j*q:Nat):Int)/\hiV ((nd j q:Nat):Int)=((2 ^ j*q+2 ^ j - 1:Nat):Int):=by
 have h:okN ((nd j q:Nat):Int):=(eC _).2 ⟨j,q,rfl,b,a⟩;unfold loV hiV;rw[if_pos h,if_pos h,Jm,gg j q (by omega),jR j q (by omega)];exact⟨rfl,rfl⟩
theorem tv (a b:Nat)(g:a<9223372036854775808)(f:b<9223372036854775808):bits .and .i64 (a:Int) (b:Int)=((a &&& b:Nat):Int):=by
 have e:a &&& b<2 ^ 63:=Nat.and_lt_two_pow _ (by omega);have d:(BitVec.ofInt 64 (a:Int)).toNat=a:=by
  rw[Kh,Li];exact Ke (by omega)
 have c:(BitVec.ofInt 64 (b:Int)).toNat=b:=by
  rw[Kh,Li];exact Ke (by omega)
 show IntKind.i64.wrap ((BitVec.ofInt 64 (a:Int) &&& BitVec.ofInt 64 (b:Int)).toNat:Int)=_
 rw[BitVec.toNat_and,d,c];exact IW _ (by omega)
theorem tx:∀ (k m f:Nat),k<f->Lib.ctzFrom f (2 ^ k*(2*m+1))=k
 | 0,m,f,h=>by
  obtain⟨f,rfl⟩:∃ g,f=g+1:=⟨f - 1,by omega⟩
  unfold Lib.ctzFrom
  rw[if_pos (by simp)]
 | k+1,m,f,h=>by
  obtain⟨f,rfl⟩:∃ g,f=g+1:=⟨f - 1,by omega⟩
  have e:2 ^ (k+1)*(2*m+1)=2*(2 ^ k*(2*m+1)):=by rw[LQ,Lm (2 ^ k) 2,LH]
  unfold Lib.ctzFrom
  rw[e,if_neg (by omega),show 2*(2 ^ k*(2*m+1)) / 2=2 ^ k*(2*m+1) by omega,tx k m f (by omega)]
  omega
theorem zu (j q:Nat):nd j q+1=2 ^ j*(2*q+1):=by
 unfold nd;have a:=bC j;have e:2 ^ j*(2*q+1)=2 ^ (j+1)*q+2 ^ j:=by rw[Nat.mul_add,ML,bi,<-LH,Lm (2 ^ j) 2]
 rw[e];omega
theorem zv (j q:Nat)(a:j<=10):Lib.ctz 64 (nd j q+1)=j:=by
 rw[zu];have:2 ^ j*(2*q+1)≠0:=by have:=bC j;exact Nat.mul_ne_zero (by omega) (by omega)
 unfold Lib.ctz;rw[if_neg this];exact tx j q 64 (by omega)
theorem zw (j q:Nat):nd j q &&& 2 ^ (j+1)=if q % 2=0 then 0 else 2 ^ (j+1):=by
 have c:(nd j q).testBit (j+1)=decide (q % 2=1):=by
  have e:nd j q=(2 ^ j - 1)+2 ^ (j+1)*q:=by unfold nd;have:=bC j;omega
  rw[Nat.testBit_eq_decide_div_mod_eq,e,Nat.add_mul_div_left _ _ (by exact Nat.two_pow_pos _),LB (by have:=bC j;rw[bi];omega),JS]
 apply Nat.eq_of_testBit_eq;intro i;rw[Nat.testBit_and,Nat.testBit_two_pow];by_cases b:j+1=i
 ·subst b
  rw[c];by_cases a:q % 2=0
  ·rw[if_pos a];simp;omega
  ·rw[if_neg a,Nat.testBit_two_pow];simp;omega
 ·have e:decide (j+1=i)=false:=Jr b
  rw[e,Bool.and_false];split
  ·simp
  ·rw[Nat.testBit_two_pow,e]
theorem tz (j q:Nat)(h:q % 2=0):nd j q+2 ^ j=nd (j+1) (q / 2):=by
 obtain⟨r,rfl⟩:∃ r,q=2*r:=⟨q / 2,by omega⟩;have a:=kP j r;rw[show 2*r / 2=r by omega];omega
theorem tA (j q:Nat)(h:¬q % 2=0):nd j q - 2 ^ j=nd (j+1) (q / 2)/\2 ^ j<=nd j q:=by
 obtain⟨r,rfl⟩:∃ r,q=2*r+1:=⟨q / 2,by omega⟩;have a:=kQ j r;rw[show(2*r+1) / 2=r by omega];omega
theorem zx (j q:Nat):nd j q+nd j (sq q)=2*nd (j+1) (q / 2):=by
 by_cases h:q % 2=0
 ·have b:=tz j q h
  have a:=kQ j (q / 2);have e:sq q=2*(q / 2)+1:=by unfold sq;rw[if_pos h];omega
  rw[e];omega
 ·obtain⟨b,c⟩:=tA j q h
  have a:=kP j (q / 2);have e:sq q=2*(q / 2):=by unfold sq;rw[if_neg h];omega
  rw[e];omega
theorem zy:∀ n:Fin 1025,(decide (1<=n.1) && decide (n.1 &&& (n.1 - 1)=0))=(List.range 11).any λk=>decide (n.1=2 ^ k):=by decide +kernel
theorem zz (n:Nat)(a:1<=n)(b:n<=1024):cm (n:Int)=decide (n &&& (n - 1)=0):=by
 have h:=zy ⟨n,by omega⟩;simp only[a,decide_true,Bool.true_and] at h;rw[h];unfold cm;congr 1
 funext k
 congr 1
 exact propext ⟨λe=>by exact_mod_cast e,λe=>by exact_mod_cast e⟩
theorem zA (n:Int)(h:¬(1<=n/\n<=1024)):cm n=false:=by
 rw[Lg];exact λe=>h (mm e)
structure bg (X:Nat->Prop)(A B:World):Prop where
 size:A.heap.size<=B.heap.size
 block:∀ k,k<A.heap.size->¬X k->B.heap[k]?=A.heap[k]?
theorem bg.refl (X:Nat->Prop)(A:World):bg X A A:=⟨Ja _,λ_ _ _=>rfl⟩
theorem bg.trans {C:World}(h:bg X A B)(k:bg X B C):bg X A C:=
 ⟨Js h.size k.size,λi b a=>(k.block i (Jh b h.size) a).trans (h.block i b a)⟩
theorem bg.of_kp (h:Kp A B):bg X A B:=⟨h.size,λk a _=>h.block k a⟩
theorem bg.setCell (h:bg X A B)(p:Addr)(v:Value)(b:X p.block):bg X A (B.setCell p v):=
 ⟨by simpa using h.size,λk c a=>(Below.heap_setCell B p v k (λe=>a (e▸b))).trans (h.block k c a)⟩
theorem bg.mono {Y:Nat->Prop}(h:bg X A B)(a:∀ k,X k->Y k):bg Y A B:=⟨h.size,λk d c=>h.block k d (λb=>c (a k b))⟩
theorem bg.drew (h:bg X A B):bg X A B.drew:=⟨h.size,h.block⟩
theorem bg.drewN (h:bg X A B)(n:Nat):bg X A (B.drewN n):=h.trans (bg.of_kp ((Kp.refl B).drewN n))
theorem iW {B D:Nat}{a W:World}(h:Below B a W)(b:B<=D)(c:B<=W.heap.size)(o:Obj):Below B a (W.putObj D o):=
 Below.grown h (grownBy_putObj' W D o) c (λk e=>by cases e;exact b)
section
variable {F : Fence} {n : Nat} {P : Program}
def qt (F:Fence)(m:Nat)(P:Program)(gf:Nat)(lb:Array Value)(encs:Nat->Array Value)(N:Nat)(X:Nat->Prop)(w:World):Prop:=
 ∀ (l:Nat) (J:Nat->World->Prop) (W:World),Below w.heap.size w W->w.heap.size<=l->l<W.heap.size->(∀ i A B,J i A->Below W.heap.size A B->J i B) ->
  (∀ i A,i<N->J i A->YieldAt F (m - 1) P l (encs i) A λe B=>e=.returned (.bool true)/\J (i+1) B/\bg (λk=>k=l\/X k) A B) ->
  J 0 W->CallsIn F m P gf (#[.func (.yield l) #[] #[]]++lb) W λe B=>(∃ v,e=.returned v)/\J N B
theorem kS {g:Operand}{S:Array Tmp}{assign body:Code}
  (V:F.round=none) (h1:1<=n) {gf:Nat} {lb:Array Value} (hg:a.eval g=.func (.func gf) #[] lb) (al:F.fn gf) (eg:∀ args w,(callFunc gf args).run P w=.ok (.enter gf args) w)
  {encs:Nat->Array Value} {N:Nat}  (hX:∀ k,X k->k<w.heap.size) (aa:qt F (n - 1) P gf lb encs N X w) (Y:∀ i,(encs i).size=S.size)
  (I:Nat->World->Prop) (R:∀ i A B,I i A->Below w.heap.size A B->I i B) (h0:I 0 w) (r:Nat->Act)
  (d:∀ (l:Nat) (i:Nat) (W:World) (K:Act->World->Prop),K (r i) W ->
   assign.wpIn (F.inRound l) (n - 1 - 1) P (Exit.then K (λ_ _ _=>False)) { tmps:=(S.zip (encs i)).foldl (λt (p,v)=>t.setIfInBounds p v) a.tmps,defers:=[] } W)
  (y:∀ (l:Nat) (i:Nat) (W:World),I i W->i<N->body.wpIn (F.inRound l) (n - 1 - 1) P (λe _ W'=>e=.normal/\bg X W W'/\I (i+1) W') (r i) W)
  (u:∀ (D:Nat) (W:World),w.heap.size<=D->I N W->W.heap[D]?=some (.deferred (some []))->Q .normal { a with defers:={ target:=.collected D,args:=#[] } :: a.defers } W):
  (Code.rangeFunc g S assign body).wpIn F n P Q a w:=by
 refine wpIn_rangeFunc ?_;intro fn ab;rw[V];let rec':LoopState->Loop:=λst=>{ state:=st,pending:=none,fn,tmps:=a.tmps,params:=S,assign,body,defers:=w.heap.size }
 obtain⟨j,f⟩:∃ j,(w.alloc (.deferred (some []))).alloc (.loop (rec' .ready))=j:=⟨_,rfl⟩;have am:j.heap[w.heap.size]?=some (.deferred (some [])):=by
  rw[<-f];exact(Below.heap_alloc _ _ _ (by simp)).trans (heap_alloc_new w _)
 have ah:j.heap[w.heap.size+1]?=some (.loop (rec' .ready)):=by
  rw[<-f];have:=heap_alloc_new (w.alloc (.deferred (some []))) (.loop (rec' .ready));rwa [Jn] at this
 have an:j.heap.size=w.heap.size+2:=by rw[<-f];simp
 have O:Below w.heap.size w j:=by rw[<-f];exact((Below.refl _ w).alloc (Ja _) _).alloc (by simp) _
 have b:∀ (B:World) (o:Obj),w.heap.size+1<B.heap.size->Below w.heap.size B (B.putObj (w.heap.size+1) o)/\(B.putObj (w.heap.size+1) o).heap[w.heap.size]?=B.heap[w.heap.size]?:=λB o c=>
  ⟨Below.grown (Below.refl _ B) (grownBy_putObj' B (w.heap.size+1) o) (by omega) (λk e=>by cases e;omega),World.putObj_heap_other (by omega)⟩
 refine⟨w.heap.size+1,[{ target:=.collected w.heap.size,args:=#[] }],j,{ target:=.fn (.func gf) lb,args:=#[.func (.yield (w.heap.size+1)) #[] #[]] },j,gf,
  #[.func (.yield (w.heap.size+1)) #[] #[]]++lb,j,?_,?_,?_,?_,λ_=>h1,?_⟩
 ·rw[<-f];exact run_enterLoop_outer _ _ _ _ _
 ·simp only[resolve,hg]
  simp[go_sem]
 ·intro f' J
  simp[Target.leads] at J;subst J;exact al
 ·simp[invoke,go_sem,eg]
 ·refine(aa (w.heap.size+1) (λi W=>I i W/\W.heap[w.heap.size+1]?=some (.loop (rec' .ready))/\W.heap[w.heap.size]?=some (.deferred (some []))) j O (by omega) (by omega)
   (λi A B h hb=>⟨R i A B h.1 (hb.mono (by omega)),(hb.block _ (by omega)).trans h.2.1,(hb.block _ (by omega)).trans h.2.2⟩) ?_ ⟨R 0 _ _ h0 O,ah,am⟩).mono ?_
  ·rintro i A hi ⟨ai,z,hd⟩
   have c:w.heap.size+1<A.heap.size:=(IX.1 z).1;have hy:=run_yield (P:=P) (args:=encs i) z (Y i);have ag:(Instr.beginRound (w.heap.size+1)).run P A=.ok () (A.putObj (w.heap.size+1) (.loop (rec' .busy))):=run_beginRound z rfl;refine⟨fn,_,assign,body,hy,roundIn_of_wpIn ab (d _ i A _ ⟨_,ag,?_⟩)⟩;obtain⟨M,af⟩:=b A (.loop (rec' .busy)) c;have H:(A.putObj (w.heap.size+1) (.loop (rec' .busy))).heap[w.heap.size+1]?=some (.loop (rec' .busy)):=World.putObj_heap_same c;refine wpIn_mono (y _ i _ (R i _ _ ai M) hi) ?_;rintro e a3 C ⟨rfl,s,aj⟩;have E:w.heap.size+1<(A.putObj (w.heap.size+1) (.loop (rec' .busy))).heap.size:=(IX.1 H).1;have G:=(s.block (w.heap.size+1) E (λU=>by have:=hX _ U;omega)).trans H;have ae:=(s.block w.heap.size (by omega) (λU=>by have:=hX _ U;omega)).trans (af.trans hd);have q:w.heap.size+1<C.heap.size:=(IX.1 G).1;obtain⟨m,x⟩:=b C (.loop (rec' .ready)) q;have ad:(Instr.endRound (w.heap.size+1) none).run P C=.ok (.bool true) (C.putObj (w.heap.size+1) (.loop (rec' .ready))):=run_endRound (P:=P) none G;refine⟨_,_,ad,rfl,⟨R _ _ _ aj m,World.putObj_heap_same q,x.trans ae⟩,?_⟩;have s1:bg (λk=>k=w.heap.size+1\/X k) A (A.putObj (w.heap.size+1) (.loop (rec' .busy))):=
    ⟨M.size,λk _ Z=>World.putObj_heap_other (λe=>Z (.inl e))⟩
   have s3:bg (λk=>k=w.heap.size+1\/X k) C (C.putObj (w.heap.size+1) (.loop (rec' .ready))):=
    ⟨m.size,λk _ Z=>World.putObj_heap_other (λe=>Z (.inl e))⟩
   exact(s1.trans (s.mono (λ_ h=>.inr h))).trans s3
  ·rintro e T ⟨⟨v,rfl⟩,ak,z,hd⟩
   have c:w.heap.size+1<T.heap.size:=(IX.1 z).1;have L:(Instr.endLoop (w.heap.size+1)).run P T=.ok none (T.putObj (w.heap.size+1) (.loop (rec' .exhausted))):=run_endLoop (P:=P) z (by simp[rec']);obtain⟨m,x⟩:=b T (.loop (rec' .exhausted)) c;exact⟨none,_,L,u _ _ (Ja _) (R _ _ _ ak m) (x.trans hd)⟩
end
structure Nod where
 mk ::
 kind:Int
 name:Int
 pub:List UInt8
 un:List Int
 hash:List UInt8
theorem Nod.eq_iff (a b:Nod):a=b↔a.kind=b.kind/\a.name=b.name/\a.pub=b.pub/\a.un=b.un/\a.hash=b.hash:=by
 cases a;cases b;simp
instance:DecidableEq Nod:=λa b=>decidable_of_iff _ (Nod.eq_iff a b).symm
def aY:Nod:=⟨0,0,[],[],[]⟩
def aH (name:Int)(pub:List UInt8):Nod:=⟨1,name,pub,[],[]⟩
def ats (t:List Nod)(x:Nat):Nod:=t.getD x aY
def lvs (t:List Nod):Nat:=(t.length+1) / 2
theorem jS {t:List Nod}(h:x<t.length):ats t x=t[x]:=by
 unfold ats;rw[IU,IV h];rfl
theorem jv {t:List Nod}(h:t.length<=x):ats t x=aY:=by
 unfold ats;rw[IU,LX h];rfl
theorem fc (t:List Nod)(y:Nat)(n:Nod)(x:Nat)(h:y<t.length):ats (t.set y n) x=if x=y then n else ats t x:=by
 unfold ats;rw[IU,Mc,IU];by_cases e:y=x
 ·subst e
  rw[if_pos rfl,if_pos rfl,if_pos h];rfl
 ·rw[if_neg e,if_neg (λh=>e h.symm)]
theorem zS (t:List Nod)(k x:Nat):ats (t++List.replicate k aY) x=ats t x:=by
 unfold ats;rw[IU,IU];by_cases h:x<t.length
 ·rw[JE h]
 ·rw[JB (by omega),LX (l:=t) (by omega),List.getElem?_replicate]
  split <;> rfl
theorem tL {t u:List Nod}(a:t.length=u.length)(h:∀ x,ats t x=ats u x):t=u:=by
 refine LT a λx c b=>?_
 have:=h x;rwa [jS c,jS b] at this
def dP (name:Int)(pub:List UInt8):Prop:=0<=name/\name<=65535/\pub.length=32
instance (name:Int) (pub:List UInt8):Decidable (dP name pub):=by unfold dP;infer_instance
def unP (t:List Nod)(a b:Int)(l:List Int):Prop:=l.Pairwise (·<·)/\∀ i∈l,a<=i/\i<=b/\(ats t (2*i.toNat)).kind=1
def okP (t:List Nod)(x:Nat):Prop:=
 ats t x=aY \/
 ((ats t x).kind=1+(x:Int) % 2/\dP (ats t x).name (ats t x).pub/\((ats t x).hash.length=0\/(ats t x).hash.length=32) /\
  ((ats t x).kind=1->(ats t x).un=[])/\((ats t x).kind=2->(ats t x).name=0/\unP t (loV x) (hiV x) (ats t x).un))
structure aD (t:List Nod)(K:Nat):Prop where
 mk ::
 le:K<=10
 len:t.length=2 ^ (K+1) - 1
 ok:∀ x,x<t.length->okP t x
 one:∀ x y,x<y->y<t.length->(ats t x).kind=1->(ats t y).kind=1->(ats t x).name≠(ats t y).name
 used:∃ x,x<t.length/\(ats t x).kind=1
def fQ (t:List Nod):Prop:=∃ K,aD t K
theorem aD.lv {t:List Nod}(h:aD t K):lvs t=2 ^ K:=by
 unfold lvs;rw[h.len];have:=bC K;have:=bi K;omega
theorem aD.len2 {t:List Nod}(h:aD t K):t.length=2*2 ^ K - 1:=by rw[h.len,bi]
theorem aD.okA {t:List Nod}(h:aD t K)(x:Nat):okP t x:=by
 by_cases a:x<t.length
 ·exact h.ok x a
 ·exact .inl (jv (by omega))
theorem zT {t:List Nod}(h:okP t x)(a:(ats t x).kind=0):ats t x=aY:=by
 rcases h with h|⟨h,_⟩
 ·exact h
 ·omega
theorem aD.even {t:List Nod}(h:aD t K)(i:Nat):ats t (2*i)=aY\/((ats t (2*i)).kind=1/\(ats t (2*i)).un=[]/\dP (ats t (2*i)).name (ats t (2*i)).pub/\((ats t (2*i)).hash.length=0\/(ats t (2*i)).hash.length=32)):=by
 rcases h.okA (2*i) with a|⟨a,d,c,b,_⟩
 ·exact .inl a
 ·have e:(ats t (2*i)).kind=1:=by rw[a];omega
  exact .inr ⟨e,b e,d,c⟩
theorem aD.odd {t:List Nod}(h:aD t K)(c:x % 2=1):ats t x=aY\/((ats t x).kind=2/\unP t (loV x) (hiV x) (ats t x).un):=by
 rcases h.okA x with a|⟨a,g,f,d,b⟩
 ·exact .inl a
 ·have e:(ats t x).kind=2:=by rw[a];omega
  exact .inr ⟨e,(b e).2⟩
theorem aD.unAt {t:List Nod}(h:aD t K)(l:j<=10)(g:q<2 ^ (10 - j))(i:Int)(a:i∈(ats t (nd j q)).un):
  ∃ k:Nat,i=(k:Int)/\k / 2 ^ j=q/\(ats t (2*k)).kind=1:=by
 rcases h.okA (nd j q) with b|⟨b,u,s,n,m⟩
 ·rw[b] at a;simp[aY] at a
 ·by_cases e:(ats t (nd j q)).kind=1
  ·rw[n e] at a;simp at a
  ·have o:(ats t (nd j q)).kind=2:=by omega
   obtain⟨r,p,c⟩:=(m o).2.2 i a;obtain⟨f,d⟩:=mu l g;rw[f] at r;rw[d] at p;obtain⟨k,rfl⟩:=Jq (show 0<=i by omega);rw[Jm] at c;refine⟨k,rfl,(te j q k).1 ⟨by omega,?_⟩,c⟩;have:=bC j;omega
def qB (t:List Nod)(name:Int):Nat:=(List.range (lvs t)).findIdx λi=>decide ((ats t (2*i)).kind=1/\(ats t (2*i)).name=name)
def gN (t:List Nod)(name:Int):Bool:=decide (qB t name<lvs t)
def kY (t:List Nod)(name:Int):Int:=if gN t name then (qB t name:Int) else 0
theorem qC (h:(List.range n).findIdx p<n):p ((List.range n).findIdx p)=true:=by
 have:=List.findIdx_getElem (p:=p) (xs:=List.range n) (w:=by rw[List.length_range];exact h);rwa [List.getElem_range] at this
theorem zU (h:i<(List.range n).findIdx p):p i=false:=by
 have a:i<(List.range n).length:=Jh h Mx;have:=List.not_of_lt_findIdx (p:=p) (xs:=List.range n) h;rw[List.getElem_range] at this;simpa using this
theorem tM (n:Nat)(p:Nat->Bool):(List.range n).findIdx p<=n:=by
 have:=Mx (p:=p) (xs:=List.range n);rwa [List.length_range] at this
theorem tN (d:i<=n)(c:i<n->p i=true)(b:∀ k,k<i->p k=false):(List.range n).findIdx p=i:=by
 rcases Nat.lt_trichotomy ((List.range n).findIdx p) i with h|h|h
 ·have:=qC (p:=p) (n:=n) (by omega)
  rw[b _ h] at this;cases this
 ·exact h
 ·have a:=zU h
  have e:=tM n p;rw[c (by omega)] at a;cases a
def dx (t:List Nod):Nat:=(List.range (lvs t)).findIdx λi=>decide ((ats t (2*i)).kind=0)
def gy (l:List Int)(n:Int):Nat:=l.findIdx λx=>decide (n<x)
def jw (l:List Int)(n:Int):List Int:=l.take (gy l n)++n :: l.drop (gy l n)
def lgT (t:List Nod):Nat:=(lvs t).log2
def aP (t:List Nod)(i:Nat):List Nat:=aK (lgT t) 0 i
def aN (t:List Nod):List Nod:=if dx t=lvs t then t++List.replicate (t.length+1) aY else t
def gO (n:Nod)(i:Nat):Nod:=⟨n.kind,n.name,n.pub,jw n.un i,n.hash⟩
def cR (o:List Nod)(i:Nat)(x:Nat):List Nod:=if (ats o x).kind=2 then o.set x (gO (ats o x) i) else o
def iw (t:List Nod)(name:Int)(pub:List UInt8):List Nod:=
 (aP (aN t) (dx t)).foldl (λo x=>cR o (dx t) x) ((aN t).set (2*dx t) (aH name pub))
def en (t:List Nod)(name:Int)(pub:List UInt8):Int:=
 if dP name pub then (if gN t name then 12 else if dx t=1024 then 4 else 0) else 1
def ix (t:List Nod)(name:Int)(pub:List UInt8):List Nod:=if en t name pub=0 then iw t name pub else t
def iX (t:List Nod)(name:Int)(pub:List UInt8):Int:=if en t name pub=0 then (dx t:Int) else 0
def bf (t:List Nod)(i:Int):Prop:=0<=i/\i<lvs t/\(ats t (2*i.toNat)).kind=1
instance (t:List Nod) (i:Int):Decidable (bf t i):=by unfold bf;infer_instance
def gQ (t:List Nod)(i:Nat):List Nod:=(aP t i).foldl (λo x=>o.set x aY) t
def zV (t:List Nod)(f:Nat):Prop:=∀ i,f<=i->i<lvs t->(ats t (2*i)).kind=0
instance (t:List Nod) (f:Nat):Decidable (zV t f):=
 decidable_of_iff (∀ i,i<lvs t->f<=i->(ats t (2*i)).kind=0) ⟨λh i h1 h2=>h i h2 h1,λh i h1 h2=>h i h2 h1⟩
def tO (t:List Nod)(i:Nat):List Nod:=(gQ t i).set (2*i) aY
def mz (t:List Nod)(i:Int)(pub:List UInt8):Int:=if pub.length=32 then (if bf t i then 0 else 11) else 1
def bj (t:List Nod)(i:Nat)(pub:List UInt8):List Nod:=(gQ t i).set (2*i) (aH (ats t (2*i)).name pub)
def mA (t:List Nod)(i:Int)(pub:List UInt8):List Nod:=if mz t i pub=0 then bj t i.toNat pub else t
def bt (t:List Nod):Nat->Nat->List Int
 | 0,q=>if (ats t (nd 0 q)).kind=0 then [] else ((nd 0 q:Nat):Int) :: (ats t (nd 0 q)).un.map (2*·)
 | j+1,q=>if (ats t (nd (j+1) q)).kind=0 then bt t j (2*q)++bt t j (2*q+1) else ((nd (j+1) q:Nat):Int) :: (ats t (nd (j+1) q)).un.map (2*·)
def gR (t:List Nod)(x:Int):List Int:=if 0<=x/\x<t.length then bt t (lev x.toNat) (qOf x.toNat) else []
def gS (t:List Nod)(m:Nat):Prop:=t.length<=m/\∀ n∈t,n.pub.length<=40/\n.hash.length<=40/\n.un.length<=m
theorem qG (h:K<=10):(2 ^ K).log2=K:=by
 have:=tj K h;unfold lgN at this;rwa [Jm] at this
theorem aD.lg {t:List Nod}(h:aD t K):lgT t=K:=by
 unfold lgT;rw[h.lv,qG h.le]
theorem oI:x∈aK K 0 i↔∃ j,1<=j/\j<=K/\x=nd j (i / 2 ^ j):=by
 unfold aK;rw[JO];constructor
 ·rintro⟨k,a,rfl⟩
  rw[List.mem_range] at a;exact⟨k+1,by omega,by omega,by rw[show 0+1+k=k+1 by omega]⟩
 ·rintro⟨j,c,b,rfl⟩
  exact⟨j - 1,by rw[List.mem_range];omega,by rw[show 0+1+(j - 1)=j by omega,show j - 1+1=j by omega]⟩
theorem gU (h:x∈aK K 0 i):x % 2=1:=by
 obtain⟨j,a,_,rfl⟩:=oI.1 h;obtain⟨j,rfl⟩:=Nat.exists_eq_add_of_le' a;exact jt _ _
theorem fd (a:i<2 ^ K)(h:x∈aK K 0 i):x<2 ^ (K+1) - 1:=by
 obtain⟨j,c,b,rfl⟩:=oI.1 h;refine fP b ?_;have:=kR (K:=K) (j:=0) (q:=i) (i:=j) (by simpa using a) (by omega);rwa [show K - (0+j)=K - j by omega] at this
theorem qH (K i:Nat):(aK K 0 i).Nodup:=by
 unfold aK;refine List.Pairwise.map _ ?_ (List.nodup_range (n:=K - 0));intro a b d c;have:=(iV c).1;omega
theorem tQ (l:List Nat):∀ t:List Nod,(l.foldl (λo x=>o.set x aY) t).length=t.length:=by
 induction l with
 | nil=>intro t;rfl
 | cons a l ih=>intro t;rw[MN,ih,JA]
theorem zY (l:List Nat):∀ (t:List Nod) (x:Nat),(∀ y∈l,y<t.length)->ats (l.foldl (λo x=>o.set x aY) t) x=if x∈l then aY else ats t x:=by
 induction l with
 | nil=>intro t x _;simp
 | cons a l ih=>
  intro t x h
  rw[MN,ih (t.set a aY) x (λy b=>by rw[JA];exact h y (Mh _ b)),fc t a aY x (h a LV)]
  by_cases e:x=a
  ·subst e;simp
  ·simp[e]
theorem qI (l:List Nat)(i:Nat):∀ t:List Nod,(l.foldl (λo x=>cR o i x) t).length=t.length:=by
 induction l with
 | nil=>intro t;rfl
 | cons a l ih=>
  intro t
  rw[MN,ih]
  unfold cR
  split
  ·rw[JA]
  ·rfl
theorem zZ (t:List Nod)(i a x:Nat)(h:a<t.length):ats (cR t i a) x=if x=a/\(ats t a).kind=2 then gO (ats t a) i else ats t x:=by
 unfold cR;by_cases b:(ats t a).kind=2
 ·rw[if_pos b,fc t a _ x h]
  by_cases e:x=a
  ·rw[if_pos e,if_pos ⟨e,b⟩]
  ·rw[if_neg e,if_neg (λh=>e h.1)]
 ·rw[if_neg b,if_neg (λh=>b h.2)]
theorem tR (l:List Nat)(i:Nat):∀ (t:List Nod) (x:Nat),l.Nodup->(∀ y∈l,y<t.length) ->
  ats (l.foldl (λo x=>cR o i x) t) x=if x∈l/\(ats t x).kind=2 then gO (ats t x) i else ats t x:=by
 induction l with
 | nil=>intro t x _ _;simp
 | cons a l ih=>
  intro t x f h
  have k:=h a LV
  rw[Ms] at f
  have c:(cR t i a).length=t.length:=by
   have:=qI [a] i t
   simpa using this
  rw[MN,ih (cR t i a) x f.2 (λy j=>by rw[c];exact h y (Mh _ j)),zZ t i a x k]
  by_cases e:x=a
  ·subst e
   have g:¬(x∈l/\(if x=x/\(ats t x).kind=2 then gO (ats t x) i else ats t x).kind=2):=λh=>f.1 h.1
   rw[if_neg g]
   by_cases d:(ats t x).kind=2
   ·rw[if_pos ⟨rfl,d⟩,if_pos ⟨LV,d⟩]
   ·rw[if_neg (λh=>d h.2),if_neg (λh=>d h.2)]
  ·have g:(if x=a/\(ats t a).kind=2 then gO (ats t a) i else ats t x)=ats t x:=if_neg (λh=>e h.1)
   rw[g]
   by_cases b:x∈l/\(ats t x).kind=2
   ·rw[if_pos b,if_pos ⟨Mh _ b.1,b.2⟩]
   ·rw[if_neg b,if_neg (λh=>b ⟨(Ki.1 h.1).resolve_left e,h.2⟩)]
theorem qJ (t:List Nod):dx t<=lvs t:=tM _ _
theorem Aa {t:List Nod}(h:dx t<lvs t):(ats t (2*dx t)).kind=0:=by
 have:=qC h;exact Kz this
theorem Ab {t:List Nod}(b:i<=lvs t)(d:i<lvs t->(ats t (2*i)).kind=0)(c:∀ k,k<i->(ats t (2*k)).kind≠0):dx t=i:=
 tN b (λh=>Jy (d h)) (λk a=>Jr (c k a))
def wK (t:List Nod)(K:Nat):Nat:=if dx t=lvs t then K+1 else K
theorem aD.wide {t:List Nod}(h:aD t K):(aN t).length=2 ^ (wK t K+1) - 1/\lvs (aN t)=2 ^ wK t K/\dx t<2 ^ wK t K/\(∀ x,ats (aN t) x=ats t x)/\K<=wK t K:=by
 have g:=h.len2;have c:=h.lv;have f:=bC K;have e:=bi K;have b:=qJ t;unfold aN wK;unfold lvs at c b ⊢;by_cases a:dx t=(t.length+1) / 2
 ·rw[if_pos a,if_pos a]
  have d:=bi (K+1);refine⟨?_,?_,?_,λx=>zS _ _ _,by omega⟩
  ·rw[Jc,JT];omega
  ·rw[Jc,JT];omega
  ·omega
 ·rw[if_neg a,if_neg a]
  exact⟨by omega,by omega,by omega,λx=>rfl,by omega⟩
theorem aD.gap1024 {t:List Nod}(h:aD t K)(a:dx t≠1024):wK t K<=10:=by
 unfold wK;have c:=h.le;have d:=h.lv;split
 ·next e=>
  rcases JC c with b|b
  ·omega
  ·subst b
   rw[e,d] at a;exact absurd rfl a
 ·exact c
theorem aD.blankLen {t:List Nod}(i:Nat):(gQ t i).length=t.length:=tQ _ _
theorem aD.blankAt {t:List Nod}(h:aD t K)(b:i<2 ^ K)(x:Nat):ats (gQ t i) x=if x∈aK K 0 i then aY else ats t x:=by
 unfold gQ aP;rw[h.lg];exact zY _ _ x (λy a=>by rw[h.len];exact fd b a)
theorem aD.goneAt {t:List Nod}(h:aD t K)(b:i<2 ^ K)(x:Nat):ats (tO t i) x=if x=2*i\/x∈aK K 0 i then aY else ats t x:=by
 have c:=h.len2;unfold tO;rw[fc _ _ _ x (by rw[aD.blankLen,c];omega),h.blankAt b x];by_cases e:x=2*i
 ·rw[if_pos e,if_pos (.inl e)]
 ·rw[if_neg e]
  by_cases a:x∈aK K 0 i
  ·rw[if_pos a,if_pos (.inr a)]
  ·rw[if_neg a,if_neg (λh=>h.elim e a)]
theorem aD.updAt {t:List Nod}(h:aD t K)(a:i<2 ^ K)(pub:List UInt8)(x:Nat):
  ats (bj t i pub) x=if x=2*i then aH (ats t (2*i)).name pub else if x∈aK K 0 i then aY else ats t x:=by
 have b:=h.len2;unfold bj;rw[fc _ _ _ x (by rw[aD.blankLen,b];omega),h.blankAt a x]
theorem aD.updLen {t:List Nod}(i:Nat)(pub:List UInt8):(bj t i pub).length=t.length:=by
 unfold bj;rw[JA,aD.blankLen]
theorem aD.lt_of {t:List Nod}(h:(ats t x).kind≠0):x<t.length:=by
 refine Nat.lt_of_not_le λa=>h ?_
 rw[jv a];rfl
theorem Ac {t u:List Nod}(h:okP t x)(d:ats u x=ats t x)(j:∀ k:Nat,(k:Int)∈(ats t x).un->(ats t (2*k)).kind=1->(ats u (2*k)).kind=1)(g:0<=loV x):okP u x:=by
 rcases h with b|⟨b,n,m,l,a⟩
 ·exact .inl (by rw[d,b])
 ·refine .inr ?_
  rw[d];refine⟨b,n,m,l,λe=>⟨(a e).1,(a e).2.1,λi c=>?_⟩⟩;obtain⟨p,o,f⟩:=(a e).2.2 i c;obtain⟨k,rfl⟩:=Jq (show 0<=i by omega);rw[Jm] at f ⊢;exact⟨p,o,j k c f⟩
theorem Ad (x:Int):0<=loV x:=by
 unfold loV;split
 ·omega
 ·omega
theorem Ae {l:List Int}{n:Int}(h:k<gy l n)(a:k<l.length):l[k]<=n:=by
 have:=List.not_of_lt_findIdx (p:=λx=>decide (n<x)) (xs:=l) h;have:=of_decide_eq_false (by simpa using this:decide (n<l[k])=false);omega
theorem Af {l:List Int}{n:Int}(h:gy l n<l.length):n<l[gy l n]:=by
 have:=List.findIdx_getElem (p:=λx=>decide (n<x)) (xs:=l) (w:=h);exact Kz this
theorem Ag (l:List Int)(n:Int):gy l n<=l.length:=Mx
theorem Ah {t:List Nod}{name:Int}(h:∀ k,k<lvs t->¬((ats t (2*k)).kind=1/\(ats t (2*k)).name=name)):gN t name=false:=by
 refine Jr λa=>?_
 have:=qC a;exact h _ a (Kz this)
theorem aD.upd {t:List Nod}(h:aD t K)(a:(ats t (2*i)).kind=1){pub:List UInt8}(r:pub.length=32):aD (bj t i pub) K:=by
 have v:i<2 ^ K:=by
  have d:=aD.lt_of (t:=t) (x:=2*i) (by rw[a];decide);have n:=h.len2;omega
 have c:=h.updAt v pub;have m:=aD.updLen (t:=t) i pub;have l:dP (ats t (2*i)).name pub:=by
  rcases h.even i with e|⟨_,_,e,_⟩
  ·rw[e] at a;cases a
  ·exact⟨e.1,e.2.1,r⟩
 refine⟨h.le,by rw[m,h.len],λx w=>?_,λx y j q g f=>?_,⟨2*i,by rw[m];exact aD.lt_of (by rw[a];decide),by rw[c,if_pos rfl];rfl⟩⟩
 ·by_cases b:x=2*i
  ·refine .inr ?_
   rw[c,if_pos b];exact⟨by rw[b];show(1:Int)=_;omega,l,.inl rfl,λ_=>rfl,λn=>absurd n (show ¬(1:Int)=2 by decide)⟩
  ·by_cases p:x∈aK K 0 i
   ·exact .inl (by rw[c,if_neg b,if_pos p])
   ·refine Ac (h.okA x) (by rw[c,if_neg b,if_neg p]) (λk u a=>?_) (Ad _)
    rw[c];by_cases o:2*k=2*i
    ·rw[if_pos o];rfl
    ·rw[if_neg o,if_neg (λs=>by have:=gU s;omega)]
     exact a
 ·have a:∀ z,(ats (bj t i pub) z).kind=1->(ats t z).kind=1/\(ats (bj t i pub) z).name=(ats t z).name:=λz d=>by
   rw[c] at d ⊢;by_cases b:z=2*i
   ·rw[if_pos b,b]
    exact⟨a,rfl⟩
   ·rw[if_neg b] at d ⊢
    split at d
    ·cases d
    ·next e=>rw[if_neg e];exact⟨d,rfl⟩
  rw[(a x g).2,(a y f).2];exact h.one x y j (by rw[<-m];exact q) (a x g).1 (a y f).1
theorem Ai {t:List Nod}(h:aD t K):∀ (j q:Nat),j<=K->q<2 ^ (K - j)->∀ l∈bt t j q,∃ y:Nat,l=(y:Int)/\y<t.length/\(ats t y).kind≠0:=by
 have b:∀ (j q:Nat),j<=K->q<2 ^ (K - j)->(ats t (nd j q)).kind≠0->∀ l∈(((nd j q:Nat):Int) :: (ats t (nd j q)).un.map (2*·)),∃ y:Nat,l=(y:Int)/\y<t.length/\(ats t y).kind≠0:=by
  intro j q f d c l a
  obtain⟨_,m,i⟩:=dW h.le f d
  rcases Ki.1 a with rfl|a
  ·exact⟨_,rfl,aD.lt_of c,c⟩
  ·obtain⟨u,n,rfl⟩:=JO.1 a
   obtain⟨k,rfl,_,g⟩:=h.unAt m i u n
   exact⟨2*k,by omega,aD.lt_of (by rw[g];decide),by rw[g];decide⟩
 intro j
 induction j with
 | zero=>
  intro q f d l a
  unfold bt at a
  by_cases c:(ats t (nd 0 q)).kind=0
  ·rw[if_pos c] at a;simp at a
  ·rw[if_neg c] at a
   exact b 0 q f d c l a
 | succ j ih=>
  intro q f d l a
  unfold bt at a
  by_cases c:(ats t (nd (j+1) q)).kind=0
  ·rw[if_pos c] at a
   have e:K - j=(K - (j+1))+1:=by omega
   have o:=bi (K - (j+1))
   rcases JV.1 a with a|a
   ·exact ih (2*q) (by omega) (by rw[e];omega) l a
   ·exact ih (2*q+1) (by omega) (by rw[e];omega) l a
  ·rw[if_neg c] at a
   exact b (j+1) q f d c l a
theorem oJ {t:List Nod}(h:aD t K)(b:j<=K)(a:q<2 ^ (K - j)):gR t ((nd j q:Nat):Int)=bt t j q:=by
 have d:=fP b a;have c:=h.le;unfold gR;rw[if_pos ⟨by omega,by rw[h.len];omega⟩,Jm,gg j q (by omega),jR j q (by omega)]
def mG (x:UInt32):Value:=.int .u32 (aa x)
def aZ (l:List UInt32):Array Value:=(l.map mG).toArray
def Arr (T:TypeId)(w:World)(g:Nat)(l:List UInt32):Prop:=w.heap[g]?=some (.cells (aZ l) T (0,0))
theorem mH (l:List UInt32):(aZ l).size=l.length:=by simp[aZ]
theorem qM (l:List UInt32)(i:Nat)(h:i<l.length):(aZ l)[i]?=some (.int .u32 (aa (l.getD i 0))):=by
 simp[aZ,mG,h]
theorem Arr.lt (h:Arr T w g l):g<w.heap.size:=(IX.1 h).1
theorem Arr.cell (h:Arr T w g l)(i:Nat)(a:i<l.length):w.cell? ⟨g,i,none⟩=some (.int .u32 (aa (l.getD i 0))):=by
 rw[cell_of_row w g i _ T _ h,qM l i a]
theorem Arr.frozen (h:Arr T w g l)(i:Nat)(b:i<l.length):w.frozen? ⟨g,i,none⟩=false:=by
 have a:=h;unfold Arr at a;simp[World.frozen?,a]
theorem Arr.kp (h:Arr T w g l)(k:Kp w w'):Arr T w' g l:=
 (k.block g h.lt).trans h
theorem Arr.below {B:Nat}(h:Arr T w g l)(k:Below B w w')(a:g<B):Arr T w' g l:=
 (k.block g a).trans h
theorem Arr.drewN (h:Arr T w g l)(n:Nat):Arr T (w.drewN n) g l:=h.kp ((Kp.refl w).drewN n)
theorem Arr.drew (h:Arr T w g l):Arr T w.drew g l:=h
theorem Arr.alloc (h:Arr T w g l)(o:Obj):Arr T (w.alloc o) g l:=(Below.heap_alloc w o g h.lt).trans h
theorem Arr.new (T:TypeId)(w:World)(cs:Array Value)(l:List UInt32)(h:cs=aZ l):Arr T (w.alloc (.cells cs T)) w.heap.size l:=by
 subst h;exact heap_alloc_new w _
theorem An (l:List UInt32)(i:Nat)(x:UInt32):(aZ l).setIfInBounds i (mG x)=aZ (l.set i x):=by
 apply Array.ext';simp[aZ,List.map_set]
theorem Arr.set (h:Arr T w g l)(i:Nat)(x:UInt32)(v:Value)(d:v=.int .u32 (aa x)):Arr T (w.setCell ⟨g,i,none⟩ v) g (l.set i x):=by
 subst d;have c:=h;unfold Arr at c ⊢;obtain⟨a,b⟩:=IX.1 c;have e:=An l i x;unfold mG at e;simp[World.setCell,a,Lu,b,e]
theorem Arr.setTo {m:List UInt32}(h:Arr T w g l)(i:Nat)(x:UInt32)(a:l.set i x=m):Arr T (w.setCell ⟨g,i,none⟩ (.int .u32 (aa x))) g m:=a▸h.set i x _ rfl
theorem Arr.other (h:Arr T w g l)(a:Addr)(v:Value)(b:g≠a.block):Arr T (w.setCell a v) g l:=
 (Below.heap_setCell w a v g b).trans h
section
variable {P : Program}
theorem ja (i:P.underlying c=some (.array n e))(m:(P.info? c).map (·.size)=some n){rest:List Oper}(d:o.guard=none)(x:Operand)(j:o.op=.load c x)
  (g:Nat) (l:List UInt32) (f:a.eval x=.pointer (some ⟨g,0,none⟩)) (h:Arr T w g l) (k:l.length=n)
  (p:wpList P b Q rest (a.put o.dst (.agg (aZ l))) w):wpList P b Q (o :: rest) a w:=
 wpList_load_row d c x j g f T (aZ l) (0,0) _ h i rfl (by rw[m,mH,k]) p
theorem Ao (l:List UInt32):(aZ l).all (·.oneCell')=true:=by
 rw[Lo];intro v a;simp only[aZ,List.mem_toArray,JO] at a;obtain⟨x,_,rfl⟩:=a;rfl
theorem Arr.setRow (h:Arr T w g l)(m:List UInt32):Arr T (w.setRow g (aZ m)) g m:=by
 unfold Arr at h ⊢;obtain⟨a,b⟩:=IX.1 h;simp[World.setRow,a,Lu,b]
theorem setRow_other (w:World)(g k:Nat)(cs:Array Value)(h:k≠g):(w.setRow g cs).heap[k]?=w.heap[k]?:=by
 simp only[World.setRow];rw[Array.getElem?_modify,if_neg (MX h)]
theorem Arr.setRow_other (h:Arr T w k l)(cs:Array Value)(a:k≠g):Arr T (w.setRow g cs) k l:=
 (Go.Proofs.YthmhklmkgkfcpaaGreatDoor.setRow_other w g k cs a).trans h
theorem below_setRow {B:Nat}{a:World}(h:Below B a w)(c:B<=g)(cs:Array Value):Below B a (w.setRow g cs):=
 ⟨h.os,h.tape,h.output,by simpa [World.setRow] using h.size,λk b=>(setRow_other w g k cs (by omega)).trans (h.block k b)⟩
theorem tZ (p:(P.info? c).map (·.size)=some n){rest:List Oper}(d:o.guard=none)(x y:Operand)(j:o.op=.store c x y)
  (g:Nat) (l m:List UInt32) (i:a.eval x=.pointer (some ⟨g,0,none⟩)) (f:a.eval y=.agg (aZ m)) (h:Arr T w g l) (k:l.length=n) (e:m.length=n)
  (q:wpList P b Q rest (a.put o.dst undef) (w.setRow g (aZ m))):wpList P b Q (o :: rest) a w:=
 wpList_store_row d c x y j g (aZ m) i f T (aZ l) h (by rw[p,mH,e]) (by rw[mH,mH,k,e]) (Ao m) q
theorem jb {t:TypeId}{z:Value}{b:Nat}(u:P.underlying t=some (.slice e))(d:(P.info? e).map (λi=>(i.zero,i.size,i.bytes))=some (some z,1,b))(s:z.cells=#[z])(D:b<=8)
  {f:Array Oper} {rest:List Oper}     (B:o.guard=none) (l c:Operand) (m:o.op=Op.makeSlice t l c) (n:Nat) (y:a.eval l=.int .i64 n) (C:a.eval c=.int .i64 n) (v:n<=1000000)
  (E:∀ W,W=w.alloc (.cells (Array.replicate n z) e)->wpList P f Q rest (a.put o.dst (.slice (some ⟨w.heap.size,0,none⟩) n n)) W):wpList P f Q (o :: rest) a w:=by
 obtain⟨i,A,k,j,g⟩:=info_parts d;refine wpList_plain B λK q=>?_
 have p:(i.bytes:Int)*(n:Int)<=281474976710656:=by
  rw[g];have h:=La D v;have F:((b*n:Nat):Int)<=((8*1000000:Nat):Int):=by omega
  rw[Ks] at F;omega
 have r:=run_make (P:=P) w t e i z u A k .i64 .i64 n n (by omega) (Int.le_refl _) p (by omega);have x:madeCells #[z] n=Array.replicate n z:=by
  apply Array.ext';rw[toList_madeCells_one];simp
 rw[s,j,Jm,ML,x] at r;unfold Oper.wp;simp[execOp,m,y,C,r,Result.andThen];exact q _ _ (E _ rfl)
structure But (g:Nat)(w W:World):Prop where
 below:∀ {B:Nat} {a:World},Below B a w->B<=g->Below B a W
 arr:∀ {T:TypeId} {k:Nat} {l:List UInt32},Arr T w k l->k≠g->Arr T W k l
 size:W.heap.size=w.heap.size
 other:∀ k,k≠g->W.heap[k]?=w.heap[k]?
theorem But.setRow (g:Nat)(w:World)(cs:Array Value):But g w (w.setRow g cs):=⟨λh c=>below_setRow h c cs,λh a=>h.setRow_other cs a,by simp[World.setRow],λk b=>Go.Proofs.YthmhklmkgkfcpaaGreatDoor.setRow_other w g k cs b⟩
theorem iB {d:TypeId}(p:(P.info? d).map (·.size)=some n){rest:List Oper}(c:o.guard=none)(q:o.dst=none)(x y:Operand)(i:o.op=.store d x y)
  (g:Nat) (l m:List UInt32) (f:a.eval x=.pointer (some ⟨g,0,none⟩)) (e:a.eval y=.agg (aZ m)) (h:Arr T w g l) (k:l.length=n) (j:m.length=n)
  (r:∀ W,Arr T W g m->But g w W->wpList P b Q rest a W):wpList P b Q (o :: rest) a w:=
 tZ p c x y i g l m f e h k j (by rw[q];exact r _ (h.setRow m) (But.setRow g w _))
theorem ln {a:TypeId}(c:P.underlying a=some (.array n e))(j:(P.info? a).map (·.size)=some n){b:Func}{p:Tmp}(d:b.results=#[.cell p a])(tmps:Array Value)(w:World)(g:Nat)(l:List UInt32)
  (f:tmps.getD p undef=.pointer (some ⟨g,0,none⟩)) (h:Arr T w g l) (i:l.length=n):(results b tmps).run P w=.ok (.agg (aZ l)) w:=
 results_cell_row d tmps w g T (aZ l) (0,0) _ f h c rfl (by rw[j,mH,i])
end
def By (T:TypeId)(w:World)(g:Nat)(l:List UInt8):Prop:=w.heap[g]?=some (.cells (Lib.byteCells l).toArray T (0,0))
theorem By.lt {l:List UInt8}(h:By T w g l):g<w.heap.size:=(IX.1 h).1
theorem By.cell {l:List UInt8}(h:By T w g l)(i:Nat)(a:i<l.length):w.cell? ⟨g,i,none⟩=some (.int .u8 ((l.getD i 0).toNat:Int)):=by
 rw[cell_of_row w g i _ T _ h];simp[Lib.byteCells,a]
theorem By.frozen {l:List UInt8}(h:By T w g l)(i:Nat):w.frozen? ⟨g,i,none⟩=false:=by
 have a:=h;unfold By at a;simp[World.frozen?,a]
theorem By.kp {l:List UInt8}(h:By T w g l)(k:Kp w w'):By T w' g l:=(k.block g h.lt).trans h
theorem By.set {l m:List UInt8}(h:By T w g l)(i:Nat)(x:UInt8)(d:l.set i x=m):By T (w.setCell ⟨g,i,none⟩ (.int .u8 (x.toNat:Int))) g m:=by
 subst d;have c:=h;unfold By at c ⊢;obtain⟨a,b⟩:=IX.1 c;simp[World.setCell,a,Lu,b,Lib.byteCells,List.map_set]
theorem By.rd {c:Nat}{l:List UInt8}(h:By T w g l)(m:n<=l.length)(k:n<=c)(f:c<=maxLen):Rd w (.slice (some ⟨g,0,none⟩) n c) (l.take n):=by
 have e:(l.take n).length=n:=by simp;omega
 refine⟨some ⟨g,0,none⟩,c,by rw[e],by rw[e];exact k,f,λh=>(by cases h),λx d i j=>?_⟩;cases d;rw[e] at j;have:=h.cell i (by omega);rw[LM];rw[IU,IV (by omega)] at this;rw[<-LA (a:=l[i]) (b:=0),<-this];congr 1
 unfold Addr.add;split <;> simp_all
theorem By.rdAll {c:Nat}{l:List UInt8}(h:By T w g l)(d:n=l.length)(b:n<=c)(a:c<=maxLen):Rd w (.slice (some ⟨g,0,none⟩) n c) l:=by
 have:=h.rd (n:=n) (by omega) b a;rwa [JG (by omega)] at this
theorem By.fresh (T:TypeId)(w:World)(n:Nat):By T (w.alloc (.cells (Array.replicate n (.int .u8 0)) T)) w.heap.size (List.replicate n 0):=by
 have:=heap_alloc_new w (.cells (Array.replicate n (.int .u8 0)) T);unfold By;rw[this];simp[Lib.byteCells]
def aG (A B:List UInt8)(i:Nat):List UInt8:=B.take i++A.drop i
theorem fR (A B:List UInt8)(i:Nat)(h:A.length=B.length)(a:i<=A.length):(aG A B i).length=A.length:=by simp[aG];omega
theorem gX (A B:List UInt8)(i:Nat)(h:A.length=B.length)(d:i<A.length)(x:UInt8)(a:B[i]?=some x):(aG A B i).set i x=aG A B (i+1):=by
 unfold aG;have b:i<B.length:=by omega
 have c:(B.take i).length=i:=by simp;omega
 rw[IV b] at a;rw[LY _ _ (by omega),c,Lx,Kv d,Je,Jp b,KN];cases a;rfl
theorem jA (A B:List UInt8)(h:A.length=B.length):aG A B B.length=B:=by
 unfold aG;rw[JG (Ja _),LU (by omega),Kj]
theorem qN:∀ (w N k:Nat),k<w->(be w N)[k]?=some (UInt8.ofNat (N / 256 ^ (w - 1 - k)))
 | 0,_,k,h=>by omega
 | w+1,N,0,_=>by rw[iU];simp
 | w+1,N,k+1,h=>by
  rw[iU,Jk,qN w N k (by omega)]
  congr 4
  omega
theorem lq (n:Nat):fill n<64:=by unfold fill;omega
theorem lx (n:Nat):(pad n).length=9+fill n:=by simp[pad,bl];omega
theorem ua (n:Nat):(n+(pad n).length) % 64=0:=by rw[lx];unfold fill;omega
theorem Ap (n k:Nat)(h:k<8):(pad n)[1+fill n+k]?=some (UInt8.ofNat (8*n / 256 ^ (7 - k))):=by
 have e:(128 :: List.replicate (fill n) 0:List UInt8).length=1+fill n:=by simp;omega
 have a:pad n=(128 :: List.replicate (fill n) 0)++be 8 (8*n):=rfl;rw[a,JB (by omega),e,show 1+fill n+k - (1+fill n)=k by omega,qN 8 _ k h]
theorem Aq (n:Nat):(List.replicate (9+fill n) (0:UInt8)).set 0 128=aG (List.replicate (9+fill n) 0) (pad n) (1+fill n):=by
 have e:(128 :: List.replicate (fill n) 0:List UInt8).length=1+fill n:=by simp;omega
 have a:pad n=(128 :: List.replicate (fill n) 0)++be 8 (8*n):=rfl;unfold aG;rw[a,Le (by omega),JG (by omega),List.drop_replicate,show 9+fill n=(fill n+8)+1 by omega,List.replicate_succ,Je,show fill n+8+1 - (1+fill n)=8 by omega,Kc,List.replicate_append_replicate]
def jB (n:Int):List UInt8:=if 0<=n/\n<=1125899906842624 then pad n.toNat else []
theorem qS {P:Program}(w:World)(t e:TypeId)(n:Nat)(b:TypeInfo)(d:TypeDesc)(h:P.underlying t=some (.array n e))(k:P.info? e=some b)(f:b.size=1)(m:P.underlying e=some d)
  (o:(match d with|.struct _|.array _ _=>true|_=>false)=false) (cs:Array Value) (p:cs.size=n) (i:Nat) (j:i<n) (v:Value) (c:cs[i]?=some v):
  (Instr.index t (.agg cs) (.int .i64 i)).run P w=.ok v w:=by
 have g:(0<=(i:Int)/\(i:Int)<(n:Int)):=by omega
 have a:(isAgg e).run P w=.ok false w:=by
  unfold isAgg;rw[Sem.run_bind,run_underlying m w];cases d <;> simp_all
 simp[Instr.index,run_underlying h,asIntOf,g,go_sem,part,sizeOf,typeInfo,k,f,a,c,Sem.run_bind];intro l;omega
def bI (l:List UInt8)(x:UInt8):List UInt8:=l.map λb=>b ^^^ x
def iF (l:List UInt8):List UInt8:=l++List.replicate (64 - l.length) 0
def bR (k:List UInt8):List UInt8:=iF (if 64<k.length then bF k else k)
def dZ (k b:List UInt8):List UInt8:=bF (bI (bR k) 92++bF (bI (bR k) 54++b))
theorem jX (l:List UInt8)(x:UInt8):(bI l x).length=l.length:=by simp[bI]
theorem Bb (l:List UInt8)(x:UInt8)(i:Nat)(h:i<l.length):(bI l x)[i]?=some (l.getD i 0 ^^^ x):=by
 simp[bI,IU,IV h]
theorem Bc (l m:List UInt8)(x:UInt8):bI (l++m) x=bI l x++bI m x:=by simp[bI]
theorem uw (l:List UInt8)(h:l.length<=64):(iF l).length=64:=by simp[iF];omega
theorem qV (x y:UInt8):bits .xor .u8 (x.toNat:Int) (y.toNat:Int)=((x ^^^ y).toNat:Int):=by
 have e:∀ z:UInt8,BitVec.ofInt IntKind.u8.bits (z.toNat:Int)=z.toBitVec:=λz=>by
  rw[Kh];apply MC;simp[IntKind.bits]
 simp only[bits,e];change IntKind.u8.wrap (((x ^^^ y).toNat:Nat):Int)=_;rw[Kt];have:=(x ^^^ y).toNat_lt;omega
theorem Bd (x y:UInt8):bits .or .u8 (x.toNat:Int) (y.toNat:Int)=((x ||| y).toNat:Int):=by
 have e:∀ z:UInt8,BitVec.ofInt IntKind.u8.bits (z.toNat:Int)=z.toBitVec:=λz=>by
  rw[Kh];apply MC;simp[IntKind.bits]
 simp only[bits,e];change IntKind.u8.wrap (((x ||| y).toNat:Nat):Int)=_;rw[Kt];have:=(x ||| y).toNat_lt;omega
theorem Be (a b:UInt8):a ||| b=0↔a=0/\b=0:=by
 constructor
 ·intro h
  have c:a.toBitVec ||| b.toBitVec=0#8:=by rw[<-UInt8.toBitVec_or,h];rfl
  constructor
  ·apply UInt8.toBitVec_inj.1
   exact(BitVec.or_eq_zero_iff.1 c).1
  ·apply UInt8.toBitVec_inj.1
   exact(BitVec.or_eq_zero_iff.1 c).2
 ·rintro⟨rfl,rfl⟩;rfl
theorem Bf (a b:UInt8):a ^^^ b=0↔a=b:=by
 constructor
 ·intro h
  have:a ^^^ b ^^^ b=0 ^^^ b:=by rw[h]
  rw[UInt8.xor_assoc,UInt8.xor_self,UInt8.xor_zero,UInt8.zero_xor] at this;exact this
 ·rintro rfl;exact UInt8.xor_self
def orT (l m:List UInt8):Nat->UInt8
 | 0=>0
 | k+1=>orT l m k ||| (l.getD k 0 ^^^ m.getD k 0)
theorem ux (l m:List UInt8):∀ k,k<=l.length->k<=m.length->(orT l m k=0↔l.take k=m.take k)
 | 0,_,_=>by simp[orT]
 | k+1,h,h'=>by
  rw[orT,Be,Bf,ux l m k (by omega) (by omega),ma l k (by omega),ma m k (by omega)]
  constructor
  ·rintro⟨a,b⟩;rw[a,b]
  ·intro e
   have:=List.append_inj e (by simp;omega)
   exact⟨this.1,by simpa using this.2⟩
theorem Bg (l m:List UInt8)(h:l.length=m.length):decide (orT l m l.length=0)=decide (l=m):=by
 have:=ux l m l.length (Ja _) (by omega);rw[JM,h,JM,<-h] at this;exact decide_eq_decide.2 this
