import Derived.Test.YthmhklmkgkfcpaaGreatDoorX3
import Derived.Lib.TrailingZeros
import Derived.Laws.Bits64b
import Derived.Lib.AppendZerosOnto
import Derived.OpenShut
import Derived.SizedLaws
set_option linter.all false
set_option maxHeartbeats 8000000
set_option maxRecDepth 100000
namespace Go.Proofs.YthmhklmkgkfcpaaGreatDoor
open Go.Proofs.Tryz Go.RowKit
variable {B K c i j n q:Nat}{a:Option Addr}{e:TypeId}{ls:List (List UInt8)}{p:Nat->Bool}{r:Reach}{us:List Value}{v:Value}{w w':World}{x:Int}
def nd (j q:Nat):Nat:=2 ^ (j+1)*q+2 ^ j - 1
theorem bE (k:Nat):1<=2 ^ k:=Nat.one_le_two_pow
theorem bi (k:Nat):2 ^ (k+1)=2*2 ^ k:=by rw[MH];omega
theorem eF (q:Nat):nd 0 q=2*q:=by unfold nd;simp
theorem mu (j q:Nat):nd (j+1) q=2*nd j q+1:=by
 unfold nd;rw[bi (j+1),bi j,My];have:=bE j;omega
theorem tC (j q:Nat):nd (j+1) q / 2=nd j q:=by rw[mu];omega
theorem jz (j q:Nat):nd (j+1) q % 2=1:=by rw[mu];omega
theorem kS (q:Nat):nd 0 q % 2=0:=by rw[eF];omega
theorem kU (j q:Nat):nd (j+1) q - 2 ^ j=nd j (2*q)/\2 ^ j<=nd (j+1) q:=by
 unfold nd;rw[bi (j+1),bi j];have:=bE j;have e:2*(2*2 ^ j)*q=2*2 ^ j*(2*q):=by rw[Me 2 (2*2 ^ j),My]
 rw[e];omega
theorem kV (j q:Nat):nd (j+1) q+2 ^ j=nd j (2*q+1):=by
 unfold nd;rw[bi (j+1),bi j,Nat.mul_add];have:=bE j;have e:2*(2*2 ^ j)*q=2*2 ^ j*(2*q):=by rw[Me 2 (2*2 ^ j),My]
 rw[e];omega
theorem jd {r:Nat}(h:nd j q=nd i r):j=i/\q=r:=by
 induction j generalizing i with
 | zero=>
  cases i with
  | zero=>rw[eF,eF] at h;exact⟨rfl,by omega⟩
  | succ i=>have b:=kS q;have a:=jz i r;omega
 | succ j ih=>
  cases i with
  | zero=>have b:=kS r;have a:=jz j q;omega
  | succ i=>
   rw[mu,mu] at h
   obtain⟨b,a⟩:=ih (i:=i) (by omega)
   exact⟨by omega,a⟩
theorem iE:∀ (K x:Nat),x<2 ^ (K+1) - 1->∃ j q,x=nd j q/\j<=K/\q<2 ^ (K - j)
 | 0,x,h=>⟨0,0,by simp at h;rw[eF];omega,JO _,by simp⟩
 | K+1,x,h=>by
  by_cases hx:x % 2=0
  ·refine⟨0,x / 2,by rw[eF];omega,by omega,?_⟩
   rw[bi] at h
   rw[NH]
   omega
  ·obtain⟨j,q,e,hj,hq⟩:=iE K (x / 2) (by rw[bi] at h;omega)
   refine⟨j+1,q,by rw[mu,<-e];omega,by omega,?_⟩
   rw[Nat.add_sub_add_right]
   exact hq
theorem fU (c:j<=K)(a:q<2 ^ (K - j)):nd j q<2 ^ (K+1) - 1:=by
 have e:2 ^ (K+1)=2 ^ (j+1)*2 ^ (K - j):=by rw[<-Nat.pow_add];congr 1;omega
 have b:2 ^ (j+1)*(q+1)<=2 ^ (K+1):=by rw[e];exact Nat.mul_le_mul_left _ a
 rw[Nat.mul_add,NB] at b;unfold nd;have:=bE j;have:=bi j;omega
theorem zK (h:nd j q<2 ^ (K+1) - 1):j<=K/\q<2 ^ (K - j):=by
 obtain⟨i,r,e,b,a⟩:=iE K _ h;obtain⟨rfl,rfl⟩:=jd e;exact⟨b,a⟩
theorem qI (K:Nat):nd K 0=2 ^ K - 1:=by unfold nd;simp
theorem tD (a:q<2 ^ (K - j))(b:j<=K):nd j q=2 ^ K - 1↔j=K:=by
 constructor
 ·intro h
  rw[<-qI] at h;exact(jd h).1
 ·rintro rfl
  simp at a;subst a;exact qI j
def mv:Nat->Nat->Nat
 | 0,_=>0
 | f+1,x=>if x % 2=1 then mv f (x / 2)+1 else 0
def lev (x:Nat):Nat:=mv 12 x
theorem tF:∀ (f j q:Nat),j<f->mv f (nd j q)=j
 | 0,j,q,h=>by omega
 | f+1,0,q,h=>by unfold mv;rw[if_neg (by have:=kS q;omega)]
 | f+1,j+1,q,h=>by unfold mv;rw[if_pos (jz j q),tC,tF f j q (by omega)]
theorem fV (j q:Nat)(h:j<=11):lev (nd j q)=j:=tF 12 j q (by omega)
theorem zL (j q:Nat):(nd j q - (2 ^ j - 1)) / 2=2 ^ j*q/\(nd j q+(2 ^ j - 1)) / 2=2 ^ j*q+2 ^ j - 1:=by
 unfold nd;rw[bi j,My];have:=bE j;constructor <;> omega
theorem qJ (j q b:Nat):2 ^ j*q<=b/\b<=2 ^ j*q+2 ^ j - 1↔b / 2 ^ j=q:=by
 have d:=bE j;constructor
 ·rintro⟨a,c⟩
  refine Nat.le_antisymm ?_ ?_
  ·exact Kr.1 ((Nat.div_lt_iff_lt_mul (by omega)).2 (by rw[Nat.succ_mul,Me];omega))
  ·exact(Nat.le_div_iff_mul_le (by omega)).2 (by rw[Me];exact a)
 ·rintro rfl
  have a:=Nat.div_add_mod b (2 ^ j);have c:=Nat.mod_lt b (show 0<2 ^ j by omega);omega
def sq (q:Nat):Nat:=if q % 2=0 then q+1 else q - 1
def aL (K j q:Nat):List Nat:=(List.range (K - j)).map λi=>nd (j+1+i) (q / 2 ^ (i+1))
def cZ (K j q:Nat):List Nat:=(List.range (K - j)).map λi=>nd (j+i) (sq (q / 2 ^ i))
theorem mw (K j q:Nat):(aL K j q).length=K - j:=by simp[aL]
theorem oH (K j q:Nat):(cZ K j q).length=K - j:=by simp[cZ]
theorem zM (K j q i:Nat)(h:i<K - j):(aL K j q)[i]?=some (nd (j+1+i) (q / 2 ^ (i+1))):=by
 unfold aL;rw[KX,Mr h];rfl
theorem zN (K j q i:Nat)(h:i<K - j):(cZ K j q)[i]?=some (nd (j+i) (sq (q / 2 ^ i))):=by
 unfold cZ;rw[KX,Mr h];rfl
theorem tG (K j q i:Nat)(h:i<K - j):(aL K j q).take (i+1)=(aL K j q).take i++[nd (j+1+i) (q / 2 ^ (i+1))]:=by
 have a:i<(aL K j q).length:=by rw[mw];exact h
 have e:=zM K j q i h;rw[JG a] at e;rw[JZ a,Ms e]
theorem tH (K j q i:Nat)(h:i<K - j):(cZ K j q).take (i+1)=(cZ K j q).take i++[nd (j+i) (sq (q / 2 ^ i))]:=by
 have a:i<(cZ K j q).length:=by rw[oH];exact h
 have e:=zN K j q i h;rw[JG a] at e;rw[JZ a,Ms e]
theorem ke (a:q<2 ^ (K - j))(b:i<=K - j):q / 2 ^ i<2 ^ (K - (j+i)):=by
 rw[Nat.div_lt_iff_lt_mul (by have:=bE i;omega),<-Nat.pow_add];have e:K - (j+i)+i=K - j:=by omega
 rw[e];exact a
theorem oI (q i:Nat):q / 2 ^ (i+1)=q / 2 ^ i / 2:=by rw[MH,Lw]
def jA:Nat->Nat->Nat->Nat->Nat
 | 0,j,_,_=>j
 | f+1,j,a,b=>if a / 2 ^ j=b / 2 ^ j then j else jA f (j+1) a b
def bG (a b:Nat):Nat:=jA 10 0 a b
theorem tI:∀ (f j a b:Nat),a / 2 ^ (j+f)=b / 2 ^ (j+f)->(∀ i,i<j->a / 2 ^ i≠b / 2 ^ i) ->
  j<=jA f j a b/\jA f j a b<=j+f/\a / 2 ^ (jA f j a b)=b / 2 ^ (jA f j a b)/\∀ i,i<jA f j a b->a / 2 ^ i≠b / 2 ^ i
 | 0,j,a,b,h,hi=>⟨JO _,JO _,h,hi⟩
 | f+1,j,a,b,h,hi=>by
  unfold jA
  by_cases e:a / 2 ^ j=b / 2 ^ j
  ·rw[if_pos e]
   exact⟨JO _,by omega,e,hi⟩
  ·rw[if_neg e]
   have h2:=tI f (j+1) a b (by rw[show j+1+f=j+(f+1) by omega];exact h) (λi hij=>by
    rcases Kh (Kr.1 hij) with h3|h3
    ·exact hi i h3
    ·rw[h3];exact e)
   exact⟨by omega,by omega,h2.2.2.1,h2.2.2.2⟩
theorem oJ {a b:Nat}(f:K<=10)(e:a<2 ^ K)(d:b<2 ^ K):bG a b<=K/\a / 2 ^ (bG a b)=b / 2 ^ (bG a b)/\∀ i,i<bG a b->a / 2 ^ i≠b / 2 ^ i:=by
 have j:(2:Nat) ^ K<=2 ^ 10:=Lm (by omega) f;obtain⟨_,_,g,c⟩:=tI 10 0 a b (by rw[Lf,Mu (by omega),Mu (by omega)]) (λi h=>by omega);refine⟨?_,g,c⟩;refine Nx λh=>c K h ?_
 rw[Mu e,Mu d]
def cH (n:Int):Bool:=(List.range 11).any λk=>decide (n=((2 ^ k:Nat):Int))
theorem kX (K:Nat)(h:K<=10):cH ((2 ^ K:Nat):Int)=true:=by
 unfold cH;rw[Mv];exact⟨K,by simp;omega,by simp⟩
theorem mz (n:Int):cH n=true↔∃ K,K<=10/\n=((2 ^ K:Nat):Int):=by
 constructor
 ·intro h
  unfold cH at h;rw[Mv] at h;obtain⟨K,b,a⟩:=h;exact⟨K,by simp at b;omega,Ly a⟩
 ·rintro⟨K,h,rfl⟩
  exact kX K h
theorem mA {n:Int}(h:cH n=true):1<=n/\n<=1024:=by
 obtain⟨K,a,rfl⟩:=(mz n).1 h;have c:(2:Nat) ^ K<=2 ^ 10:=Lm (by omega) a;have b:=bE K;generalize 2 ^ K=M at *;omega
def inB (x n:Int):Bool:=cH n && (decide (0<=x) && decide (x<2*n - 1))
theorem iF (x n:Int):inB x n=true↔∃ K j q,K<=10/\n=((2 ^ K:Nat):Int)/\x=((nd j q:Nat):Int)/\j<=K/\q<2 ^ (K - j):=by
 unfold inB;simp only[LV,decide_eq_true_eq];constructor
 ·rintro⟨f,d,g⟩
  obtain⟨K,c,rfl⟩:=(mz n).1 f;obtain⟨y,rfl⟩:=Kc d;obtain⟨j,q,e,b,a⟩:=iE K y (by rw[bi];omega);exact⟨K,j,q,c,rfl,by rw[e],b,a⟩
 ·rintro⟨K,j,q,c,rfl,rfl,b,a⟩
  have h:=fU b a;rw[bi] at h;exact⟨kX K c,by omega,by omega⟩
theorem eN (x:Int):(0<=x/\x<=2046)↔∃ j q,x=((nd j q:Nat):Int)/\j<=10/\q<2 ^ (10 - j):=by
 constructor
 ·rintro⟨c,d⟩
  obtain⟨y,rfl⟩:=Kc c;obtain⟨j,q,e,b,a⟩:=iE 10 y (by omega);exact⟨j,q,by rw[e],b,a⟩
 ·rintro⟨j,q,rfl,b,a⟩
  have h:=fU b a;omega
theorem bP (h:K<=10):2 ^ K<=1024:=by
 have:(2:Nat) ^ K<=2 ^ 10:=Lm (by omega) h;omega
theorem ec (c:K<=10)(b:j<=K)(a:q<2 ^ (K - j)):nd j q<=2046/\j<=10/\q<2 ^ (10 - j):=by
 have h:=fU b a;have d:=bP c;rw[bi] at h;refine⟨by omega,by omega,JV a (Lm (by omega) (by omega))⟩
def qOf (x:Nat):Nat:=x / 2 ^ (lev x+1)
theorem kf (j q:Nat)(h:j<=11):qOf (nd j q)=q:=by
 unfold qOf;rw[fV j q h];unfold nd;have b:=bE j;have a:=bi j;have e:2 ^ (j+1)*q+2 ^ j - 1=(2 ^ j - 1)+2 ^ (j+1)*q:=by omega
 rw[e,Nat.add_mul_div_left _ _ (by omega),Mu (by omega),Lf]
def lgN (n:Int):Nat:=n.toNat.log2
theorem tJ:∀ K,K<=10->lgN ((2 ^ K:Nat):Int)=K:=by
 intro K h;unfold lgN;rw[JX];have:∀ K:Fin 11,(2 ^ K.1).log2=K.1:=by decide
 exact this ⟨K,by omega⟩
def gD (n:Int):Int:=if cH n then 0 else 1
def gF (n:Int):Int:=if cH n then 2*n - 1 else 0
def okN (x:Int):Prop:=0<=x/\x<=2046
instance (x:Int):Decidable (okN x):=by unfold okN;infer_instance
def eO (x:Int):Int:=if okN x then (lev x.toNat:Int) else 0
def chE (x:Int):Int:=if eO x=0 then 1 else 0
def fc (x:Int):Int:=if eO x=0 then 0 else x - ((2 ^ ((eO x).toNat - 1):Nat):Int)
def fl (x:Int):Int:=if eO x=0 then 0 else x+((2 ^ ((eO x).toNat - 1):Nat):Int)
theorem fw (b:j<=10)(a:q<2 ^ (10 - j)):eO ((nd j q:Nat):Int)=(j:Int):=by
 unfold eO;rw[if_pos (show okN ((nd j q:Nat):Int) from(eN _).2 ⟨j,q,rfl,b,a⟩),JX,fV j q (by omega)]
theorem mB (h:¬okN x):eO x=0:=if_neg h
theorem zO (a:q<2 ^ 10):chE ((nd 0 q:Nat):Int)=1/\fc ((nd 0 q:Nat):Int)=0/\fl ((nd 0 q:Nat):Int)=0:=by
 have e:eO ((nd 0 q:Nat):Int)=0:=fw (by omega) a;unfold chE fc fl;rw[e];exact⟨rfl,rfl,rfl⟩
theorem fK (c:j+1<=10)(b:q<2 ^ (10 - (j+1))):chE ((nd (j+1) q:Nat):Int)=0/\fc ((nd (j+1) q:Nat):Int)=((nd j (2*q):Nat):Int)/\fl ((nd (j+1) q:Nat):Int)=((nd j (2*q+1):Nat):Int):=by
 have e:=fw c b;have a:¬(((j+1:Nat):Int)=0):=by omega
 unfold chE fc fl;rw[e,if_neg a,if_neg a,if_neg a,JX,LR];obtain⟨g,f⟩:=kU j q;have d:=kV j q;exact⟨rfl,by omega,by omega⟩
def tK (x:Nat):Nat:=nd (lev x+1) (qOf x / 2)
def tL (x:Nat):Nat:=nd (lev x) (sq (qOf x))
def paE (x n:Int):Int:=if inB x n then (if x=n - 1 then 11 else 0) else 1
def paV (x n:Int):Int:=if paE x n=0 then (tK x.toNat:Int) else 0
def siV (x n:Int):Int:=if paE x n=0 then (tL x.toNat:Int) else 0
def arE (x n:Int):Int:=if inB x n then 0 else 1
def mC (x n:Int):List Nat:=if inB x n then aL (lgN n) (lev x.toNat) (qOf x.toNat) else []
def qK (x n:Int):List Nat:=if inB x n then cZ (lgN n) (lev x.toNat) (qOf x.toNat) else []
theorem tM {n:Int}(h:¬inB x n=true):paE x n=1/\paV x n=0/\siV x n=0:=by
 have e:paE x n=1:=if_neg h;unfold paV siV;rw[e];exact⟨rfl,rfl,rfl⟩
theorem tN (a:K<=10):paE ((nd K 0:Nat):Int) ((2 ^ K:Nat):Int)=11/\paV ((nd K 0:Nat):Int) ((2 ^ K:Nat):Int)=0/\siV ((nd K 0:Nat):Int) ((2 ^ K:Nat):Int)=0:=by
 have c:=qI K;have b:=bE K;have e:paE ((nd K 0:Nat):Int) ((2 ^ K:Nat):Int)=11:=by
  unfold paE;rw[if_pos ((iF _ _).2 ⟨K,K,0,a,rfl,rfl,JO _,by simp⟩),if_pos (by omega)]
 unfold paV siV;rw[e];exact⟨rfl,rfl,rfl⟩
theorem oK (b:K<=10)(d:j<K)(a:q<2 ^ (K - j)):
  paE ((nd j q:Nat):Int) ((2 ^ K:Nat):Int)=0/\paV ((nd j q:Nat):Int) ((2 ^ K:Nat):Int)=((nd (j+1) (q / 2):Nat):Int)/\siV ((nd j q:Nat):Int) ((2 ^ K:Nat):Int)=((nd j (sq q):Nat):Int):=by
 have f:=bE K;have c:=tD a (by omega);have e:paE ((nd j q:Nat):Int) ((2 ^ K:Nat):Int)=0:=by
  unfold paE;rw[if_pos ((iF _ _).2 ⟨K,j,q,b,rfl,rfl,by omega,a⟩),if_neg];intro h;have:=c.1 (by omega);omega
 unfold paV siV tK tL;rw[e,if_pos rfl,if_pos rfl,JX,fV j q (by omega),kf j q (by omega)];exact⟨rfl,rfl,rfl⟩
theorem zP {n:Int}(h:¬inB x n=true):arE x n=1/\mC x n=[]/\qK x n=[]:=⟨if_neg h,if_neg h,if_neg h⟩
theorem tO (a:K<=10)(c:j<=K)(b:q<2 ^ (K - j)):
  arE ((nd j q:Nat):Int) ((2 ^ K:Nat):Int)=0/\mC ((nd j q:Nat):Int) ((2 ^ K:Nat):Int)=aL K j q/\qK ((nd j q:Nat):Int) ((2 ^ K:Nat):Int)=cZ K j q:=by
 have h:=(iF _ _).2 ⟨K,j,q,a,rfl,rfl,c,b⟩;unfold arE mC qK;rw[if_pos h,if_pos h,if_pos h,JX,fV j q (by omega),kf j q (by omega),tJ K a];exact⟨rfl,rfl,rfl⟩
def okC (a b n:Int):Prop:=cH n=true/\0<=a/\0<=b/\a<n/\b<n
instance (a b n:Int):Decidable (okC a b n):=by unfold okC;infer_instance
def coN (a b:Nat):Nat:=nd (bG a b) (a / 2 ^ bG a b)
def loV (x:Int):Int:=if okN x then ((2 ^ lev x.toNat*qOf x.toNat:Nat):Int) else 0
def hiV (x:Int):Int:=if okN x then ((2 ^ lev x.toNat*qOf x.toNat+2 ^ lev x.toNat - 1:Nat):Int) else -1
theorem tP (h:¬okN x):loV x=0/\hiV x = -1:=⟨if_neg h,if_neg h⟩
theorem kY (b:j<=10)(a:q<2 ^ (10 - j)):loV ((nd j q:Nat):Int)=((2 ^ j*q:Nat):Int)/\hiV ((nd j q:Nat):Int)=((2 ^ j*q+2 ^ j - 1:Nat):Int):=by
 have h:okN ((nd j q:Nat):Int):=(eN _).2 ⟨j,q,rfl,b,a⟩;unfold loV hiV;rw[if_pos h,if_pos h,JX,fV j q (by omega),kf j q (by omega)];exact⟨rfl,rfl⟩
theorem tQ (a b:Nat)(g:a<9223372036854775808)(f:b<9223372036854775808):bits .and .i64 (a:Int) (b:Int)=((a &&& b:Nat):Int):=by
 have e:a &&& b<2 ^ 63:=Nat.and_lt_two_pow _ (by omega);have d:(BitVec.ofInt 64 (a:Int)).toNat=a:=by
  rw[Ls,Ma];exact Lo (by omega)
 have c:(BitVec.ofInt 64 (b:Int)).toNat=b:=by
  rw[Ls,Ma];exact Lo (by omega)
 show IntKind.i64.wrap ((BitVec.ofInt 64 (a:Int) &&& BitVec.ofInt 64 (b:Int)).toNat:Int)=_
 rw[BitVec.toNat_and,d,c];exact JI _ (by omega)
theorem tR:∀ (k m f:Nat),k<f->Lib.ctzFrom f (2 ^ k*(2*m+1))=k
 | 0,m,f,h=>by
  obtain⟨f,rfl⟩:∃ g,f=g+1:=⟨f - 1,by omega⟩
  unfold Lib.ctzFrom
  rw[if_pos (by simp)]
 | k+1,m,f,h=>by
  obtain⟨f,rfl⟩:∃ g,f=g+1:=⟨f - 1,by omega⟩
  have e:2 ^ (k+1)*(2*m+1)=2*(2 ^ k*(2*m+1)):=by rw[MH,Me (2 ^ k) 2,My]
  unfold Lib.ctzFrom
  rw[e,if_neg (by omega),show 2*(2 ^ k*(2*m+1)) / 2=2 ^ k*(2*m+1) by omega,tR k m f (by omega)]
  omega
theorem zQ (j q:Nat):nd j q+1=2 ^ j*(2*q+1):=by
 unfold nd;have a:=bE j;have e:2 ^ j*(2*q+1)=2 ^ (j+1)*q+2 ^ j:=by rw[Nat.mul_add,NB,bi,<-My,Me (2 ^ j) 2]
 rw[e];omega
theorem zR (j q:Nat)(a:j<=10):Lib.ctz 64 (nd j q+1)=j:=by
 rw[zQ];have:2 ^ j*(2*q+1)≠0:=by have:=bE j;exact Nat.mul_ne_zero (by omega) (by omega)
 unfold Lib.ctz;rw[if_neg this];exact tR j q 64 (by omega)
theorem zS (j q:Nat):nd j q &&& 2 ^ (j+1)=if q % 2=0 then 0 else 2 ^ (j+1):=by
 have c:(nd j q).testBit (j+1)=decide (q % 2=1):=by
  have e:nd j q=(2 ^ j - 1)+2 ^ (j+1)*q:=by unfold nd;have:=bE j;omega
  rw[Nat.testBit_eq_decide_div_mod_eq,e,Nat.add_mul_div_left _ _ (by exact Nat.two_pow_pos _),Mu (by have:=bE j;rw[bi];omega),Lf]
 apply Nat.eq_of_testBit_eq;intro i;rw[Nat.testBit_and,Nat.testBit_two_pow];by_cases b:j+1=i
 ·subst b
  rw[c];by_cases a:q % 2=0
  ·rw[if_pos a];simp;omega
  ·rw[if_neg a,Nat.testBit_two_pow];simp;omega
 ·have e:decide (j+1=i)=false:=Kb b
  rw[e,Bool.and_false];split
  ·simp
  ·rw[Nat.testBit_two_pow,e]
theorem tT (j q:Nat)(h:q % 2=0):nd j q+2 ^ j=nd (j+1) (q / 2):=by
 obtain⟨r,rfl⟩:∃ r,q=2*r:=⟨q / 2,by omega⟩;have a:=kU j r;rw[show 2*r / 2=r by omega];omega
theorem tU (j q:Nat)(h:¬q % 2=0):nd j q - 2 ^ j=nd (j+1) (q / 2)/\2 ^ j<=nd j q:=by
 obtain⟨r,rfl⟩:∃ r,q=2*r+1:=⟨q / 2,by omega⟩;have a:=kV j r;rw[show(2*r+1) / 2=r by omega];omega
theorem zT (j q:Nat):nd j q+nd j (sq q)=2*nd (j+1) (q / 2):=by
 by_cases h:q % 2=0
 ·have b:=tT j q h
  have a:=kV j (q / 2);have e:sq q=2*(q / 2)+1:=by unfold sq;rw[if_pos h];omega
  rw[e];omega
 ·obtain⟨b,c⟩:=tU j q h
  have a:=kU j (q / 2);have e:sq q=2*(q / 2):=by unfold sq;rw[if_neg h];omega
  rw[e];omega
theorem zU:∀ n:Fin 1025,(decide (1<=n.1) && decide (n.1 &&& (n.1 - 1)=0))=(List.range 11).any λk=>decide (n.1=2 ^ k):=by decide +kernel
theorem zV (n:Nat)(a:1<=n)(b:n<=1024):cH (n:Int)=decide (n &&& (n - 1)=0):=by
 have h:=zU ⟨n,by omega⟩;simp only[a,decide_true,Bool.true_and] at h;rw[h];unfold cH;congr 1
 funext k
 congr 1
 exact propext ⟨λe=>by exact_mod_cast e,λe=>by exact_mod_cast e⟩
theorem zW (n:Int)(h:¬(1<=n/\n<=1024)):cH n=false:=by
 rw[LM];exact λe=>h (mA e)
section
open Go.ChangeShapes Go.Deep Go.WideShapes
def di (w:World)(v:Value)(us:List Value):Prop:=
 ∃ a c,v=.slice a us.length c/\us.length<=c/\c<=maxLen/\(a=none->c=0) /\
  ∀ x,a=some x->∀ i,(h:i<us.length)->w.cell? (x.add i)=some (us[i]'h)
theorem di.kp (h:di w v us)(k:Kp w w'):di w' v us:=by
 obtain⟨a,c,rfl,j,g,f,e⟩:=h;exact⟨a,c,rfl,j,g,f,λx b i d=>k.cell (e x b i d)⟩
theorem di.shape (h:di w v us):∃ a c,v=.slice a us.length c/\us.length<=c/\c<=maxLen:=by
 obtain⟨a,c,e,d,b,_⟩:=h;exact⟨a,c,e,d,b⟩
theorem di.nil (w:World):di w (.slice none 0 0) []:=⟨none,0,rfl,JO _,JW _,λ_=>rfl,λx a=>by cases a⟩
theorem di.at (h:di w (.slice a n c) us)(k:Nat)(p:k<n):
  ∃ b d,a=some ⟨b,d,none⟩/\b<w.heap.size/\∀ i,i<n->w.cell? ⟨b,d+i,none⟩=some (us.getD i (.bool false)):=by
 obtain⟨t,s,e,r,q,o,j⟩:=h
 simp only[JR] at e
 obtain⟨rfl,rfl,rfl⟩:=e
 cases a with
 | none=>have:=o rfl;omega
 | some x=>
  obtain⟨b,d,f⟩:=x
  have l:=j _ rfl 0 (by omega)
  have m:f=none:=by simpa [Addr.add] using MJ l
  subst m
  refine⟨b,d,rfl,Kl w _ l,λi g=>?_⟩
  have:=j _ rfl i g
  rw[JF,JG g,Mt,<-this]
  congr 1
  unfold Addr.add
  split <;> simp_all
theorem di.own (h:w.ownsRow B e 1 v us.length us):di w v us:=by
 rcases h.2 with⟨rfl,h0⟩|⟨g,cap,cur,rfl,hb,hg,hn,hm,hs,ht⟩
 ·exact⟨none,0,by rw[h0],by omega,JW _,λ_=>rfl,λx a=>by cases a⟩
 ·refine⟨_,cap,rfl,hn,hm,λh=>(by cases h),λx a i b=>?_⟩
  cases a;have e:(⟨g,0,none⟩:Addr).add i=⟨g,i,none⟩:=by unfold Addr.add;split <;> simp_all
  rw[e,cell_of_row w g i _ _ _ hg];have a:us[i]?=some us[i]:=JG b;rw[<-a,<-ht,Mk (by omega)];simp
def RL (w:World)(v:Value)(ls:List (List UInt8)):Prop:=∃ us,di w v us/\us.length=ls.length/\∀ i,i<ls.length->Rd w (us.getD i (.bool false)) (ls.getD i [])
theorem RL.kp (h:RL w v ls)(k:Kp w w'):RL w' v ls:=by
 obtain⟨us,d,c,b⟩:=h;exact⟨us,d.kp k,c,λi a=>(b i a).kp k⟩
theorem RL.shape (h:RL w v ls):∃ a c,v=.slice a ls.length c/\ls.length<=c/\c<=maxLen:=by
 obtain⟨us,d,b,e⟩:=h;rw[<-b];exact d.shape
theorem RL.at (h:RL w (.slice a n c) ls)(k:Nat)(g:k<n):
  ∃ b d,a=some ⟨b,d,none⟩/\b<w.heap.size/\∀ i,i<n->∃ u,w.cell? ⟨b,d+i,none⟩=some u/\Rd w u (ls.getD i []):=by
 obtain⟨us,f,r,p⟩:=h;obtain⟨b,d,o,m,l⟩:=f.at k g;have q:n=us.length:=by
  obtain⟨t,s,e,_⟩:=f.shape;simp only[JR] at e;exact e.2.1
 exact⟨b,d,o,m,λi j=>⟨_,l i j,p i (by omega)⟩⟩
theorem RL.cons {u:Value}{l:List UInt8}(h:w.ownsRow B e 1 v (u :: us).length (u :: us))(a:Rd w u l)(c:us.length=ls.length)
  (b:∀ i,i<ls.length->Rd w (us.getD i (.bool false)) (ls.getD i [])):RL w v (l :: ls):=by
 refine⟨u :: us,di.own h,by simp[c],λi d=>?_⟩
 cases i with
 | zero=>simpa using a
 | succ i=>simpa using b i (by simpa using d)
section
variable {H : Type} {enc : TypeId × Value -> H} {P : Program} {w : World} {base : Nat} {spare : Nat -> Bool} {held : Bool}
end
end
structure Nod where
 mk ::
 kind:Int
 name:Int
 pub:List UInt8
 un:List Int
 hash:List UInt8
theorem Nod.eq_iff (a b:Nod):a=b↔a.kind=b.kind/\a.name=b.name/\a.pub=b.pub/\a.un=b.un/\a.hash=b.hash:=by
 cases a;cases b;simp
instance:DecidableEq Nod:=λa b=>decidable_of_iff _ (Nod.eq_iff a b).symm
def aX:Nod:=⟨0,0,[],[],[]⟩
def aN (name:Int)(pub:List UInt8):Nod:=⟨1,name,pub,[],[]⟩
def ats (t:List Nod)(x:Nat):Nod:=t.getD x aX
def lvs (t:List Nod):Nat:=(t.length+1) / 2
theorem kg {t:List Nod}{x:Nat}(h:x<t.length):ats t x=t[x]:=by
 unfold ats;rw[JF,JG h];rfl
theorem jB {t:List Nod}{x:Nat}(h:t.length<=x):ats t x=aX:=by
 unfold ats;rw[JF,Mi h];rfl
theorem fm (t:List Nod)(y:Nat)(n:Nod)(x:Nat)(h:y<t.length):ats (t.set y n) x=if x=y then n else ats t x:=by
 unfold ats;rw[JF,MX,JF];by_cases e:y=x
 ·subst e
  rw[if_pos rfl,if_pos rfl,if_pos h];rfl
 ·rw[if_neg e,if_neg (λh=>e h.symm)]
theorem Am (t:List Nod)(k x:Nat):ats (t++List.replicate k aX) x=ats t x:=by
 unfold ats;rw[JF,JF];by_cases h:x<t.length
 ·rw[Kt h]
 ·rw[Kn (by omega),Mi (l:=t) (by omega),List.getElem?_replicate]
  split <;> rfl
theorem uf {t u:List Nod}(a:t.length=u.length)(h:∀ x,ats t x=ats u x):t=u:=by
 refine ML a λx c b=>?_
 have:=h x;rwa [kg c,kg b] at this
def eh (name:Int)(pub:List UInt8):Prop:=0<=name/\name<=65535/\pub.length=32
instance (name:Int) (pub:List UInt8):Decidable (eh name pub):=by unfold eh;infer_instance
def unP (t:List Nod)(a b:Int)(l:List Int):Prop:=l.Pairwise (·<·)/\∀ i∈l,a<=i/\i<=b/\(ats t (2*i.toNat)).kind=1
def okP (t:List Nod)(x:Nat):Prop:=
 ats t x=aX \/
 ((ats t x).kind=1+(x:Int) % 2/\eh (ats t x).name (ats t x).pub/\((ats t x).hash.length=0\/(ats t x).hash.length=32) /\
  ((ats t x).kind=1->(ats t x).un=[])/\((ats t x).kind=2->(ats t x).name=0/\unP t (loV x) (hiV x) (ats t x).un))
structure aD (t:List Nod)(K:Nat):Prop where
 mk ::
 le:K<=10
 len:t.length=2 ^ (K+1) - 1
 ok:∀ x,x<t.length->okP t x
 one:∀ x y,x<y->y<t.length->(ats t x).kind=1->(ats t y).kind=1->(ats t x).name≠(ats t y).name
 used:∃ x,x<t.length/\(ats t x).kind=1
def fW (t:List Nod):Prop:=∃ K,aD t K
theorem aD.lv {t:List Nod}(h:aD t K):lvs t=2 ^ K:=by
 unfold lvs;rw[h.len];have:=bE K;have:=bi K;omega
theorem aD.len2 {t:List Nod}(h:aD t K):t.length=2*2 ^ K - 1:=by rw[h.len,bi]
theorem aD.okA {t:List Nod}(h:aD t K)(x:Nat):okP t x:=by
 by_cases a:x<t.length
 ·exact h.ok x a
 ·exact .inl (jB (by omega))
theorem An {t:List Nod}{x:Nat}(h:okP t x)(a:(ats t x).kind=0):ats t x=aX:=by
 rcases h with h|⟨h,_⟩
 ·exact h
 ·omega
theorem aD.even {t:List Nod}(h:aD t K)(i:Nat):ats t (2*i)=aX\/((ats t (2*i)).kind=1/\(ats t (2*i)).un=[]/\eh (ats t (2*i)).name (ats t (2*i)).pub/\((ats t (2*i)).hash.length=0\/(ats t (2*i)).hash.length=32)):=by
 rcases h.okA (2*i) with a|⟨a,d,c,b,_⟩
 ·exact .inl a
 ·have e:(ats t (2*i)).kind=1:=by rw[a];omega
  exact .inr ⟨e,b e,d,c⟩
theorem aD.odd {t:List Nod}(h:aD t K){x:Nat}(c:x % 2=1):ats t x=aX\/((ats t x).kind=2/\unP t (loV x) (hiV x) (ats t x).un):=by
 rcases h.okA x with a|⟨a,g,f,d,b⟩
 ·exact .inl a
 ·have e:(ats t x).kind=2:=by rw[a];omega
  exact .inr ⟨e,(b e).2⟩
theorem aD.unAt {t:List Nod}(h:aD t K)(l:j<=10)(g:q<2 ^ (10 - j))(i:Int)(a:i∈(ats t (nd j q)).un):
  ∃ k:Nat,i=(k:Int)/\k / 2 ^ j=q/\(ats t (2*k)).kind=1:=by
 rcases h.okA (nd j q) with b|⟨b,u,s,n,m⟩
 ·rw[b] at a;simp[aX] at a
 ·by_cases e:(ats t (nd j q)).kind=1
  ·rw[n e] at a;simp at a
  ·have o:(ats t (nd j q)).kind=2:=by omega
   obtain⟨r,p,c⟩:=(m o).2.2 i a;obtain⟨f,d⟩:=kY l g;rw[f] at r;rw[d] at p;obtain⟨k,rfl⟩:=Kc (show 0<=i by omega);rw[JX] at c;refine⟨k,rfl,(qJ j q k).1 ⟨by omega,?_⟩,c⟩;have:=bE j;omega
def qR (t:List Nod)(name:Int):Nat:=(List.range (lvs t)).findIdx λi=>decide ((ats t (2*i)).kind=1/\(ats t (2*i)).name=name)
def ib (t:List Nod)(name:Int):Bool:=decide (qR t name<lvs t)
def ll (t:List Nod)(name:Int):Int:=if ib t name then (qR t name:Int) else 0
theorem qS (h:(List.range n).findIdx p<n):p ((List.range n).findIdx p)=true:=by
 have:=List.findIdx_getElem (p:=p) (xs:=List.range n) (w:=by rw[List.length_range];exact h);rwa [List.getElem_range] at this
theorem Ao (h:i<(List.range n).findIdx p):p i=false:=by
 have a:i<(List.range n).length:=JV h Np;have:=List.not_of_lt_findIdx (p:=p) (xs:=List.range n) h;rw[List.getElem_range] at this;simpa using this
theorem ug (n:Nat)(p:Nat->Bool):(List.range n).findIdx p<=n:=by
 have:=Np (p:=p) (xs:=List.range n);rwa [List.length_range] at this
theorem uh (d:i<=n)(c:i<n->p i=true)(b:∀ k,k<i->p k=false):(List.range n).findIdx p=i:=by
 rcases Nat.lt_trichotomy ((List.range n).findIdx p) i with h|h|h
 ·have:=qS (p:=p) (n:=n) (by omega)
  rw[b _ h] at this;cases this
 ·exact h
 ·have a:=Ao h
  have e:=ug n p;rw[c (by omega)] at a;cases a
def dH (t:List Nod):Nat:=(List.range (lvs t)).findIdx λi=>decide ((ats t (2*i)).kind=0)
def gH (l:List Int)(n:Int):Nat:=l.findIdx λx=>decide (n<x)
def jC (l:List Int)(n:Int):List Int:=l.take (gH l n)++n :: l.drop (gH l n)
def lgT (t:List Nod):Nat:=(lvs t).log2
def pathT (t:List Nod)(i:Nat):List Nat:=aL (lgT t) 0 i
def aP (t:List Nod):List Nod:=if dH t=lvs t then t++List.replicate (t.length+1) aX else t
def ic (n:Nod)(i:Nat):Nod:=⟨n.kind,n.name,n.pub,jC n.un i,n.hash⟩
def da (o:List Nod)(i:Nat)(x:Nat):List Nod:=if (ats o x).kind=2 then o.set x (ic (ats o x) i) else o
def iG (t:List Nod)(name:Int)(pub:List UInt8):List Nod:=
 (pathT (aP t) (dH t)).foldl (λo x=>da o (dH t) x) ((aP t).set (2*dH t) (aN name pub))
def eG (t:List Nod)(name:Int)(pub:List UInt8):Int:=
 if eh name pub then (if ib t name then 12 else if dH t=1024 then 4 else 0) else 1
def iH (t:List Nod)(name:Int)(pub:List UInt8):List Nod:=if eG t name pub=0 then iG t name pub else t
def jf (t:List Nod)(name:Int)(pub:List UInt8):Int:=if eG t name pub=0 then (dH t:Int) else 0
def bc (t:List Nod)(i:Int):Prop:=0<=i/\i<lvs t/\(ats t (2*i.toNat)).kind=1
instance (t:List Nod) (i:Int):Decidable (bc t i):=by unfold bc;infer_instance
def ig (t:List Nod)(i:Nat):List Nod:=(pathT t i).foldl (λo x=>o.set x aX) t
def Ap (t:List Nod)(f:Nat):Prop:=∀ i,f<=i->i<lvs t->(ats t (2*i)).kind=0
instance (t:List Nod) (f:Nat):Decidable (Ap t f):=
 decidable_of_iff (∀ i,i<lvs t->f<=i->(ats t (2*i)).kind=0) ⟨λh i h1 h2=>h i h2 h1,λh i h1 h2=>h i h2 h1⟩
def ui (t:List Nod)(i:Nat):List Nod:=(ig t i).set (2*i) aX
def mF (t:List Nod)(i:Int)(pub:List UInt8):Int:=if pub.length=32 then (if bc t i then 0 else 11) else 1
def bk (t:List Nod)(i:Nat)(pub:List UInt8):List Nod:=(ig t i).set (2*i) (aN (ats t (2*i)).name pub)
def mG (t:List Nod)(i:Int)(pub:List UInt8):List Nod:=if mF t i pub=0 then bk t i.toNat pub else t
def bt (t:List Nod):Nat->Nat->List Int
 | 0,q=>if (ats t (nd 0 q)).kind=0 then [] else ((nd 0 q:Nat):Int) :: (ats t (nd 0 q)).un.map (2*·)
 | j+1,q=>if (ats t (nd (j+1) q)).kind=0 then bt t j (2*q)++bt t j (2*q+1) else ((nd (j+1) q:Nat):Int) :: (ats t (nd (j+1) q)).un.map (2*·)
def ii (t:List Nod)(x:Int):List Int:=if 0<=x/\x<t.length then bt t (lev x.toNat) (qOf x.toNat) else []
def ij (t:List Nod)(m:Nat):Prop:=t.length<=m/\∀ n∈t,n.pub.length<=40/\n.hash.length<=40/\n.un.length<=m
theorem BG (l:List UInt8):(fA l).length=l.length+9+fill l.length:=by unfold fA;rw[JQ,lC];omega
theorem BH (l:List UInt8):(fA l).length=64*((fA l).length / 64):=by
 have:=ux l.length;have h:(fA l).length=l.length+(pad l.length).length:=by unfold fA;rw[JQ]
 omega
theorem iQ (s:S8)(l:List UInt8)(k:Nat):bI s l (k+1)=mK dd (bI s l k) ((l.drop (64*k)).take 64):=by rw[bI]
theorem uQ (n:Nat)(h:n<=2000):jH (n:Int)=pad n:=by
 unfold jH;rw[if_pos (by omega),JX]
theorem BI (x:Int)(s:S8)(v:Value)(b:List UInt8)(a:Nat)(d f:Nat)(k:List UInt32)(w:World)(h:Rd w v b)(i:a+64<=b.length)(j:Arr 247 w d k)(c:k.length=64)(g:x=a):
  Calls prog 226 #[.agg (aY s.list),v,.int .i64 x,.slice (some ⟨d,0,none⟩) 64 f] w λe w'=>e=.returned (.agg (aY (mK k s ((b.drop a).take 64)).list))/\Kp w w':=by
 subst g;exact Bq s v b a d f k w h i j c
theorem BJ (x:UInt32):∃ d c b a:UInt8,lz x=[d,c,b,a]/\IntKind.u8.wrap (aa x / 16777216)=(d.toNat:Int)/\IntKind.u8.wrap (aa x / 65536 % 256)=(c.toNat:Int)/\IntKind.u8.wrap (aa x / 256 % 256)=(b.toNat:Int)/\IntKind.u8.wrap (aa x % 256)=(a.toNat:Int):=by
 refine⟨_,_,_,_,rfl,?_,?_,?_,?_⟩ <;> rw[LC] <;> unfold aa <;> simp
theorem jN (v:Value)(l:List UInt8)(w:World)(h:Rd w v l)(hl:l.length<=2000):
  Calls prog 185 #[v] w λe w'=>(∃ v',e=.returned v'/\Ow 5 w' w.heap.size v' (bJ l))/\Kp w w':=by
 have U:=aj;obtain⟨a,c,rfl,h1,h2⟩:=h.shape;unfold maxLen at h2;have Q:=BG l;have o:=BH l;have af:=lB l.length;obtain⟨P,hP⟩:∃ P,fA l=P:=⟨_,rfl⟩;have Z:l++pad l.length=P:=hP;have X:bJ l=(bI dK P (P.length / 64)).bytes:=by unfold bJ;rw[hP]
 rw[X];rw[hP] at Q o;obtain⟨N,hN⟩:∃ N,P.length / 64=N:=⟨_,rfl⟩;rw[hN] at o ⊢;have HP:=JE Z;have HL:=JE o;have aB:N<=40:=by omega
 have aA:P.length<=2600:=by omega
 have O:=uQ l.length hl;have an:=JE O;have ay:=hl;clear X hP Z o Q hN O af;go_enter func185,ntmps185;go_wp2_with(first
  | (at_builtin;refine bw U rfl _ _ rfl w.heap.size _ _ rfl (NT w 5 w.heap.size 0 #[] [] (JO _) rfl (by decide) rfl) _ l rfl (h.kp ((NQ w).alloc _)) ?c1 ?c2 ?_;rotate_right;intro v1 w1 E V _;have H:Kp w w1:=NS ((NQ w).alloc _) V (by intro k e;cases e;exact JO _);clear V)
  | (go_at_call 223;refine(AV _ _).mono ?_;rintro e w2 ⟨⟨vp,rfl,C⟩,t⟩;rw[an.out] at C)
  | (at_builtin;refine bw U rfl _ _ rfl w.heap.size _ _ rfl (E.kp t) _ (pad l.length) rfl C ?c3 ?c4 ?_;rotate_right;intro v2 w3 D T _;have S:Kp w w3:=NS (H.trans t) T E.own_ge;rw[La,HP.out] at D;clear T))
 case c1=>simp;omega
 case c2=>simp
 case c3=>have:=lB l.length;have:=lC l.length;simp;omega
 case c4=>exact(H.trans t).size
 refine(Bu _).mono ?_;rintro e w4 ⟨⟨gk,rfl,hA,_⟩,G⟩;go_wp2_with fail;refine(Bt _).mono ?_;rintro e g ⟨rfl,r⟩;have ai:=hA.kp r;have M:=(D.rd.kp G).kp r;have y:Kp w g:=(S.trans G).trans r;clear hA G r D S E H t C;obtain⟨a2,c2,rfl,aw,ab⟩:=M.shape;unfold maxLen at ab;go_wp2_with(refine iL (by kernel_rfl) rfl rfl (.tmp 5) (.tmp 17) rfl g.heap.size (bf 8) dK.list rfl rfl (Of _ _ _ _ rfl) rfl rfl ?_;intro w6 Y f)
 have R:Kp g w6:=f.below ((NQ g).alloc _) (JO _);clear f;go_loopw[6] (λi wr=>∃ k:Nat,k<=N/\i=.int .i64 (64*(k:Int))/\Arr 252 wr g.heap.size (bI dK P k).list/\Kp g wr) (λi _=>(64*N - (intOf i).toNat))
 case atStart=>exact⟨0,by omega,rfl,Y,R⟩
 case round=>
  clear Y R;obtain⟨k,az,rfl,z,J⟩:=hrel;by_cases ax:k<N
  ·have n:64*(k:Int)<(P.length:Int):=by rw[HL.out];omega
   have HS:=JE (BI (64*(k:Int)) (bI dK P k) (.slice a2 P.length c2) P (64*k) gk 64 dd wr (M.kp J) (by rw[HL.out];omega) (ai.kp J) rfl (by simp));rw[<-iQ] at HS;obtain⟨s',B⟩:∃ s',bI dK P (k+1)=s':=⟨_,rfl⟩;rw[B] at HS;have am:=JE B;clear B;generalize bI dK P k=s at *;go_wp2_with(refine jj underlying252 (by kernel_rfl) rfl (.tmp 5) rfl g.heap.size s.list rfl z rfl ?_)
   refine HS.out.mono ?_;rintro e w7 ⟨rfl,F⟩;have ah:=z.kp F;have ae:Kp g w7:=J.trans F;clear z J F;go_wp2_with(refine iL (by kernel_rfl) rfl rfl (.tmp 5) (.tmp 28) rfl g.heap.size s.list s'.list rfl rfl ah rfl rfl ?_;intro w8 ag f)
   go_roundw
   case rel=>exact⟨k+1,by omega,by congr 1,by rw[am.out];exact ag,f.below ae (JO _)⟩
   case measure=>simp[intOf];omega
  ·obtain rfl:k=N:=by omega
   have n:¬64*(k:Int)<(P.length:Int):=by rw[HL.out];omega
   obtain⟨s,A⟩:∃ s,bI dK P k=s:=⟨_,rfl⟩;rw[A] at z;have al:=JE A;clear A;go_wp2_with fail;rename World=>wA
   go_loopw[7,8] (λv i wq=>∃ j:Nat,j<=8/\i=.int .i64 j/\Ow 5 wq wA.heap.size v (jM s j)/\Kp wA wq) (λ_ i _=>(8 - intOf i).toNat)
   case atStart=>exact⟨0,by omega,rfl,NR _ _ _,NQ _⟩
   case round=>
    obtain⟨j,hj,rfl,b,m⟩:=hrel;by_cases d:j<8
    ·have K:=(z.kp m).cell j d
     have hs:=rz s j d;have u:=oZ s j (by omega);generalize s.list.getD j 0=x at *;obtain⟨b0,b1,b2,b3,h4,v0,av,au,v3⟩:=BJ x;rw[h4] at hs;generalize jM s j=L at *;have HS:=JE hs;have ao:=JE u;have q:(j:Int)<8:=by omega
     clear hs u h4 n;go_wp2_with fail;have u0:=uq x;have u1:=ur x;have w0:IntKind.u32.wrap ((aa x).tdiv 16777216)=aa x / 16777216:=by rw[Kx u0];exact fY _ (by omega) (by omega)
     have ar:IntKind.u32.wrap ((aa x).tdiv 65536)=aa x / 65536:=by rw[Kx u0];exact fY _ (by omega) (by omega)
     have aq:IntKind.u32.wrap ((aa x).tdiv 256)=aa x / 256:=by rw[Kx u0];exact fY _ (by omega) (by omega)
     have m1:(aa x / 65536).tmod 256=aa x / 65536 % 256:=Kv (by omega);have m2:(aa x / 256).tmod 256=aa x / 256 % 256:=Kv (by omega);have m3:(aa x).tmod 256=aa x % 256:=Kv u0;clear u0 u1;have ap:g.heap.size<wr.heap.size:=Kl wr _ K;go_region_held3 (λW=>W.cell? ⟨g.heap.size,j,none⟩=some (.int .u32 (aa x)))
      (first
       | exact K
       | exact(((NQ wr).alloc _).drew).cell K
       | exact(((NQ wr).drew).alloc _).cell K
       | exact(NS (((NQ wr).alloc _).drew) I (λk e=>absurd e (by simp))).cell K
       | (exact ak)
       | trace_state)
      (first
       | (refine BF U rfl (.tmp 33) (.tmp 56) rfl wA.heap.size _ _ rfl (b.kp ((NQ _).alloc _).drew) _ 4 4 [b0,b1,b2,b3] rfl ((NT wr 5 0 4 _ _ (JW _) rfl (by decide) rfl).kp (NQ _).drew).rd (by rw[ao.out];simp;omega) (by have:=m.size;simp;omega) ?_;intro v' w9 ad I;have ak:w9.cell? ⟨g.heap.size,j,none⟩=some (.int .u32 (aa x)):=(Below.cell (NS (m.alloc _).drew I b.own_ge) (p:=⟨g.heap.size,j,none⟩) (Arr.lt z)).trans ((z.cell j d).trans (by have:=(z.kp m).cell j d;rw[K] at this;exact this.symm))))
     all_goals
      go_wp2_with fail;go_roundw
      case rel=>exact⟨j+1,by omega,by go_num,by rw[HS.out];exact ad,NS (m.alloc _).drew I b.own_ge⟩
      case measure=>simp[intOf];omega
    ·obtain rfl:j=8:=by omega
     go_wp2_with fail;go_ret;exact⟨⟨_,rfl,by rw[al.out];exact b.mono (y.trans J).size⟩,(y.trans J).trans m⟩
theorem uR (s:S8)(l m:List UInt8):∀ k,64*k<=l.length->bI s (l++m) k=bI s l k
 | 0,_=>rfl
 | k+1,h=>by
  rw[iQ,iQ,uR s l m k (by omega),LX (by omega),LW (by simp;omega)]
theorem uS (s:S8)(P:List UInt8)(a:Nat):∀ k,bI (bI s P a) (P.drop (64*a)) k=bI s P (a+k)
 | 0=>rfl
 | k+1=>by
  rw[iQ,uS s P a k,List.drop_drop,show a+(k+1)=(a+k)+1 by omega,iQ,show 64*a+64*k=64*(a+k) by omega]
theorem BK (l:List UInt8)(N M:Nat)(e:N=l.length / 64)(a:64*M=(l.drop (64*N)++pad l.length).length):
  bJ l=(bI (bI dK l N) (l.drop (64*N)++pad l.length) M).bytes:=by
 have f:(fA l).length=64*(N+M):=by
  unfold fA;rw[JQ] at a ⊢;rw[LG] at a;omega
 have d:(fA l).length / 64=N+M:=by omega
 have c:l.drop (64*N)++pad l.length=(fA l).drop (64*N):=by
  unfold fA;rw[LX (by omega)]
 unfold bJ;rw[d,c,<-uS];have b:bI dK (fA l) N=bI dK l N:=uR _ _ _ _ (by omega);rw[b]
theorem BM (l:List UInt8)(N:Nat)(a:N=l.length / 64):64*((l.drop (64*N)++pad l.length).length / 64)=(l.drop (64*N)++pad l.length).length:=by
 have:=ux l.length;rw[JQ,LG];omega
theorem BN {P:Program}{b:Array Oper}{rest:List Oper}{o:Oper}{a:Act}{Q:Exit->Act->World->Prop}(d:o.guard=none)(s x:Operand)(t f:TypeId)
  (j:o.op=.call { callee:=.builtin .append,args:=#[s,x],argTypes:=#[t,f] }) (vs e v:Value) (i:a.eval s=vs) (g:a.eval x=e)
  (c:(Builtin.append_ #[t,f] o.type #[vs,e]).run P w=.ok v w') (h:wpList P b Q rest (a.put o.dst v) w'):wpList P b Q (o :: rest) a w:=by
 refine wpList_plain d λK k=>?_
 unfold Oper.wp;simp[execOp,j,resolve,invoke,builtin,i,g,c,Result.andThen];exact k _ _ h
theorem uU (n:Nat)(w:World)(q:0<n)(t:n<=1000000):
  Calls prog 196 #[.slice none 0 0,.int .i64 n] w λe w'=>(∃ v,e=.returned v/\Ow 5 w' w.heap.size v [])/\Kp w w':=by
 obtain⟨k,l,c,j,b⟩:=info_parts Og;have a:(Builtin.firstCells k.size 0 (.slice none 0 0)).run prog w.drew=.ok ([]:List Value).toArray w.drew:=rfl;have d:∀ i,(Builtin.append_ #[24,3] i #[.slice none 0 0,.int .i64 (n:Int)]).run prog w =
   .ok (.slice (some ⟨w.heap.size,0,none⟩) n (grownCap w n 0 5)) (w.drew.alloc (.cells (#[]++Builtin.zeroCells (Value.int .u8 0).cells n++Builtin.zeroCells (Value.int .u8 0).cells (grownCap w n 0 5 - n)) 5)):=λi=>by
  have h:=Lib.run_append_grow_zeros w 24 3 i 5 k (.int .u8 0) .i64 .i64 underlying24 underlying3 l c none 0 0 [] a n q (by omega) (by omega) (by omega) (by rw[b];omega)
   (by rw[b];have:=growslice_fits (need:=0+n) (old:=0) (bytes:=1) (by omega) (by omega);exact this)
  simpa using h
 have p:n<=grownCap w n 0 5:=grownCap_ge w _ _ _;have f:=grownCap_le_maxLen w n 0 5 (by unfold maxLen;omega);generalize grownCap w n 0 5=G at *;unfold maxLen at f;have o:¬(n:Int)<0:=by omega
 have m:0<(n:Int):=by omega
 clear a;go_enter func196,ntmps196;have g:(#[]++Builtin.zeroCells (Value.int .u8 0).cells n++Builtin.zeroCells (Value.int .u8 0).cells (G - n):Array Value).size=G:=by
  simp[size_zeroCells,Value.cells];omega
 generalize (#[]++Builtin.zeroCells (Value.int .u8 0).cells n++Builtin.zeroCells (Value.int .u8 0).cells (G - n):Array Value)=cs at *;have r:=JE d;have s:=JE g;clear d g c j b l;go_wp2_with(at_builtin;refine BN rfl (.tmp 20) (.tmp 21) _ _ rfl _ _ _ rfl rfl (r.out _) ?_)
 go_ret;refine⟨⟨_,rfl,?_⟩,(NQ w).drew.alloc _⟩;refine⟨rfl,.inr ⟨w.heap.size,G,cs,rfl,JO _,?_,JW _,by unfold maxLen;exact f,by rw[s.out];simp,by simp[Lib.byteCells]⟩⟩;exact heap_alloc_new w.drew _
theorem uV (g c:Nat)(x u:Value)(a b:List UInt8)(w:World)(t:w.cell? ⟨g,0,none⟩=some x)(r:w.cell? ⟨g,1,none⟩=some u)(B:Rd w x a)(A:Rd w u b)(G:0<a.length+b.length)(H:a.length+b.length<=1000000):
  Calls prog 168 #[.slice (some ⟨g,0,none⟩) 2 c] w λe w'=>(∃ v,e=.returned v/\Ow 5 w' w.heap.size v (a++b))/\Kp w w':=by
 have U:=aj;obtain⟨M,K,rfl,p1,F⟩:=B.shape;obtain⟨L,J,rfl,p2,E⟩:=A.shape;unfold maxLen at F E;go_enter func168,ntmps168;go_wp2_with fail;go_loopw[3,11] (λs i wr=>((s=.int .i64 0/\i=.int .i64 0)\/(s=.int .i64 (a.length:Int)/\i=.int .i64 1)\/(s=.int .i64 ((a.length:Int)+(b.length:Int))/\i=.int .i64 2))/\wr=w) (λ_ i _=>2 - (intOf i).toNat)
 case atStart=>exact⟨.inl ⟨rfl,rfl⟩,rfl⟩
 case round=>
  obtain⟨k,rfl⟩:=hrel;rcases k with⟨rfl,rfl⟩|⟨rfl,rfl⟩|⟨rfl,rfl⟩
  ·go_wp2_with fail
   go_roundw
   case rel=>exact⟨.inr (.inl ⟨by simp,rfl⟩),trivial⟩
   case measure=>simp[intOf]
  ·go_wp2_with fail
   go_roundw
   case rel=>exact⟨.inr (.inr ⟨by simp,rfl⟩),trivial⟩
   case measure=>simp[intOf]
  ·rename World=>w0
   have h:((a.length+b.length:Nat):Int)=(a.length:Int)+(b.length:Int):=by simp
   have C:=JE (uU (a.length+b.length) w0 G H);rw[h] at C;clear h;go_wp2_with fail;refine C.out.mono ?_;rintro e I ⟨⟨v,rfl,d⟩,n⟩;go_wp2_with fail;go_loopw[6,27] (λaa i o=>((Ow 5 o w0.heap.size aa []/\i=.int .i64 0)\/(Ow 5 o w0.heap.size aa a/\i=.int .i64 1)\/(Ow 5 o w0.heap.size aa (a++b)/\i=.int .i64 2))/\Kp w0 o) (λ_ i _=>2 - (intOf i).toNat)
   case atStart=>exact⟨.inl ⟨d,rfl⟩,n⟩
   case round=>
    clear d n;obtain⟨k,j⟩:=hrel;have z:=j.cell t;have y:=j.cell r;have q:=B.kp j;have p:=A.kp j;have m:=j.size;rcases k with⟨d,rfl⟩|⟨d,rfl⟩|⟨d,rfl⟩
    ·go_wp2_with(at_builtin;refine bw U rfl _ _ rfl w0.heap.size _ _ rfl d _ a rfl q ?c1 m ?_;rotate_right;intro D w2 f l _)
     case c1=>simp;omega
     rw[La] at f;go_roundw
     case rel=>exact⟨.inr (.inl ⟨f,rfl⟩),NS j l d.own_ge⟩
     case measure=>simp[intOf]
    ·go_wp2_with(at_builtin;refine bw U rfl _ _ rfl w0.heap.size _ _ rfl d _ b rfl p ?c1 m ?_;rotate_right;intro D w2 f l _)
     case c1=>omega
     go_roundw
     case rel=>exact⟨.inr (.inr ⟨f,rfl⟩),NS j l d.own_ge⟩
     case measure=>simp[intOf]
    ·go_wp2_with fail
     go_ret;exact⟨⟨_,rfl,d⟩,j⟩
theorem vq (ls:List (List UInt8))(k:Nat)(h:k<ls.length):(ls.take (k+1)).flatten=(ls.take k).flatten++ls.getD k []:=by
 rw[JZ h,List.flatten_append,JF,JG h];simp
theorem vr (ls:List (List UInt8))(k:Nat):(ls.take k).flatten.length<=ls.flatten.length:=by
 have e:ls.flatten=(ls.take k).flatten++(ls.drop k).flatten:=by rw[<-List.flatten_append,List.take_append_drop]
 rw[e,JQ];omega
theorem lF (v:Value)(ls:List (List UInt8))(w:World)(h:RL w v ls)(O:0<ls.flatten.length)(P:ls.flatten.length<=1000000)(hn:ls.length<=1000000):
  Calls prog 168 #[v] w λe w'=>(∃ v,e=.returned v/\Ow 5 w' w.heap.size v ls.flatten)/\Kp w w':=by
 have U:=aj;obtain⟨a,c,rfl,h1,Z⟩:=h.shape;unfold maxLen at Z;have A:=JE (uU ls.flatten.length w O P);have K:=JE (vq ls);have S:=JE (vr ls);have q:(ls.take ls.length).flatten=ls.flatten:=by rw[Kz]
 have V:=JE q;clear q;go_enter func168,ntmps168;go_wp2_with fail;go_loopw[3,11] (λs i wr=>(∃ k:Nat,k<=ls.length/\i=.int .i64 k/\s=.int .i64 ((ls.take k).flatten.length:Int))/\wr=w) (λ_ i _=>ls.length - (intOf i).toNat)
 case atStart=>exact⟨⟨0,by omega,rfl,rfl⟩,rfl⟩
 case round=>
  obtain⟨⟨k,W,rfl,rfl⟩,rfl⟩:=hrel;rename World=>w
  by_cases f:k<ls.length
  ·obtain⟨b,B,rfl,_,d⟩:=h.at k f
   obtain⟨aa,m,g⟩:=d k f;obtain⟨au,cu,rfl,p1,p2⟩:=g.shape;have t:=congrArg List.length (K.out k f);rw[JQ] at t;have l:=S.out (k+1);obtain⟨N,G⟩:∃ N,(ls.take k).flatten.length=N:=⟨_,rfl⟩;obtain⟨M,H⟩:∃ M,(ls.getD k []).length=M:=⟨_,rfl⟩;obtain⟨T,y⟩:∃ T,(ls.take (k+1)).flatten.length=T:=⟨_,rfl⟩;rw[G,H,y] at t;rw[y] at l;rw[H] at m p1;rw[G];have b1:(N:Int)+(M:Int)<=1000000:=by omega
   have HT:=JE (show(T:Int)=(N:Int)+(M:Int) by omega);have I:=JE y;unfold maxLen at p2;clear d g t G H y A;go_wp2_with fail;go_roundw
   case rel=>exact⟨⟨k+1,by omega,by go_num,by rw[I.out,HT.out]⟩,trivial⟩
   case measure=>simp[intOf];omega
  ·obtain rfl:k=ls.length:=by omega
   rw[V.out];obtain⟨F,z⟩:∃ F,ls.flatten.length=F:=⟨_,rfl⟩;rw[z] at A O P;rw[z];have J:=JE z;clear z;go_wp2_with fail;refine A.out.mono ?_;rintro e w1 ⟨⟨v,rfl,o⟩,u⟩;go_wp2_with fail;go_loopw[6,27] (λaa i L=>(∃ k:Nat,k<=ls.length/\i=.int .i64 k/\Ow 5 L w.heap.size aa (ls.take k).flatten)/\Kp w L) (λ_ i _=>ls.length - (intOf i).toNat)
   case atStart=>exact⟨⟨0,by omega,rfl,o⟩,u⟩
   case round=>
    clear o u;obtain⟨⟨k,W,rfl,o⟩,j⟩:=hrel;by_cases f:k<ls.length
    ·obtain⟨b,B,rfl,_,d⟩:=h.at k f
     obtain⟨aa,m,g⟩:=d k f;have x:=j.cell m;have n:=g.kp j;obtain⟨au,cu,rfl,p1,p2⟩:=g.shape;have t:=congrArg List.length (K.out k f);rw[JQ] at t;have l:=S.out (k+1);rw[J.out] at l;have p:(List.take k ls).flatten.length+(ls.getD k []).length<=1000000:=by omega
     have C:=j.size;have r:=JE (K.out k f);obtain⟨X,R⟩:∃ X,ls.getD k []=X:=⟨_,rfl⟩;obtain⟨Y,Q⟩:∃ Y,(ls.take k).flatten=Y:=⟨_,rfl⟩;rw[R] at x n p1 p r;rw[Q] at o p r;unfold maxLen at p2;clear d g t m l A R Q;go_wp2_with(at_builtin;refine bw U rfl _ _ rfl w.heap.size _ _ rfl o _ X rfl n ?c1 C ?_;rotate_right;intro v' w2 D E _)
     case c1=>omega
     go_roundw
     case rel=>exact⟨⟨k+1,by omega,by go_num,by rw[r.out];exact D⟩,NS j E o.own_ge⟩
     case measure=>simp[intOf];omega
    ·obtain rfl:k=ls.length:=by omega
     rw[V.out] at o;go_wp2_with fail;go_ret;exact⟨⟨_,rfl,o⟩,j⟩
section
open Go.ChangeShapes Go.Deep Go.WideShapes
section
variable {H : Type} {enc : TypeId × Value -> H} {P : Program} {w : World} {base : Nat} {spare : Nat -> Bool} {held : Bool}
theorem Jw {t:TypeId}{c:Array Field}{N:Nat}{d:DataW H}{p:List MemPlace}{s:Nat}(g:P.underlying t=some (.struct c))(q:P.cellsOf t=N)
  (k:Value.okWide P w r s t v) (h:DataW.Trod enc P w base spare held t v d p):
  ∃ (cs:List Value) (xs:List (DataW H × List MemPlace)) (n:Nat),v=.agg cs.toArray/\cs.length=N/\d=.agg (xs.map (·.1))/\xs.length=c.size /\
   ∀ (i:Nat) (f:Field),c[i]?=some f->DataW.trod enc P w base spare held n f.type ((cs.drop f.offset).take (P.cellsOf f.type))=xs[i]?:=by
 obtain⟨cs,rfl,b⟩:=okWide_struct g k;obtain⟨l⟩:=cs;obtain⟨j,o⟩:=h;obtain⟨xs,n,_,e,_,a,m⟩:=Nt g o;simp only[Prod.mk.injEq] at e;exact⟨l,xs,n,rfl,b.trans q,e.1,a,m⟩
theorem Jy {t:TypeId}{i g f e c b:Field}{d:DataW H}{p:List MemPlace}{W:Nat}(U:P.underlying t=some (.struct #[i,g,f,e,c,b]))(V:P.cellsOf t=7)
  (E:[(i.offset,P.cellsOf i.type),(g.offset,P.cellsOf g.type),(f.offset,P.cellsOf f.type),(e.offset,P.cellsOf e.type),(c.offset,P.cellsOf c.type),(b.offset,P.cellsOf b.type)]=([(0,1),(1,1),(2,1),(3,1),(4,1),(5,2)]:List (Nat × Nat)))
  (T:Value.okWide P w r W t v) (h:DataW.Trod enc P w base spare held t v d p):
  ∃ (B A z y x u s:Value) (q o m l k j:DataW H × List MemPlace) (n:Nat),v=.agg #[B,A,z,y,x,u,s]/\d=.agg [q.1,o.1,m.1,l.1,k.1,j.1]/\DataW.trod enc P w base spare held n i.type [B]=some q/\DataW.trod enc P w base spare held n g.type [A]=some o/\DataW.trod enc P w base spare held n f.type [z]=some m/\DataW.trod enc P w base spare held n e.type [y]=some l/\DataW.trod enc P w base spare held n c.type [x]=some k/\DataW.trod enc P w base spare held n b.type [u,s]=some j:=by
 obtain⟨cs,xs,n,rfl,D,rfl,C,a⟩:=Jw U V T h
 simp only[NG,Prod.mk.injEq,and_true] at E
 obtain⟨⟨L,S⟩,⟨K,R⟩,⟨J,Q⟩,⟨I,O⟩,⟨G,N⟩,⟨F,M⟩⟩:=E
 match cs,D,xs,(show xs.length=6 from C) with
 | [B,A,z,y,x,u,s],_,[q,o,m,l,k,j],_=>
  exact⟨B,A,z,y,x,u,s,q,o,m,l,k,j,n,rfl,rfl,by simpa [L,S] using a 0 i rfl,by simpa [K,R] using a 1 g rfl,by simpa [J,Q] using a 2 f rfl,by simpa [I,O] using a 3 e rfl,by simpa [G,N] using a 4 c rfl,by simpa [F,M] using a 5 b rfl⟩
end
